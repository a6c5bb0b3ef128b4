import Derived.Test.YtaejpejfmpbinaaDoorP5
import Derived.Deep.RegionHeld3
import Derived.RangeFuncNested
import Derived.RangeFuncBound
import Derived.RangeFuncCalls
import Derived.RangeFuncLeaves
import Derived.RangeFuncBox
import Derived.Shelf.Abstract
import Derived.Shelf.RegionOpen
import Derived.OwnWalkIn
import Derived.TacticsInMore
import Derived.LoopNIn
import Derived.LoopIn
import Derived.Maps.AppendAt
namespace Go.Proofs.YtaejpejfmpbinaaDoor
open Go.RowKit

theorem set2_0 {w : World} {b : Nat} {u v0 v1 : Value} (h : w.cell? ⟨b, 0, none⟩ = some u) : ((w.setCell ⟨b, 0, none⟩ v0).setCell ⟨b, 1, none⟩ v1).cell? ⟨b, 0, none⟩ = some v0 := by
  rw [set_other (.inr (by omega))]
  exact set_same h
theorem set2_1 {w : World} {b : Nat} {u v0 v1 : Value} (h : w.cell? ⟨b, 1, none⟩ = some u) : ((w.setCell ⟨b, 0, none⟩ v0).setCell ⟨b, 1, none⟩ v1).cell? ⟨b, 1, none⟩ = some v1 :=
  set_same (u := u) (by rw [set_other (.inr (by omega))]; exact h)

/-- A cut in a box of two cells, which may be written. -/
def CutBox (w : World) (b f : Nat) (last : Int) : Prop := f < 5 ∧ b < w.heap.size ∧ (∀ j, w.frozen? ⟨b, j, none⟩ = false) ∧ w.cell? ⟨b, 0, none⟩ = some (.int .i64 f) ∧ w.cell? ⟨b, 1, none⟩ = some (.int .i64 last)
theorem CutBox.below {B : Nat} {w w' : World} {b f : Nat} {last : Int} (h : CutBox w b f last) (hb : Below B w w') (hB : b < B) : CutBox w' b f last :=
  ⟨h.1, Nat.lt_of_lt_of_le h.2.1 hb.size, fun j => (hb.frozen (p := ⟨b, j, none⟩) hB).trans (h.2.2.1 j), (hb.cell (p := ⟨b, 0, none⟩) hB).trans h.2.2.2.1, (hb.cell (p := ⟨b, 1, none⟩) hB).trans h.2.2.2.2⟩
theorem CutBox.set {w : World} {b f f' : Nat} {last last' : Int} (h : CutBox w b f last) (hf : f' < 5) : CutBox ((w.setCell ⟨b, 0, none⟩ (.int .i64 f')).setCell ⟨b, 1, none⟩ (.int .i64 last')) b f' last' :=
  ⟨hf, by simpa using h.2.1, fun j => by simpa using h.2.2.1 j, set2_0 h.2.2.2.1, set2_1 h.2.2.2.2⟩

set_option maxRecDepth 100000 in
set_option maxHeartbeats 1000000 in
theorem bestCut_any (v : Value) (es : List Ent) (w : World) (hes : BunchAt w v es) (hn : es.length ≤ 200) :
    Calls Tryd.prog 62 #[v] w fun e w' => ∃ (f : Nat) (last : Int) (ok : Bool), f < 5 ∧ e = .returned (.tuple #[.agg #[.int .i64 f, .int .i64 last], .bool ok]) ∧ Below w.heap.size w w' := by
  have HB := hide hes
  obtain ⟨a, cap, rfl, _, _⟩ := hes
  go_enter Tryd.func62, Tryd.ntmps62
  go_wp2
  go_loopw [3, 4, 10] (fun ok m i wr => ∃ (k f : Nat) (last mm : Int) (okb : Bool), k ≤ 5 ∧ i = .int .i64 k ∧ ok = .bool okb ∧ m = .int .i64 mm ∧ CutBox wr w.heap.size f last ∧ Below w.heap.size w wr) (fun _ _ i _ => 5 - (intOf i).toNat)
  case atStart => exact ⟨0, 0, 0, _, false, by omega, rfl, rfl, rfl, ⟨by omega, by simp, fun j => World.frozen?_alloc_at _ _ _ _ rfl, by simp, by simp⟩, (by repeat (first | exact Below.refl _ _ | assumption | refine Below.drewN ?_ | refine Below.drew ?_ | refine Below.setCell ?_ (by first | exact Nat.le_refl _ | omega | (simp; done) | (simp; omega)) _ | refine Below.alloc ?_ (by first | exact Nat.le_refl _ | omega | (simp; done) | (simp; omega)) _))⟩
  case round =>
    obtain ⟨k, f, last, mm, okb, hk, rfl, rfl, rfl, hcb, hb⟩ := hrel
    have HC := hide hcb
    have hltb := hcb.2.1
    clear hcb
    by_cases hk5 : k < 5
    · have hki : (k : Int) < 5 := by omega
      go_wp2_with fail
      refine (hulls_any _ es k _ (HB.out.below hb (Nat.le_refl _)) hn hk5).mono ?_
      rintro e w1 ⟨g, cp, rfl, ho, hb1⟩
      have HO := hide ho
      clear ho
      go_wp2_with fail
      refine (part_any g cp es.length _ _ _ HO.out hn).mono ?_
      rintro e w2 ⟨l0, lo, hi, rfl, h1, h2, h3, h4, hb2⟩
      have hb12 : Below wr.heap.size wr w2 := hb1.trans (hb2.mono hb1.size)
      have HC2 := hide (HC.out.below hb12 hltb)
      have hlt2 := HC2.out.2.1
      have HB2 := hide (hb.trans (hb12.mono hb.size))
      clear hb1 hb2 hb12 HO HC
      go_wp2_with fail
      refine (most_any _ _ _ _).mono ?_
      rintro e w3 ⟨rfl, hb3⟩
      obtain ⟨hc3, hf3⟩ := bcell hb3
      have hz3 := hb3.size
      have HC3 := hide ((HC2.out.below ((Below.refl w2.heap.size w2).alloc (Nat.le_refl _) _) hlt2).below hb3 (by simp; omega))
      have HB3 := hide (HB2.out.trans (Below.trans ((Below.refl _ _).alloc HB2.out.size _) (hb3.mono (by have := HB2.out.size; simp; omega))))
      have p0 : w3.cell? ⟨w2.heap.size, 0, none⟩ = some (.int .i64 l0) := cell_later hb3 (by simp)
      have p1 : w3.cell? ⟨w2.heap.size, 1, none⟩ = some (.int .i64 lo) := cell_later hb3 (by simp)
      have p2 : w3.cell? ⟨w2.heap.size, 2, none⟩ = some (.int .i64 hi) := cell_later hb3 (by simp)
      have hlt3 : w2.heap.size < w3.heap.size := by simp at hz3; omega
      generalize hq : maxI lo hi = q at *
      clear hq hc3 hf3 hz3 hb3 HC2 HB2
      by_cases t1 : q < mm
      · by_cases t2 : (lo + hi - es.length) * 4 ≤ es.length
        · go_wp2
          have c0 := HC3.out.2.2.2.1
          have c1 := HC3.out.2.2.2.2
          have f0 := HC3.out.2.2.1 0
          have f1 := HC3.out.2.2.1 1
          have hn1 : ¬ w2.heap.size = w.heap.size := by omega
          have hn2 : ¬ w.heap.size = w2.heap.size := by omega
          have hlt4 : w.heap.size < w3.heap.size := by omega
          go_region_held3 (fun w' => w'.cell? ⟨w2.heap.size, 0, none⟩ = some (.int .i64 l0) ∧ w'.cell? ⟨w2.heap.size, 1, none⟩ = some (.int .i64 lo) ∧ w'.cell? ⟨w2.heap.size, 2, none⟩ = some (.int .i64 hi)) (go_keep)
            (first | (go_at_call 71; refine (most_any _ _ _ _).mono ?_; rintro e w4 ⟨rfl, hb4⟩; have k0 := cell_later hb4 p0; have k1 := cell_later hb4 p1; have k2 := cell_later hb4 p2; have k3 := cell_later hb4 c0; have k4 := cell_later hb4 c1; have k5 : w4.frozen? ⟨w.heap.size, 0, none⟩ = false := (hb4.frozen (p := ⟨w.heap.size, 0, none⟩) hlt4).trans f0; have k6 : w4.frozen? ⟨w.heap.size, 1, none⟩ = false := (hb4.frozen (p := ⟨w.heap.size, 1, none⟩) hlt4).trans f1))
          replace hb4 : Below w3.heap.size w3 w4 := ((Below.refl w3.heap.size w3).drew).trans hb4
          have HC4 := hide ((HC3.out.below hb4 hlt4).set (f' := k) (last' := l0) hk5)
          have HB4 := hide (Below.setCell (Below.setCell (HB3.out.trans (hb4.mono HB3.out.size)) (p := ⟨w.heap.size, 0, none⟩) (Nat.le_refl _) (.int .i64 k)) (p := ⟨w.heap.size, 1, none⟩) (Nat.le_refl _) (.int .i64 l0))
          clear hb4 k0 k1 k2 k3 k4 k5 k6
          go_wp2
          go_roundw
          case rel => exact ⟨k + 1, k, l0, _, true, by omega, by go_num, rfl, rfl, HC4.out, HB4.out⟩
          case measure => simp [intOf]; omega
        · go_wp2
          go_roundw
          case rel => exact ⟨k + 1, f, last, _, okb, by omega, by go_num, rfl, rfl, HC3.out, HB3.out⟩
          case measure => simp [intOf]; omega
      · go_wp2
        go_roundw
        case rel => exact ⟨k + 1, f, last, _, okb, by omega, by go_num, rfl, rfl, HC3.out, HB3.out⟩
        case measure => simp [intOf]; omega
    · have c0 := HC.out.2.2.2.1
      have c1 := HC.out.2.2.2.2
      have f0 := HC.out.2.2.1 0
      have f1 := HC.out.2.2.1 1
      go_wp2
      refine bodyPost_ret (v := .tuple #[.agg #[.int .i64 f, .int .i64 last], .bool okb]) ?_ rfl ⟨f, last, okb, HC.out.1, rfl, ?_⟩
      · have s0 := set2_0 (v0 := .int .i64 f) (v1 := .int .i64 last) c0
        have s1 := set2_1 (v0 := .int .i64 f) (v1 := .int .i64 last) c1
        simp [results, Tryd.results62, go_sem, s0, s1]
      · exact Below.setCell (Below.setCell hb (Nat.le_refl _) _) (Nat.le_refl _) _

end Go.Proofs.YtaejpejfmpbinaaDoor

namespace Go.Proofs.YtaejpejfmpbinaaDoor
open Go.RowKit

/-- A store of what is there turns nothing. -/
theorem sameCut {w : World} {b i : Nat} {v : Value} (h : w.cell? ⟨b, i, none⟩ = some v) : w.setCell ⟨b, i, none⟩ v = w := by
  have hb : b < w.heap.size := block_lt_of_cell h
  unfold World.cell? at h
  unfold World.setCell
  cases w with
  | mk heap tape drawn os output =>
    simp only at h hb ⊢
    congr 1
    apply Array.ext_getElem?
    intro k
    rw [Array.getElem?_modify]
    by_cases hk : b = k
    · subst hk
      rw [if_pos rfl]
      cases ho : heap[b]? with
      | none => rfl
      | some o =>
        rw [ho] at h
        cases o with
        | cells c t fr =>
          simp at h
          simp only [Option.map_some]
          congr 2
          apply Array.ext_getElem?
          intro j
          simp only [Option.isSome_none, Bool.false_eq_true, if_false]
          rw [Array.getElem?_setIfInBounds]
          by_cases hj : i = j
          · subst hj
            obtain ⟨hj', hh⟩ := Array.getElem?_eq_some_iff.1 h
            rw [if_pos rfl, if_pos hj', h]
          · rw [if_neg hj]
        | _ => simp at h
    · rw [if_neg hk]

set_option maxRecDepth 100000 in
set_option maxHeartbeats 1000000 in
theorem split_any (v : Value) (es : List Ent) (w : World) (hes : BunchAt w v es) (hn : es.length ≤ 200) :
    Calls Tryd.prog 45 #[v] w fun e w' => ∃ (f : Nat) (last : Int) (v1 v2 : Value) (ok : Bool), f < 5 ∧ e = .returned (.tuple #[.agg #[.int .i64 f, .int .i64 last], v1, v2, .bool ok]) ∧ (ok = true → BunchAt w' v1 (lows f last es) ∧ BunchAt w' v2 (highs f last es)) ∧ Below w.heap.size w w' := by
  have HB := hide hes
  obtain ⟨a, cap, rfl, _, _⟩ := hes
  by_cases h4 : es.length ≤ 4
  · have h4i : (es.length : Int) ≤ 4 := by omega
    go_enter Tryd.func45, Tryd.ntmps45
    go_wp2
    refine bodyPost_ret (v := .tuple #[.agg #[.int .i64 0, .int .i64 0], .slice none 0 0, .slice none 0 0, .bool false]) ?_ rfl ⟨0, 0, .slice none 0 0, .slice none 0 0, false, by omega, rfl, fun h => (by cases h), (by repeat (first | exact Below.refl _ _ | assumption | refine Below.drewN ?_ | refine Below.drew ?_ | refine Below.setCell ?_ (by first | exact Nat.le_refl _ | omega | (simp; done) | (simp; omega)) _ | refine Below.alloc ?_ (by first | exact Nat.le_refl _ | omega | (simp; done) | (simp; omega)) _))⟩
    simp [results, Tryd.results45, go_sem]
  · have h4i : ¬ (es.length : Int) ≤ 4 := by omega
    go_enter Tryd.func45, Tryd.ntmps45
    go_wp2_with fail
    refine (bestCut_any _ es _ (HB.out.below ((Below.refl w.heap.size w).alloc (Nat.le_refl _) _) (Nat.le_refl _)) hn).mono ?_
    rintro e w1 ⟨f, last, ok, hf, rfl, hb1⟩
    have hz1 : w.heap.size < w1.heap.size := by have := hb1.size; simp at this; omega
    have hb0 : Below (w.heap.size + 1) (w.alloc (.cells #[.int .i64 0, .int .i64 0] 116)) w1 := hb1.mono (by simp)
    have r0 : w1.cell? ⟨w.heap.size, 0, none⟩ = some (.int .i64 0) := (hb0.cell (p := ⟨w.heap.size, 0, none⟩) (Nat.lt_succ_self _)).trans (by simp)
    have r1 : w1.cell? ⟨w.heap.size, 1, none⟩ = some (.int .i64 0) := (hb0.cell (p := ⟨w.heap.size, 1, none⟩) (Nat.lt_succ_self _)).trans (by simp)
    have rf : ∀ j, w1.frozen? ⟨w.heap.size, j, none⟩ = false := fun j => (hb0.frozen (p := ⟨w.heap.size, j, none⟩) (Nat.lt_succ_self _)).trans (World.frozen?_alloc_at _ _ _ _ rfl)
    have rf0 := rf 0
    have rf1 := rf 1
    have HBX := hide (CutBox.set (f' := f) (last' := last) (show CutBox w1 w.heap.size 0 0 from ⟨by omega, hz1, rf, r0, r1⟩) hf)
    have HBW := hide (Below.setCell (Below.setCell (Below.trans ((Below.refl w.heap.size w).alloc (Nat.le_refl _) (.cells #[.int .i64 0, .int .i64 0] 116)) (hb0.mono (by omega))) (p := ⟨w.heap.size, 0, none⟩) (Nat.le_refl _) (.int .i64 f)) (p := ⟨w.heap.size, 1, none⟩) (Nat.le_refl _) (.int .i64 last))
    clear hb0 rf
    cases ok
    · go_wp2_with fail
      refine bodyPost_ret (v := .tuple #[.agg #[.int .i64 f, .int .i64 last], .slice none 0 0, .slice none 0 0, .bool false]) ?_ rfl ⟨f, last, .slice none 0 0, .slice none 0 0, false, hf, rfl, fun h => (by cases h), ?_⟩
      · have s0 := set2_0 (v0 := .int .i64 f) (v1 := .int .i64 last) HBX.out.2.2.2.1
        have s1 := set2_1 (v0 := .int .i64 f) (v1 := .int .i64 last) HBX.out.2.2.2.2
        simp [results, Tryd.results45, go_sem, s0, s1]
      · exact Below.setCell (Below.setCell HBW.out (Nat.le_refl _) _) (Nat.le_refl _) _
    · go_wp2_with fail
      refine (sides_walk _ es f last _ (HB.out.below HBW.out (Nat.le_refl _)) hn hf).mono ?_
      rintro e w3 ⟨v1, v2, rfl, hv1, hv2, hb3⟩
      have HX3 := HBX.out.below hb3 (by simpa using hz1)
      have x0 := HX3.2.2.2.1
      have x1 := HX3.2.2.2.2
      have xf0 := HX3.2.2.1 0
      have xf1 := HX3.2.2.1 1
      have HW3 := hide (HBW.out.trans (hb3.mono HBW.out.size))
      have HXX := hide HX3
      have e0 := sameCut x0
      have e1 := sameCut x1
      have HV1 := hide hv1
      have HV2 := hide hv2
      obtain ⟨a1, q1, rfl, _, _⟩ := hv1
      obtain ⟨a2, q2, rfl, _, _⟩ := hv2
      clear hb3 HX3
      go_wp2_with fail
      refine bodyPost_ret (v := .tuple #[.agg #[.int .i64 f, .int .i64 last], .slice a1 (lows f last es).length q1, .slice a2 (highs f last es).length q2, .bool true]) ?_ rfl ⟨f, last, _, _, true, hf, rfl, fun _ => ⟨?_, ?_⟩, ?_⟩
      · simp [results, Tryd.results45, go_sem, x0, x1]
      · exact HV1.out
      · exact HV2.out
      · exact HW3.out

end Go.Proofs.YtaejpejfmpbinaaDoor

namespace Go.Proofs.YtaejpejfmpbinaaDoor
open Go.RowKit

theorem TreeAt.leafy {w : World} {n b : Nat} {es : List Ent} (h : ∃ v, BunchAt w v es ∧ w.cell? ⟨b, 0, none⟩ = some v ∧ w.cell? ⟨b, 3, none⟩ = some (.pointer none)) : TreeAt w n b es := by
  cases n with
  | zero => exact h
  | succ n => exact .inl h

set_option maxRecDepth 100000 in
set_option maxHeartbeats 1000000 in
theorem grow_any : ∀ (n : Nat) (v : Value) (es : List Ent) (w : World), n ≤ 12 → BunchAt w v es → es.length ≤ 200 →
    Calls Tryd.prog 44 #[v, .int .i64 n, .func (.func 45) #[] #[]] w fun e w' => ∃ b, e = .returned (.pointer (some ⟨b, 0, none⟩)) ∧ TreeAt w' n b es ∧ Below w.heap.size w w' := by
  intro n
  induction n with
  | zero =>
    intro v es w hn hes hlen
    have HB := hide hes
    obtain ⟨a, cap, rfl, _, _⟩ := hes
    go_enter Tryd.func44, Tryd.ntmps44
    go_wp2
    go_ret
    exact ⟨_, rfl, TreeAt.leafy ⟨_, HB.out.below (by repeat (first | exact Below.refl _ _ | assumption | refine Below.drewN ?_ | refine Below.drew ?_ | refine Below.setCell ?_ (by first | exact Nat.le_refl _ | omega | (simp; done) | (simp; omega)) _ | refine Below.alloc ?_ (by first | exact Nat.le_refl _ | omega | (simp; done) | (simp; omega)) _)) (Nat.le_refl _), by simp, by simp⟩, (by repeat (first | exact Below.refl _ _ | assumption | refine Below.drewN ?_ | refine Below.drew ?_ | refine Below.setCell ?_ (by first | exact Nat.le_refl _ | omega | (simp; done) | (simp; omega)) _ | refine Below.alloc ?_ (by first | exact Nat.le_refl _ | omega | (simp; done) | (simp; omega)) _))⟩
  | succ n ih =>
    intro v es w hn hes hlen
    have IH := hide ih
    clear ih
    have HB := hide hes
    obtain ⟨a, cap, rfl, _, _⟩ := hes
    have hni : (0 : Int) < (n + 1 : Nat) := by omega
    go_enter Tryd.func44, Tryd.ntmps44
    go_wp2_with fail
    refine (split_any _ es w HB.out hlen).mono ?_
    rintro e w1 ⟨f, last, v1, v2, ok, hf, rfl, hok, hb1⟩
    have hfi : (f : Int) < 5 := by omega
    cases ok
    · have HB1 := hide hb1
      clear hok hb1
      go_wp2
      go_ret
      have B1 : Below w.heap.size w _ := ((HB1.out.alloc HB1.out.size (.cells #[.int .i64 f, .int .i64 last] 116)).alloc (by have := HB1.out.size; simp; omega) (.cells #[.slice a es.length cap, .int .i64 0, .int .i64 0, .pointer none, .pointer none] 118))
      exact ⟨_, rfl, TreeAt.leafy ⟨_, HB.out.below B1 (Nat.le_refl _), by simp, by simp⟩, B1⟩
    · obtain ⟨hv1, hv2⟩ := hok rfl
      have HV1 := hide hv1
      have HV2 := hide hv2
      obtain ⟨a1, q1, rfl, _, _⟩ := hv1
      obtain ⟨a2, q2, rfl, _, _⟩ := hv2
      have HB1 := hide hb1
      have hz1 := hb1.size
      have hl1 := Nat.le_trans (lows_le f last es) hlen
      have hl2 := Nat.le_trans (highs_le f last es) hlen
      have hne : ((n + 1 : Nat) : Int) - 1 = n := by omega
      have hnr : IntKind.i64.wrap (((n + 1 : Nat) : Int) - 1) = n := by rw [hne, IntKind.wrap_i64]; omega
      generalize hL : lows f last es = L at *
      generalize hH : highs f last es = H at *
      have EL := hide hL
      have EH := hide hH
      clear hok hb1 hL hH hne hnr
      have hnr : IntKind.i64.wrap (n : Int) = n := by rw [IntKind.wrap_i64]; omega
      go_wp2_with fail
      have hn12 : n ≤ 12 := by omega
      have HW := hide ((Below.refl w1.heap.size w1).alloc (Nat.le_refl _) (.cells #[.int .i64 f, .int .i64 last] 116))
      go_region_held3 (fun w' => w'.cell? ⟨w1.heap.size, 0, none⟩ = some (.int .i64 f) ∧ w'.cell? ⟨w1.heap.size, 1, none⟩ = some (.int .i64 last)) (go_keep)
        (first
          | (go_at_call_of 44 (Value.slice a1 L.length q1); refine (IH.out _ L _ hn12 ?_ hl1).mono ?_; (exact HV1.out.below HW.out.drew (Nat.le_refl _)); rintro e w3 ⟨b1, rfl, hT1, hb3⟩; have k0 : w3.cell? ⟨w1.heap.size, 0, none⟩ = some (.int .i64 f) := cell_later hb3 (by simp); have k1 : w3.cell? ⟨w1.heap.size, 1, none⟩ = some (.int .i64 last) := cell_later hb3 (by simp); have HT1 := hide hT1; have HB3 := hide hb3; clear hT1 hb3)
          | (go_at_call_of 44 (Value.slice a2 H.length q2); refine (IH.out _ H _ hn12 ?_ hl2).mono ?_; (exact (HV2.out.below HW.out.drew (Nat.le_refl _)).below HB3.out (Nat.le_refl _)); rintro e w4 ⟨b2, rfl, hT2, hb4⟩; have m0 := cell_later hb4 k0; have m1 := cell_later hb4 k1; have HT2 := hide hT2; have HB4 := hide hb4; clear hT2 hb4))
      have B3 : Below w1.heap.size w1 w3 := HW.out.drew.trans (HB3.out.mono (by simp))
      have B4 : Below w1.heap.size w1 w4 := B3.trans (HB4.out.mono B3.size)
      have BW : Below w.heap.size w (w4.alloc (.cells #[.slice none 0 0, .int .i64 f, .int .i64 last, .pointer (some ⟨b1, 0, none⟩), .pointer (some ⟨b2, 0, none⟩)] 118)) := (HB1.out.trans (B4.mono hz1)).alloc (Nat.le_trans hz1 B4.size) _
      have BT := (Below.refl w4.heap.size w4).alloc (Nat.le_refl _) (.cells #[.slice none 0 0, .int .i64 f, .int .i64 last, .pointer (some ⟨b1, 0, none⟩), .pointer (some ⟨b2, 0, none⟩)] 118)
      have T1 := hide ((HT1.out.below HB4.out (Nat.le_refl _)).below BT (Nat.le_refl _))
      have T2 := hide (HT2.out.below BT (Nat.le_refl _))
      have HBW := hide BW
      clear B3 B4 BW BT m0 m1 k0 k1
      go_wp2
      go_ret
      refine ⟨_, rfl, .inr ⟨f, last, b1, b2, hf, by simp, by simp, by simp, by simp, ?_, ?_⟩, HBW.out⟩
      · have := T1.out; rw [← EL.out] at this; exact this
      · have := T2.out; rw [← EH.out] at this; exact this

end Go.Proofs.YtaejpejfmpbinaaDoor

namespace Go.Proofs.YtaejpejfmpbinaaDoor
open Go.RowKit Go.Shelf

attribute [local go_sem] Oper.semAt_some

/-- A slice of ranks and entries, in a block below n₀. -/
def RankRow (n₀ : Nat) (W : World) (sv : Value) (L : List Ent) : Prop :=
  ∃ (a : Option Addr) (cap : Nat), sv = .slice a L.length cap ∧ ∀ j (h : j < L.length), ∃ g, a = some ⟨g, 0, none⟩ ∧ g < n₀ ∧ W.cell? ⟨g, j * 3, none⟩ = some (.int .i64 L[j].2.pr) ∧ W.cell? ⟨g, j * 3 + 1, none⟩ = some (.int .i64 L[j].2.id) ∧ W.cell? ⟨g, j * 3 + 2, none⟩ = some (.pointer (some ⟨L[j].1, 0, none⟩))
theorem RankRow.below {n₀ : Nat} {A B : World} (h : Below n₀ A B) {sv : Value} {L : List Ent} (hr : RankRow n₀ A sv L) : RankRow n₀ B sv L := by
  obtain ⟨a, cap, e, hc⟩ := hr
  refine ⟨a, cap, e, fun j hj => ?_⟩
  obtain ⟨g, ha, hg, c0, c1, c2⟩ := hc j hj
  exact ⟨g, ha, hg, (h.cell (p := ⟨g, j * 3, none⟩) hg).trans c0, (h.cell (p := ⟨g, j * 3 + 1, none⟩) hg).trans c1, (h.cell (p := ⟨g, j * 3 + 2, none⟩) hg).trans c2⟩

/-- What the iterator hands on. -/
def encE {Pr : Ent → Prop} (x : { e : Ent // Pr e }) : Array Value := #[.agg #[.int .i64 x.1.2.pr, .int .i64 x.1.2.id], .pointer (some ⟨x.1.1, 0, none⟩)]

set_option maxRecDepth 100000 in
set_option maxHeartbeats 2000000 in
theorem all1_in {Pr : Ent → Prop} (F : Fence) (n : Nat) (h49 : F.fn 49) (hro : F.round = none) (hn : 1 ≤ n) (l Bm m n₀ : Nat) (sv : Value) (L : List { e : Ent // Pr e }) (hlen : L.length ≤ 200) (J Jx : List { e : Ent // Pr e } → World → Prop) (B : Nat) (hJ : AbidesFrom B J)
    (hY : ∀ pre x W, J pre W → pre.length < L.length → YieldAt F (n - 1) Tryd.prog l (encE x) W fun e W' =>
      (e = .returned (.bool true) ∧ J (pre ++ [x]) W' ∧ Below n₀ W W') ∨ (e = .returned (.bool false) ∧ Jx (pre ++ [x]) W'))
    (W : World) (hn₀ : n₀ ≤ W.heap.size) (hBm : W.cell? ⟨Bm, 0, none⟩ = some (.pointer (some ⟨m, 0, none⟩))) (hm : W.cell? ⟨m, 1, none⟩ = some sv) (hrow : RankRow n₀ W sv (L.map (·.1))) (h0 : J [] W) :
    CallsIn F n Tryd.prog 49 #[.func (.yield l) #[] #[], .pointer (some ⟨Bm, 0, none⟩)] W fun e W' => (∃ v, e = .returned v) ∧
      ((∃ ys, ys = L ∧ J ys W') ∨ (∃ pre, pre <+: L ∧ Jx pre W')) := by
  obtain ⟨a, cap, rfl, hc⟩ := hrow
  simp only [List.length_map] at hc hm ⊢
  refine callsIn_of_wp Tryd.func49 rfl h49 ?_ hro
  simp only [Tryd.ntmps49, List.size_toArray, List.length_cons, List.length_nil, Nat.reduceAdd, Nat.reduceSub, Array.replicate_succ, Array.replicate_zero, List.push_toArray, List.append_toArray, List.nil_append, List.cons_append]
  gi_wp2
  gi_loopw [10] (fun i wr => ∃ k : Nat, k ≤ L.length ∧ i = .int .i64 k ∧ J (L.take k) wr ∧ Below n₀ W wr) (fun i _ => L.length - (intOf i).toNat)
  case atStart => exact ⟨0, Nat.zero_le _, rfl, by simpa using h0, Below.refl _ _⟩
  case round =>
    obtain ⟨k, hk, rfl, hJs, hnx⟩ := hrel
    by_cases hlt : k < L.length
    · obtain ⟨g, rfl, hg, c0, c1, c2⟩ := hc k hlt
      rw [List.getElem_map] at c0 c1 c2
      have d0 := (hnx.cell (p := ⟨g, k * 3, none⟩) hg).trans c0
      have d1 := (hnx.cell (p := ⟨g, k * 3 + 1, none⟩) hg).trans c1
      have d2 := (hnx.cell (p := ⟨g, k * 3 + 2, none⟩) hg).trans c2
      have hglt : g < wr.heap.size := Nat.lt_of_lt_of_le (Nat.lt_of_lt_of_le hg hn₀) hnx.size
      have hki : (k : Int) < L.length := by omega
      have hJ1 := hJ _ wr (wr.alloc (.cells #[.int .i64 L[k].1.2.pr, .int .i64 L[k].1.2.id, .pointer (some ⟨L[k].1.1, 0, none⟩)] 103)) none hJs (World.grownBy_alloc _ _ _) (fun r e => by cases e)
      obtain ⟨fn, tmps, assign, body, hy, hR⟩ := hY _ L[k] _ hJ1 (by simp; omega)
      simp only [encE] at hy
      have HT : Hid (L.take (k + 1) = L.take k ++ [L[k]]) := by rw [List.take_succ_eq_append_getElem hlt]; exact rfl
      generalize hee : L[k] = ek at *
      clear hJ1 hc c0 c1 c2 hee
      gi_wp2
      refine hR.mono ?_
      rintro e W3 (⟨rfl, hJ3, hk3⟩ | ⟨rfl, hJx3⟩)
      · gi_wp2
        go_roundw
        case rel => exact ⟨k + 1, by omega, by simp, by rw [HT.out]; exact hJ3, (hnx.alloc (Nat.le_trans hn₀ hnx.size) _).trans hk3⟩
        case measure => simp [intOf]; omega
      · gi_wp2
        refine bodyPost_ret (results_none rfl _ _ _) rfl ?_
        exact ⟨⟨_, rfl⟩, .inr ⟨_, by rw [← HT.out]; exact List.take_prefix _ _, hJx3⟩⟩
    · obtain rfl : k = L.length := by omega
      clear hc
      gi_wp2
      go_end0
      exact ⟨⟨_, rfl⟩, .inl ⟨_, rfl, by simpa using hJs⟩⟩

end Go.Proofs.YtaejpejfmpbinaaDoor

namespace Go.Proofs.YtaejpejfmpbinaaDoor
open Go.RowKit

/-- Block x is none of an entry, a tree's node, a bunch's array: it is a table's own block, a map's, or one of the two arrays. -/
def Foreign (w : World) (x : Nat) : Prop :=
  (∃ b q fn f c, w.cell? ⟨x, 0, none⟩ = some (.pointer (some ⟨b, 0, none⟩)) ∧ w.cell? ⟨x, 1, none⟩ = some (.pointer q) ∧ w.cell? ⟨b, 0, none⟩ = some (.func fn f c)) ∨
  (∃ fn f c a l k, w.cell? ⟨x, 0, none⟩ = some (.func fn f c) ∧ w.cell? ⟨x, 1, none⟩ = some (.slice a l k)) ∨
  (∃ n p, w.cell? ⟨x, 0, none⟩ = some (.int .i64 n) ∧ w.cell? ⟨x, 1, none⟩ = some (.pointer p)) ∨
  (∃ n m p, w.cell? ⟨x, 0, none⟩ = some (.int .i64 n) ∧ w.cell? ⟨x, 1, none⟩ = some (.int .i64 m) ∧ w.cell? ⟨x, 2, none⟩ = some (.pointer p)) ∨
  (∃ o, w.heap[x]? = some o ∧ o.isCells = false) ∨
  (x ≠ 0 ∧ ∃ cs t fr a b c d, w.heap[x]? = some (.cells cs t fr) ∧ cs.size ≠ 29 ∧ w.cell? ⟨x, 0, none⟩ = some (.int .i64 a) ∧ w.cell? ⟨x, 1, none⟩ = some (.int .i64 b) ∧ w.cell? ⟨x, 2, none⟩ = some (.int .i64 c) ∧ w.cell? ⟨x, 3, none⟩ = some (.int .i64 d))

theorem noCell {w : World} {x i : Nat} {o : Obj} (h : w.heap[x]? = some o) (ho : o.isCells = false) : w.cell? ⟨x, i, none⟩ = none := by
  unfold World.cell?
  rw [h]
  cases o <;> first | rfl | cases ho

theorem Foreign.notEnt {w : World} {x : Nat} {r : Rl} (h : Foreign w x) (he : EntAt w x r) : False := by
  have c0 := he.c0
  have c1 := he.c1
  have c2 := he.c2
  rcases h with ⟨b, q, fn, f, c, h0, h1, _⟩ | ⟨fn, f, c, a, l, k, h0, h1⟩ | ⟨n, p, h0, h1⟩ | ⟨n, m, p, h0, h1, h2⟩ | ⟨o, h, ho⟩ | ⟨hx0, cs, ct, cfr, ga, gb, gc, gd, gh, gs, g0, g1, g2, g3⟩
  · rw [h0] at c0; cases c0
  · rw [h0] at c0; cases c0
  · rw [h1] at c1; cases c1
  · rw [h2] at c2; cases c2
  · rw [noCell h ho] at c0; cases c0
  · have e1 := he 28 (by omega)
    have e2 := he 29 (by omega)
    rw [cell_of_row w x 28 cs ct cfr gh] at e1
    rw [cell_of_row w x 29 cs ct cfr gh] at e2
    have l1 : 28 < cs.size := (Array.getElem?_eq_some_iff.1 (e1.trans (show r.ecells[28]? = some _ from rfl))).1
    have l2 : cs.size ≤ 29 := Array.getElem?_eq_none_iff.1 (e2.trans (show r.ecells[29]? = none from rfl))
    omega

/-- All blocks are as they were but for those of X, which are foreign. -/
def KeptBut (X : Nat → Prop) (w w' : World) : Prop := ∀ b, b < w.heap.size → ¬ X b → w'.heap[b]? = w.heap[b]?

section
variable {X : Nat → Prop} {w w' : World}

theorem KeptBut.cell (h : KeptBut X w w') {b i : Nat} {v : Value} (hx : ¬ X b) (hc : w.cell? ⟨b, i, none⟩ = some v) : w'.cell? ⟨b, i, none⟩ = some v :=
  (World.cell?_of_block (w := w) (a := ⟨b, i, none⟩) (h b (block_lt_of_cell hc) hx)).trans hc

theorem EntAt.kept (h : KeptBut X w w') (hX : ∀ x, X x → Foreign w x) {b : Nat} {r : Rl} (he : EntAt w b r) : EntAt w' b r :=
  he.same (h b he.lt fun hx => (hX b hx).notEnt he)

theorem BunchAt.kept (h : KeptBut X w w') (hX : ∀ x, X x → Foreign w x) {v : Value} {es : List Ent} (hb : BunchAt w v es) : BunchAt w' v es := by
  obtain ⟨a, cap, hv, hc, he⟩ := hb
  refine ⟨a, cap, hv, fun i hi => ?_, fun e hm => (he e hm).kept h hX⟩
  obtain ⟨b, off, ⟨ha, h0⟩, hcell⟩ := hc i hi
  refine ⟨b, off, ⟨ha, h0⟩, h.cell (fun hx => ?_) hcell⟩
  obtain ⟨b', off', ⟨ha', h0'⟩, hcell'⟩ := hc 0 (by omega)
  rw [ha] at ha'
  cases ha'
  subst h0
  have he0 := he es[0] (List.getElem_mem (by omega))
  rw [Nat.zero_add] at hcell'
  rcases hX b hx with ⟨b2, q, fn, f, c, g0, g1, g2⟩ | ⟨fn, f, c, a, l, k, g0, g1⟩ | ⟨n, p, g0, g1⟩ | ⟨n, m, p, g0, g1, g2⟩ | ⟨o, ho, hco⟩ | ⟨hx0, cs, ct, cfr, ga, gb, gc, gd, gh, gs, g0, g1, g2, g3⟩
  · rw [g0] at hcell'
    have e : b2 = es[0].1 := by simpa using hcell'
    have c0 := he0.c0
    rw [← e, g2] at c0
    cases c0
  · rw [g0] at hcell'; cases hcell'
  · rw [g0] at hcell'; cases hcell'
  · rw [g0] at hcell'; cases hcell'
  · rw [noCell ho hco] at hcell'; cases hcell'
  · rw [g0] at hcell'; cases hcell'

theorem TreeAt.kept (h : KeptBut X w w') (hX : ∀ x, X x → Foreign w x) : ∀ {n b : Nat} {es : List Ent}, TreeAt w n b es → TreeAt w' n b es := by
  have leafy : ∀ {b : Nat} {v : Value} {es : List Ent}, BunchAt w v es → w.cell? ⟨b, 0, none⟩ = some v → ¬ X b := by
    intro b v es hb hc hx
    obtain ⟨a, cap, hv, _, _⟩ := hb
    rw [hv] at hc
    rcases hX b hx with ⟨b2, q, fn, f, c, g0, g1, g2⟩ | ⟨fn, f, c, a, l, k, g0, g1⟩ | ⟨n, p, g0, g1⟩ | ⟨n, m, p, g0, g1, g2⟩ | ⟨o, ho, hco⟩ | ⟨hx0, cs, ct, cfr, ga, gb, gc, gd, gh, gs, g0, g1, g2, g3⟩ <;> first | (rw [g0] at hc; cases hc) | (rw [noCell ho hco] at hc; cases hc)
  intro n
  induction n with
  | zero =>
    rintro b es ⟨v, h1, h2, h3⟩
    exact ⟨v, h1.kept h hX, h.cell (leafy h1 h2) h2, h.cell (leafy h1 h2) h3⟩
  | succ n ih =>
    rintro b es (⟨v, h1, h2, h3⟩ | ⟨f, last, bl, bh, hf, h1, h2, h3, h4, h5, h6⟩)
    · exact .inl ⟨v, h1.kept h hX, h.cell (leafy h1 h2) h2, h.cell (leafy h1 h2) h3⟩
    · have hx : ¬ X b := by
        intro hx
        rcases hX b hx with ⟨b2, q, fn, f, c, g0, g1, g2⟩ | ⟨fn, f, c, a, l, k, g0, g1⟩ | ⟨n, p, g0, g1⟩ | ⟨n, m, p, g0, g1, g2⟩ | ⟨o, ho, hco⟩ | ⟨hx0, cs, ct, cfr, ga, gb, gc, gd, gh, gs, g0, g1, g2, g3⟩
        · rw [g1] at h1; cases h1
        · rw [g1] at h1; cases h1
        · rw [g1] at h1; cases h1
        · rw [g2] at h2; cases h2
        · rw [noCell ho hco] at h1; cases h1
        · rw [g3] at h3; cases h3
      exact .inr ⟨f, last, bl, bh, hf, h.cell hx h1, h.cell hx h2, h.cell hx h3, h.cell hx h4, ih h5, ih h6⟩
end

theorem Foreign.below {B : Nat} {w w' : World} {x : Nat} (h : Foreign w x) (hb : Below B w w') (hB : w.heap.size ≤ B) : Foreign w' x := by
  have hc : ∀ {b i : Nat} {v : Value}, w.cell? ⟨b, i, none⟩ = some v → w'.cell? ⟨b, i, none⟩ = some v := fun {b i v} h =>
    (hb.cell (p := ⟨b, i, none⟩) (Nat.lt_of_lt_of_le (block_lt_of_cell h) hB)).trans h
  rcases h with ⟨b2, q, fn, f, c, g0, g1, g2⟩ | ⟨fn, f, c, a, l, k, g0, g1⟩ | ⟨n, p, g0, g1⟩ | ⟨n, m, p, g0, g1, g2⟩ | ⟨o, ho, hco⟩ | ⟨hx0, cs, ct, cfr, ga, gb, gc, gd, gh, gs, g0, g1, g2, g3⟩
  · exact .inl ⟨b2, q, fn, f, c, hc g0, hc g1, hc g2⟩
  · exact .inr (.inl ⟨fn, f, c, a, l, k, hc g0, hc g1⟩)
  · exact .inr (.inr (.inl ⟨n, p, hc g0, hc g1⟩))
  · exact .inr (.inr (.inr (.inl ⟨n, m, p, hc g0, hc g1, hc g2⟩)))
  · exact .inr (.inr (.inr (.inr (.inl ⟨o, (hb.block x (Nat.lt_of_lt_of_le (Array.getElem?_eq_some_iff.1 ho).1 hB)).trans ho, hco⟩))))
  · exact .inr (.inr (.inr (.inr (.inr ⟨hx0, cs, ct, cfr, ga, gb, gc, gd, (hb.block x (Nat.lt_of_lt_of_le (Array.getElem?_eq_some_iff.1 gh).1 hB)).trans gh, gs, hc g0, hc g1, hc g2, hc g3⟩))))

/-- From w to w' nothing has turned but blocks of X; blocks may have been laid. -/
structure Chg (X : Nat → Prop) (w w' : World) : Prop where
  os : w'.os = w.os
  tape : w'.tape = w.tape
  output : w'.output = w.output
  size : w.heap.size ≤ w'.heap.size
  block : KeptBut X w w'

theorem Chg.of_below {X : Nat → Prop} {w w' : World} (h : Below w.heap.size w w') : Chg X w w' := ⟨h.os, h.tape, h.output, h.size, fun b hb _ => h.block b hb⟩
theorem Chg.trans {X : Nat → Prop} {a b c : World} (h : Chg X a b) (k : Chg X b c) : Chg X a c :=
  ⟨k.os.trans h.os, k.tape.trans h.tape, k.output.trans h.output, Nat.le_trans h.size k.size, fun i hi hx => (k.block i (Nat.lt_of_lt_of_le hi h.size) hx).trans (h.block i hi hx)⟩
theorem Chg.mono {X Y : Nat → Prop} {a b : World} (h : Chg X a b) (hXY : ∀ x, x < a.heap.size → X x → Y x) : Chg Y a b :=
  ⟨h.os, h.tape, h.output, h.size, fun i hi hy => h.block i hi fun hx => hy (hXY i hi hx)⟩
theorem Chg.below {X : Nat → Prop} {a b : World} {B : Nat} (h : Chg X a b) (hB : B ≤ a.heap.size) (hX : ∀ x, X x → B ≤ x) : Below B a b :=
  ⟨h.os, h.tape, h.output, h.size, fun k hk => h.block k (by omega) fun hx => by have := hX k hx; omega⟩

end Go.Proofs.YtaejpejfmpbinaaDoor

namespace Go.Proofs.YtaejpejfmpbinaaDoor
open Go.RowKit Go.Shelf

attribute [local go_sem] Oper.semAt_some

set_option maxHeartbeats 1000000 in
theorem all_in (F : Fence) (n : Nat) (h29 : F.fn 29) (hro : F.round = none) (m : Nat) (w : World) :
    CallsIn F n Tryd.prog 29 #[.pointer (some ⟨m, 0, none⟩)] w fun e w' => e = .returned (.func (.func 49) #[] #[.pointer (some ⟨w.heap.size, 0, none⟩)]) ∧ w' = w.alloc (.cells #[.pointer (some ⟨m, 0, none⟩)] 53) := by
  refine callsIn_of_wp Tryd.func29 rfl h29 ?_ hro
  simp only [Tryd.ntmps29, List.size_toArray, List.length_cons, List.length_nil, Nat.reduceAdd, Nat.reduceSub, Array.replicate_succ, Array.replicate_zero, List.push_toArray, List.append_toArray, List.nil_append, List.cons_append]
  gi_wp2
  go_ret
  exact ⟨rfl, rfl⟩

theorem all_stops {Pr : Ent → Prop} (F : Fence) (n : Nat) (h49 : F.fn 49) (hro : F.round = none) (hn : 1 ≤ n) (Bm m n₀ : Nat) (sv : Value) (L : List { e : Ent // Pr e }) (hlen : L.length ≤ 200) (w : World) (hBm : Bm < w.heap.size) (hmlt : m < n₀) (hn₀ : n₀ ≤ w.heap.size)
    (hc : w.cell? ⟨Bm, 0, none⟩ = some (.pointer (some ⟨m, 0, none⟩))) (hm : w.cell? ⟨m, 1, none⟩ = some sv) (hL : RankRow n₀ w sv (L.map (·.1))) :
    SeqStopsK F n Tryd.prog 49 #[.pointer (some ⟨Bm, 0, none⟩)] (encE (Pr := Pr)) (Below n₀) (fun ys => ys = L) (fun pre => pre <+: L) L.length w := fun l J Jx W hW hJ _ hY h0 =>
  all1_in F n h49 hro hn l Bm m n₀ sv L hlen J Jx W.heap.size hJ hY W (Nat.le_trans hn₀ hW.size) ((hW.cell (p := ⟨Bm, 0, none⟩) hBm).trans hc) ((hW.cell (p := ⟨m, 1, none⟩) (Nat.lt_of_lt_of_le hmlt hn₀)).trans hm) (hL.below (hW.mono hn₀)) h0

theorem keepsOthers_below {W W' : World} (h : Below W.heap.size W W') : KeepsOthers W W' :=
  ⟨h.size, fun k _ hk _ => (h.block k (Array.getElem?_eq_some_iff.1 hk).1).trans hk⟩

/-- The entries of one tree. -/
def flt (h : Int) (L : List Ent) : List Ent := L.filter fun e => e.2.home == h
def fltS {Pr : Ent → Prop} (h : Int) (L : List { e : Ent // Pr e }) : List Ent := flt h (L.map (·.1))
theorem fltS_hit {Pr : Ent → Prop} {h : Int} {pre : List { e : Ent // Pr e }} {x : { e : Ent // Pr e }} (hx : (x.1.2.home == h) = true) : fltS h (pre ++ [x]) = fltS h pre ++ [x.1] := by simp [fltS, flt, hx]
theorem fltS_miss {Pr : Ent → Prop} {h : Int} {pre : List { e : Ent // Pr e }} {x : { e : Ent // Pr e }} (hx : (x.1.2.home == h) = false) : fltS h (pre ++ [x]) = fltS h pre := by simp [fltS, flt, hx]
theorem fltS_le {Pr : Ent → Prop} (h : Int) (L : List { e : Ent // Pr e }) : (fltS h L).length ≤ L.length := by
  have := List.length_filter_le (fun e : Ent => e.2.home == h) (L.map (·.1))
  simpa [fltS, flt] using this

theorem grow12 (v : Value) (es : List Ent) (w : World) (hes : BunchAt w v es) (hlen : es.length ≤ 200) :
    Calls Tryd.prog 44 #[v, .int .i64 12, .func (.func 45) #[] #[]] w fun e w' => ∃ b, e = .returned (.pointer (some ⟨b, 0, none⟩)) ∧ TreeAt w' 12 b es ∧ Below w.heap.size w w' :=
  grow_any 12 v es w (Nat.le_refl _) hes hlen

theorem regrown {w w3 : World} {t h D b : Nat} {o : Obj} {es : List Ent} {pt : Option Addr} (hFt : Foreign w t) (htlt : t < w.heap.size) (B3 : Below w.heap.size w w3) (hD3 : w.heap.size ≤ D) (hDt : D ≠ t) (hK3 : w3.heap[D]? = some (.deferred (some [])))
    (hT : TreeAt w3 12 b es) (hfz : ∀ j, w3.frozen? ⟨t, j, none⟩ = w.frozen? ⟨t, j, none⟩) (hpt : w3.cell? ⟨t, 2 + h, none⟩ = some (.pointer pt)) :
    TreeAt ((w3.setCell ⟨t, 2 + h, none⟩ (.pointer (some ⟨b, 0, none⟩))).putObj D o) 12 b es ∧ Chg (fun x => x = t) w ((w3.setCell ⟨t, 2 + h, none⟩ (.pointer (some ⟨b, 0, none⟩))).putObj D o) ∧
      (∀ j, ((w3.setCell ⟨t, 2 + h, none⟩ (.pointer (some ⟨b, 0, none⟩))).putObj D o).cell? ⟨t, j, none⟩ = if j = 2 + h then some (.pointer (some ⟨b, 0, none⟩)) else w.cell? ⟨t, j, none⟩) ∧
      ∀ j, ((w3.setCell ⟨t, 2 + h, none⟩ (.pointer (some ⟨b, 0, none⟩))).putObj D o).frozen? ⟨t, j, none⟩ = w.frozen? ⟨t, j, none⟩ := by
  have hg := grownBy_putObj' (w3.setCell ⟨t, 2 + h, none⟩ (.pointer (some ⟨b, 0, none⟩))) D o
  have hsz : (w3.setCell ⟨t, 2 + h, none⟩ (.pointer (some ⟨b, 0, none⟩))).heap.size = w3.heap.size := by simp
  have ht3 : t < w3.heap.size := Nat.lt_of_lt_of_le htlt B3.size
  have hk : ∀ k, k < w3.heap.size → k ≠ t → k ≠ D → ((w3.setCell ⟨t, 2 + h, none⟩ (.pointer (some ⟨b, 0, none⟩))).putObj D o).heap[k]? = w3.heap[k]? := fun k hk h1 h2 =>
    (hg.block k (by omega) (by simpa using h2)).trans (Below.heap_setCell _ _ _ _ (by simpa using h1))
  have hbt := hg.block t (by omega) (by simpa using Ne.symm hDt)
  refine ⟨?_, ⟨hg.os.trans B3.os, hg.tape.trans B3.tape, hg.output.trans B3.output, Nat.le_trans B3.size (by have := hg.size; omega), fun k hk' hx => (hk k (Nat.lt_of_lt_of_le hk' B3.size) hx (by omega)).trans (B3.block k hk')⟩, fun j => ?_, fun j => ?_⟩
  · refine hT.kept (X := fun x => x = t ∨ x = D) (fun k hk' hx => hk k hk' (fun e => hx (.inl e)) (fun e => hx (.inr e))) ?_
    rintro x (rfl | rfl)
    · exact hFt.below B3 (Nat.le_refl _)
    · exact .inr (.inr (.inr (.inr (.inl ⟨_, hK3, rfl⟩))))
  · rw [World.cell?_of_block (w := w3.setCell ⟨t, 2 + h, none⟩ (.pointer (some ⟨b, 0, none⟩))) (a := ⟨t, j, none⟩) hbt]
    by_cases hj : j = 2 + h
    · rw [if_pos hj, hj]; exact set_same hpt
    · rw [if_neg hj, set_other (.inr (Ne.symm hj))]; exact B3.cell (p := ⟨t, j, none⟩) htlt
  · rw [World.frozen?_of_block (w := w3.setCell ⟨t, 2 + h, none⟩ (.pointer (some ⟨b, 0, none⟩))) (a := ⟨t, j, none⟩) hbt]
    rw [← hfz j]; simp

set_option maxRecDepth 100000 in
set_option maxHeartbeats 2000000 in
theorem regrow_any (t b2 : Nat) (h : Nat) (hh : h < 6) (sv : Value) (w : World) (hl : Laid w) (Ls : List { e : Ent // EntAt w e.1 e.2 ∧ e.2.ok = true }) (hlen : Ls.length ≤ 200)
    (ht1 : w.cell? ⟨t, 1, none⟩ = some (.pointer (some ⟨b2, 0, none⟩))) (hb2 : w.cell? ⟨b2, 1, none⟩ = some sv) (hrow : RankRow w.heap.size w sv (Ls.map (·.1)))
    (hth : ∃ p, w.cell? ⟨t, 2 + h, none⟩ = some (.pointer p)) (htf : ∀ j, w.frozen? ⟨t, j, none⟩ = false) (hFt : Foreign w t) :
    Calls Tryd.prog 23 #[.pointer (some ⟨t, 0, none⟩), .int .i64 h] w fun e w' => e = .returned (.tuple #[]) ∧ ∃ b, TreeAt w' 12 b (flt h (Ls.map (·.1))) ∧ Chg (fun x => x = t) w w' ∧ (∀ j, w'.cell? ⟨t, j, none⟩ = if j = 2 + h then some (.pointer (some ⟨b, 0, none⟩)) else w.cell? ⟨t, j, none⟩) ∧ ∀ j, w'.frozen? ⟨t, j, none⟩ = w.frozen? ⟨t, j, none⟩ := by
  have htlt := block_lt_of_cell ht1
  have hb2lt := block_lt_of_cell hb2
  obtain ⟨i0, hi, hz0, hz1, hz2⟩ := info_parts infoPE
  refine (callsIn_wide (n := 5)).1 ?_
  have hro : Fence.wide.round = none := rfl
  refine callsIn_of_wp_marks Tryd.func23 rfl trivial ?_ hro
  simp only [Tryd.ntmps23, List.size_toArray, List.length_cons, List.length_nil, Nat.reduceAdd, Nat.reduceSub, Array.replicate_succ, Array.replicate_zero, List.push_toArray, List.append_toArray, List.nil_append, List.cons_append]
  gi_wp2_with (refine ⟨trivial, ?_⟩; gi_at_call 29; refine (all_in Fence.wide 4 trivial hro b2 _).mono ?_; rintro e w' ⟨rfl, rfl⟩)
  have bH := ((Boxed.new w 3 (.int .i64 h)).alloc (.cells #[.slice none 0 0] 80)).alloc (.cells #[.pointer (some ⟨b2, 0, none⟩)] 53)
  have bO := (Boxed.new (w.alloc (.cells #[.int .i64 h] 3)) 80 (.slice none 0 0)).alloc (.cells #[.pointer (some ⟨b2, 0, none⟩)] 53)
  have bN := Boxed.new ((w.alloc (.cells #[.int .i64 h] 3)).alloc (.cells #[.slice none 0 0] 80)) 53 (.pointer (some ⟨b2, 0, none⟩))
  simp only [World.size_alloc] at bH bO bN
  have hB0 : Below w.heap.size w (((w.alloc (.cells #[.int .i64 h] 3)).alloc (.cells #[.slice none 0 0] 80)).alloc (.cells #[.pointer (some ⟨b2, 0, none⟩)] 53)) := (by repeat (first | exact Below.refl _ _ | assumption | refine Below.drewN ?_ | refine Below.drew ?_ | refine Below.setCell ?_ (by first | exact Nat.le_refl _ | omega | (simp; done) | (simp; omega)) _ | refine Below.alloc ?_ (by first | exact Nat.le_refl _ | omega | (simp; done) | (simp; omega)) _))
  have hs0 : (((w.alloc (.cells #[.int .i64 h] 3)).alloc (.cells #[.slice none 0 0] 80)).alloc (.cells #[.pointer (some ⟨b2, 0, none⟩)] 53)).heap.size = w.heap.size + 3 := by simp
  have hcb2 := (hB0.cell (p := ⟨b2, 1, none⟩) hb2lt).trans hb2
  refine wpIn_rangeFunc_ownG hro (by omega) (gf := 49) (lb := #[.pointer (some ⟨w.heap.size + 1 + 1, 0, none⟩)]) rfl trivial (enters_of Tryd.func49 (by kernel_rfl) rfl)
    (all_stops Fence.wide 4 trivial hro (by omega) (w.heap.size + 1 + 1) b2 w.heap.size sv Ls hlen _ (by omega) hb2lt (by omega) bN.cell hcb2 (hrow.below hB0)) belowK_t (belowK_b (by omega)) (Below.refl _ _) (fun _ => rfl)
    (fun pre W => ((∃ v, Boxed W (w.heap.size + 1) 80 v ∧ W.ownsRow w.heap.size 50 1 v (fltS h pre).length ((fltS h pre).map ptrE) ∧ True) ∧ Boxed W w.heap.size 3 (.int .i64 h)) ∧ Below w.heap.size w W)
    (fun _ _ _ => False)
    (OwnFrom.and (OwnFrom.and (Own.from (holdsRow_own w.heap.size (w.heap.size + 1) 80 50 1 (fun pre => (fltS h pre).length) (fun pre => (fltS h pre).map ptrE) (fun _ _ => True)) _) (Own.from (boxed_own w.heap.size 3 (fun _ => .int .i64 h)) _)) (ownFrom_below (Nat.le_refl _) (by omega)))
    (fun _ _ _ _ _ hs _ _ => hs)
    ⟨⟨⟨_, bO, World.ownsRow_nil _ _ _ _, trivial⟩, bH⟩, hB0⟩
    (fun x => { tmps := #[.pointer (some ⟨t, 0, none⟩), .int .i64 h, undef, .pointer (some ⟨w.heap.size, 0, none⟩), .pointer (some ⟨w.heap.size + 1, 0, none⟩), undef, .pointer (some ⟨x.1.1, 0, none⟩), .pointer (some ⟨t, 0, none⟩), .pointer (some ⟨t, 0, none⟩), .pointer (some ⟨t, 1, none⟩), .pointer (some ⟨b2, 0, none⟩), .func (.func 49) #[] #[.pointer (some ⟨w.heap.size + 1 + 1, 0, none⟩)], .agg #[.int .i64 x.1.2.pr, .int .i64 x.1.2.id], .pointer (some ⟨x.1.1, 0, none⟩), undef, undef, undef, undef, undef, undef, undef, undef, undef, undef, undef, undef, undef, undef, undef], defers := [] }) ?assign ?body ?done ?stop
  case assign =>
    intro l x W K hK
    simp only [encE]
    gi_wp2
    exact hK
  case body =>
    rintro l pre x W ⟨⟨⟨v, hv, hrow', _⟩, hH⟩, hB⟩ hlt
    have hmx : Tryd.prog.follows .mixedOrders = true := by kernel_rfl
    have hlW : Laid W := hl.below hB hl.pos
    have heW : EntAt W x.1.1 x.1.2 := x.2.1.below hB x.2.1.lt
    have hc := hH.cell
    have hltH := hH.lt
    have HHome := hide fun (W1 : World) (hb : Below W.heap.size W W1) => home_any x.1.1 x.1.2 W1 (hlW.below hb hlW.pos) (heW.below hb heW.lt) x.2.2
    have HV := hide hv
    have HR := hide hrow'
    have HH2 := hide hH
    have HB2 := hide hB
    clear hv hrow' hH hB hlW heW
    have hfl := fltS_le h pre
    cases hq : (x.1.2.home == (h : Int))
    · gi_wp2
      gi_region_with_o (refine ⟨trivial, ?_⟩; gi_at_call 24; refine (CallsIn.inRound l (callsIn_wide.2 (HHome.out _ ?_))).mono ?_; (exact (Below.refl _ _).drew); rintro e w1 ⟨rfl, hb1⟩; have hc1 := cell_later hb1 hc)
      all_goals
        replace hb1 : Below W.heap.size W w1 := ((Below.refl W.heap.size W).drew).trans hb1
        have hv1 : Boxed w1 (w.heap.size + 1) 80 v := (hb1.block _ HV.out.lt).trans HV.out
        have hH1 : Boxed w1 w.heap.size 3 (.int .i64 h) := (hb1.block _ HH2.out.lt).trans HH2.out
        have hR1 := ownsRow_below HR.out hb1 (Nat.le_refl _)
        have hB1 : Below w.heap.size w w1 := HB2.out.trans (hb1.mono HB2.out.size)
        have hk1 := keepsOthers_below hb1
        have hcv := hv1.cell
        have hsz1 := hB1.size
        gi_wp2
        exact ⟨hk1.from _, hb1.mono HB2.out.size, ⟨⟨v, hv1, by rw [fltS_miss hq]; exact hR1, trivial⟩, hH1⟩, hB1⟩
    · gi_wp2
      gi_region_with_o (refine ⟨trivial, ?_⟩; gi_at_call 24; refine (CallsIn.inRound l (callsIn_wide.2 (HHome.out _ ?_))).mono ?_; (exact (Below.refl _ _).drew); rintro e w1 ⟨rfl, hb1⟩; have hc1 := cell_later hb1 hc)
      all_goals
        replace hb1 : Below W.heap.size W w1 := ((Below.refl W.heap.size W).drew).trans hb1
        have hv1 : Boxed w1 (w.heap.size + 1) 80 v := (hb1.block _ HV.out.lt).trans HV.out
        have hH1 : Boxed w1 w.heap.size 3 (.int .i64 h) := (hb1.block _ HH2.out.lt).trans HH2.out
        have hR1 := ownsRow_below HR.out hb1 (Nat.le_refl _)
        have hB1 : Below w.heap.size w w1 := HB2.out.trans (hb1.mono HB2.out.size)
        have hk1 := keepsOthers_below hb1
        have hcv := hv1.cell
        have hsz1 := hB1.size
        have HR1 := hide hR1
        have HB1 := hide hB1
        have HK1 := hide hk1
        have HH1 := hide hH1
        have HQ := hide hq
        have HBB := hide hb1
        clear hR1 hB1 hk1 hH1 hb1
        gi_wp2_with (gi_at_builtin; refine wpListIn_append_own _ rfl _ _ 80 rfl w.heap.size 50 i0 (.pointer none) 1 8 underBunch hi hz0 hz1 hz2 rfl (by decide) _ _ _ rfl (HR1.out.alloc _) ⟨w1.heap.size, 0, none⟩ 1 1 [ptrE x.1] rfl rfl (cell_one_new _ _ _) (by simp [ptrE, Value.oneCell']) (by unfold maxLen; omega) (by omega) (by simp; omega) ?_; intro v' w2 hown' hgrow _; obtain ⟨g', cap', rfl⟩ := ownsRow_succ hown'; obtain ⟨hv2, hv3, hr3, hk3, hb3⟩ := hv1.appended (by decide) HR1.out HB1.out.size (by omega) hown' hgrow; have hc2 := hv2.cell; have hf2 := hv2.frozen)
        have hH3 : Boxed (w2.setCell ⟨w.heap.size + 1, 0, none⟩ (.slice (some ⟨g', 0, none⟩) ((fltS h pre).length + 1) cap')) w.heap.size 3 (.int .i64 h) :=
          ((HH1.out.alloc _).kept hgrow (HH1.out.not_row (by decide) HR1.out)).other (by omega) _
        exact ⟨(HK1.out.trans hk3).from _, (HBB.out.mono HB2.out.size).trans hb3, ⟨⟨_, hv3, by rw [fltS_hit HQ.out]; simpa using hr3, trivial⟩, hH3⟩, HB1.out.trans hb3⟩
  case done =>
    rintro D ys W hD rfl ⟨⟨⟨v, hv, hrow', _⟩, hH⟩, hB⟩ hK
    have hcv := hv.cell
    have hch := hH.cell
    have hbun := hide (bunch_of_row hrow' fun e he => by
      obtain ⟨x, _, rfl⟩ := List.mem_map.1 (List.mem_filter.1 he).1
      exact x.2.1.below hB x.2.1.lt)
    have hfl := Nat.le_trans (fltS_le h ys) hlen
    have hDt : D ≠ t := by omega
    have htW : ∃ p, W.cell? ⟨t, 2 + h, none⟩ = some (.pointer p) := hth.imp fun p hp => (hB.cell (p := ⟨t, 2 + h, none⟩) htlt).trans hp
    have htfW : W.frozen? ⟨t, 2 + h, none⟩ = false := (hB.frozen (p := ⟨t, 2 + h, none⟩) htlt).trans (htf _)
    have htWlt : t < W.heap.size := Nat.lt_of_lt_of_le htlt hB.size
    have HK := hide hK
    have hszW := hB.size
    have hv1 := hv.lt
    obtain ⟨pt, hpt⟩ := htW
    have hhi : (h : Int) < 6 := by omega
    have hva : ∃ a l c, v = .slice a l c := by
      obtain ⟨a, c, rfl, _, _⟩ := hbun.out
      exact ⟨_, _, _, rfl⟩
    obtain ⟨va, vl, vc, rfl⟩ := hva
    have HV := hide hv
    have HH := hide hH
    have HBW := hide hB
    have HDD := hide hD
    clear hv hH hB hK hrow' hD bH bO bN hB0 hs0 hcb2 ht1 hb2 hth
    have hn1 : ¬ t = w.heap.size := by omega
    have hn2 : ¬ t = w.heap.size + 1 := by omega
    have hn3 : ¬ w.heap.size = t := by omega
    have hn4 : ¬ w.heap.size + 1 = t := by omega
    gi_wp2
    refine wpIn_wide.2 ?_
    go_region_held3 (fun w' => w'.cell? ⟨w.heap.size, 0, none⟩ = some (.int .i64 h) ∧ w'.cell? ⟨w.heap.size + 1, 0, none⟩ = some (.slice va vl vc)) (go_keep)
      (first | (go_at_call 44; refine (grow12 _ (fltS h ys) _ ?_ hfl).mono ?_; (exact hbun.out); rintro e w3 ⟨b, rfl, hT3, hb3⟩; have k0 := cell_later hb3 hch; have k1 := cell_later hb3 hcv; have k2 := cell_later hb3 hpt; have k3 : w3.frozen? ⟨t, 2 + h, none⟩ = false := (hb3.frozen (p := ⟨t, 2 + h, none⟩) htWlt).trans htfW; have HT3 := hide hT3; have HB3 := hide hb3; clear hT3 hb3))
    have BW3 : Below W.heap.size W w3 := ((Below.refl W.heap.size W).drew).trans HB3.out
    have B3 : Below w.heap.size w w3 := HBW.out.trans (BW3.mono hszW)
    have hD3 : w.heap.size ≤ D := by have := HDD.out; simp at this; omega
    have hK3 : w3.heap[D]? = some (.deferred (some [])) := (BW3.block D (Array.getElem?_eq_some_iff.1 HK.out).1).trans HK.out
    have hK4 : (w3.setCell ⟨t, 2 + h, none⟩ (.pointer (some ⟨b, 0, none⟩))).heap[D]? = some (.deferred (some [])) := (Below.heap_setCell _ _ _ _ (by simpa using hDt)).trans hK3
    refine ⟨by simp, .inl ⟨_, _, rfl, run_takeDeferred hK4, ?_⟩⟩
    refine ⟨_, results_none rfl _ _ _, rfl, b, ?_⟩
    exact regrown hFt htlt B3 hD3 hDt hK3 HT3.out (fun j => by rw [← B3.frozen (p := ⟨t, j, none⟩) htlt]) k2
  case stop =>
    rintro D c pre W _ _ h _
    exact h.elim

end Go.Proofs.YtaejpejfmpbinaaDoor
