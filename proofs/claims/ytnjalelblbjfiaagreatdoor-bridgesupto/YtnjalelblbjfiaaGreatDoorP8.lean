import Derived.Test.YtnjalelblbjfiaaGreatDoorP7
import Derived.Deep.RegionHeld3
import Derived.RangeFuncNested
import Derived.RangeFuncBound
import Derived.RangeFuncCalls
import Derived.RangeFuncLeaves
import Derived.RangeFuncBox
import Derived.Shelf.Abstract
import Derived.Shelf.RegionOpen
import Derived.OwnWalkIn
import Derived.TacticsInMore
import Derived.LoopNIn
import Derived.LoopIn
import Derived.Maps.AppendAt
namespace Go.Proofs.YtnjalelblbjfiaaGreatDoor
open Go.RowKit

theorem set2_0 {w : World} {b : Nat} {u v0 v1 : Value} (h : w.cell? ⟨b, 0, none⟩ = some u) : ((w.setCell ⟨b, 0, none⟩ v0).setCell ⟨b, 1, none⟩ v1).cell? ⟨b, 0, none⟩ = some v0 := by
  rw [set_other (.inr (by omega))]
  exact set_same h
theorem set2_1 {w : World} {b : Nat} {u v0 v1 : Value} (h : w.cell? ⟨b, 1, none⟩ = some u) : ((w.setCell ⟨b, 0, none⟩ v0).setCell ⟨b, 1, none⟩ v1).cell? ⟨b, 1, none⟩ = some v1 :=
  set_same (u := u) (by rw [set_other (.inr (by omega))]; exact h)

/-- A cut in a box of two cells, which may be written. -/
def CutBox (w : World) (b f : Nat) (last : Int) : Prop := f < 5 ∧ b < w.heap.size ∧ (∀ j, w.frozen? ⟨b, j, none⟩ = false) ∧ w.cell? ⟨b, 0, none⟩ = some (.int .i64 f) ∧ w.cell? ⟨b, 1, none⟩ = some (.int .i64 last)
theorem CutBox.below {B : Nat} {w w' : World} {b f : Nat} {last : Int} (h : CutBox w b f last) (hb : Below B w w') (hB : b < B) : CutBox w' b f last :=
  ⟨h.1, Nat.lt_of_lt_of_le h.2.1 hb.size, fun j => (hb.frozen (p := ⟨b, j, none⟩) hB).trans (h.2.2.1 j), (hb.cell (p := ⟨b, 0, none⟩) hB).trans h.2.2.2.1, (hb.cell (p := ⟨b, 1, none⟩) hB).trans h.2.2.2.2⟩
theorem CutBox.set {w : World} {b f f' : Nat} {last last' : Int} (h : CutBox w b f last) (hf : f' < 5) : CutBox ((w.setCell ⟨b, 0, none⟩ (.int .i64 f')).setCell ⟨b, 1, none⟩ (.int .i64 last')) b f' last' :=
  ⟨hf, by simpa using h.2.1, fun j => by simpa using h.2.2.1 j, set2_0 h.2.2.2.1, set2_1 h.2.2.2.2⟩

set_option maxRecDepth 100000 in
set_option maxHeartbeats 1000000 in
theorem bestCut_any (v : Value) (es : List Ent) (w : World) (hes : BunchAt w v es) (hn : es.length ≤ 200) :
    Calls Tryz.prog 151 #[v] w fun e w' => ∃ (f : Nat) (last : Int) (ok : Bool), f < 5 ∧ e = .returned (.tuple #[.agg #[.int .i64 f, .int .i64 last], .bool ok]) ∧ Below w.heap.size w w' := by
  have HB := hide hes
  obtain ⟨a, cap, rfl, _, _⟩ := hes
  go_enter Tryz.func151, Tryz.ntmps151
  go_wp2
  go_loopw [3, 4, 10] (fun ok m i wr => ∃ (k f : Nat) (last mm : Int) (okb : Bool), k ≤ 5 ∧ i = .int .i64 k ∧ ok = .bool okb ∧ m = .int .i64 mm ∧ CutBox wr w.heap.size f last ∧ Below w.heap.size w wr) (fun _ _ i _ => 5 - (intOf i).toNat)
  case atStart => exact ⟨0, 0, 0, _, false, by omega, rfl, rfl, rfl, ⟨by omega, by simp, fun j => World.frozen?_alloc_at _ _ _ _ rfl, by simp, by simp⟩, (by repeat (first | exact Below.refl _ _ | assumption | refine Below.drewN ?_ | refine Below.drew ?_ | refine Below.setCell ?_ (by first | exact Nat.le_refl _ | omega | (simp; done) | (simp; omega)) _ | refine Below.alloc ?_ (by first | exact Nat.le_refl _ | omega | (simp; done) | (simp; omega)) _))⟩
  case round =>
    obtain ⟨k, f, last, mm, okb, hk, rfl, rfl, rfl, hcb, hb⟩ := hrel
    have HC := hide hcb
    have hltb := hcb.2.1
    clear hcb
    by_cases hk5 : k < 5
    · have hki : (k : Int) < 5 := by omega
      go_wp2_with fail
      refine (hulls_any _ es k _ (HB.out.below hb (Nat.le_refl _)) hn hk5).mono ?_
      rintro e w1 ⟨g, cp, rfl, ho, hb1⟩
      have HO := hide ho
      clear ho
      go_wp2_with fail
      refine (part_any g cp es.length _ _ _ HO.out hn).mono ?_
      rintro e w2 ⟨l0, lo, hi, rfl, h1, h2, h3, h4, hb2⟩
      have hb12 : Below wr.heap.size wr w2 := hb1.trans (hb2.mono hb1.size)
      have HC2 := hide (HC.out.below hb12 hltb)
      have hlt2 := HC2.out.2.1
      have HB2 := hide (hb.trans (hb12.mono hb.size))
      clear hb1 hb2 hb12 HO HC
      go_wp2_with fail
      refine (most_any _ _ _ _).mono ?_
      rintro e w3 ⟨rfl, hb3⟩
      obtain ⟨hc3, hf3⟩ := bcell hb3
      have hz3 := hb3.size
      have HC3 := hide ((HC2.out.below ((Below.refl w2.heap.size w2).alloc (Nat.le_refl _) _) hlt2).below hb3 (by simp; omega))
      have HB3 := hide (HB2.out.trans (Below.trans ((Below.refl _ _).alloc HB2.out.size _) (hb3.mono (by have := HB2.out.size; simp; omega))))
      have p0 : w3.cell? ⟨w2.heap.size, 0, none⟩ = some (.int .i64 l0) := cell_later hb3 (by simp)
      have p1 : w3.cell? ⟨w2.heap.size, 1, none⟩ = some (.int .i64 lo) := cell_later hb3 (by simp)
      have p2 : w3.cell? ⟨w2.heap.size, 2, none⟩ = some (.int .i64 hi) := cell_later hb3 (by simp)
      have hlt3 : w2.heap.size < w3.heap.size := by simp at hz3; omega
      generalize hq : maxI lo hi = q at *
      clear hq hc3 hf3 hz3 hb3 HC2 HB2
      by_cases t1 : q < mm
      · by_cases t2 : (lo + hi - es.length) * 4 ≤ es.length
        · go_wp2
          have c0 := HC3.out.2.2.2.1
          have c1 := HC3.out.2.2.2.2
          have f0 := HC3.out.2.2.1 0
          have f1 := HC3.out.2.2.1 1
          have hn1 : ¬ w2.heap.size = w.heap.size := by omega
          have hn2 : ¬ w.heap.size = w2.heap.size := by omega
          have hlt4 : w.heap.size < w3.heap.size := by omega
          go_region_held3 (fun w' => w'.cell? ⟨w2.heap.size, 0, none⟩ = some (.int .i64 l0) ∧ w'.cell? ⟨w2.heap.size, 1, none⟩ = some (.int .i64 lo) ∧ w'.cell? ⟨w2.heap.size, 2, none⟩ = some (.int .i64 hi)) (go_keep)
            (first | (go_at_call 202; refine (most_any _ _ _ _).mono ?_; rintro e w4 ⟨rfl, hb4⟩; have k0 := cell_later hb4 p0; have k1 := cell_later hb4 p1; have k2 := cell_later hb4 p2; have k3 := cell_later hb4 c0; have k4 := cell_later hb4 c1; have k5 : w4.frozen? ⟨w.heap.size, 0, none⟩ = false := (hb4.frozen (p := ⟨w.heap.size, 0, none⟩) hlt4).trans f0; have k6 : w4.frozen? ⟨w.heap.size, 1, none⟩ = false := (hb4.frozen (p := ⟨w.heap.size, 1, none⟩) hlt4).trans f1))
          replace hb4 : Below w3.heap.size w3 w4 := ((Below.refl w3.heap.size w3).drew).trans hb4
          have HC4 := hide ((HC3.out.below hb4 hlt4).set (f' := k) (last' := l0) hk5)
          have HB4 := hide (Below.setCell (Below.setCell (HB3.out.trans (hb4.mono HB3.out.size)) (p := ⟨w.heap.size, 0, none⟩) (Nat.le_refl _) (.int .i64 k)) (p := ⟨w.heap.size, 1, none⟩) (Nat.le_refl _) (.int .i64 l0))
          clear hb4 k0 k1 k2 k3 k4 k5 k6
          go_wp2
          go_roundw
          case rel => exact ⟨k + 1, k, l0, _, true, by omega, by go_num, rfl, rfl, HC4.out, HB4.out⟩
          case measure => simp [intOf]; omega
        · go_wp2
          go_roundw
          case rel => exact ⟨k + 1, f, last, _, okb, by omega, by go_num, rfl, rfl, HC3.out, HB3.out⟩
          case measure => simp [intOf]; omega
      · go_wp2
        go_roundw
        case rel => exact ⟨k + 1, f, last, _, okb, by omega, by go_num, rfl, rfl, HC3.out, HB3.out⟩
        case measure => simp [intOf]; omega
    · have c0 := HC.out.2.2.2.1
      have c1 := HC.out.2.2.2.2
      have f0 := HC.out.2.2.1 0
      have f1 := HC.out.2.2.1 1
      go_wp2
      refine bodyPost_ret (v := .tuple #[.agg #[.int .i64 f, .int .i64 last], .bool okb]) ?_ rfl ⟨f, last, okb, HC.out.1, rfl, ?_⟩
      · have s0 := set2_0 (v0 := .int .i64 f) (v1 := .int .i64 last) c0
        have s1 := set2_1 (v0 := .int .i64 f) (v1 := .int .i64 last) c1
        simp [results, Tryz.results151, go_sem, s0, s1]
      · exact Below.setCell (Below.setCell hb (Nat.le_refl _) _) (Nat.le_refl _) _

end Go.Proofs.YtnjalelblbjfiaaGreatDoor

namespace Go.Proofs.YtnjalelblbjfiaaGreatDoor
open Go.RowKit

/-- A store of what is there turns nothing. -/
theorem sameCut {w : World} {b i : Nat} {v : Value} (h : w.cell? ⟨b, i, none⟩ = some v) : w.setCell ⟨b, i, none⟩ v = w := by
  have hb : b < w.heap.size := block_lt_of_cell h
  unfold World.cell? at h
  unfold World.setCell
  cases w with
  | mk heap tape drawn os output =>
    simp only at h hb ⊢
    congr 1
    apply Array.ext_getElem?
    intro k
    rw [Array.getElem?_modify]
    by_cases hk : b = k
    · subst hk
      rw [if_pos rfl]
      cases ho : heap[b]? with
      | none => rfl
      | some o =>
        rw [ho] at h
        cases o with
        | cells c t fr =>
          simp at h
          simp only [Option.map_some]
          congr 2
          apply Array.ext_getElem?
          intro j
          simp only [Option.isSome_none, Bool.false_eq_true, if_false]
          rw [Array.getElem?_setIfInBounds]
          by_cases hj : i = j
          · subst hj
            obtain ⟨hj', hh⟩ := Array.getElem?_eq_some_iff.1 h
            rw [if_pos rfl, if_pos hj', h]
          · rw [if_neg hj]
        | _ => simp at h
    · rw [if_neg hk]

set_option maxRecDepth 100000 in
set_option maxHeartbeats 1000000 in
theorem split_any (v : Value) (es : List Ent) (w : World) (hes : BunchAt w v es) (hn : es.length ≤ 200) :
    Calls Tryz.prog 86 #[v] w fun e w' => ∃ (f : Nat) (last : Int) (v1 v2 : Value) (ok : Bool), f < 5 ∧ e = .returned (.tuple #[.agg #[.int .i64 f, .int .i64 last], v1, v2, .bool ok]) ∧ (ok = true → BunchAt w' v1 (lows f last es) ∧ BunchAt w' v2 (highs f last es)) ∧ Below w.heap.size w w' := by
  have HB := hide hes
  obtain ⟨a, cap, rfl, _, _⟩ := hes
  by_cases h4 : es.length ≤ 4
  · have h4i : (es.length : Int) ≤ 4 := by omega
    go_enter Tryz.func86, Tryz.ntmps86
    go_wp2
    refine bodyPost_ret (v := .tuple #[.agg #[.int .i64 0, .int .i64 0], .slice none 0 0, .slice none 0 0, .bool false]) ?_ rfl ⟨0, 0, .slice none 0 0, .slice none 0 0, false, by omega, rfl, fun h => (by cases h), (by repeat (first | exact Below.refl _ _ | assumption | refine Below.drewN ?_ | refine Below.drew ?_ | refine Below.setCell ?_ (by first | exact Nat.le_refl _ | omega | (simp; done) | (simp; omega)) _ | refine Below.alloc ?_ (by first | exact Nat.le_refl _ | omega | (simp; done) | (simp; omega)) _))⟩
    simp [results, Tryz.results86, go_sem]
  · have h4i : ¬ (es.length : Int) ≤ 4 := by omega
    go_enter Tryz.func86, Tryz.ntmps86
    go_wp2_with fail
    refine (bestCut_any _ es _ (HB.out.below ((Below.refl w.heap.size w).alloc (Nat.le_refl _) _) (Nat.le_refl _)) hn).mono ?_
    rintro e w1 ⟨f, last, ok, hf, rfl, hb1⟩
    have hz1 : w.heap.size < w1.heap.size := by have := hb1.size; simp at this; omega
    have hb0 : Below (w.heap.size + 1) (w.alloc (.cells #[.int .i64 0, .int .i64 0] 193)) w1 := hb1.mono (by simp)
    have r0 : w1.cell? ⟨w.heap.size, 0, none⟩ = some (.int .i64 0) := (hb0.cell (p := ⟨w.heap.size, 0, none⟩) (Nat.lt_succ_self _)).trans (by simp)
    have r1 : w1.cell? ⟨w.heap.size, 1, none⟩ = some (.int .i64 0) := (hb0.cell (p := ⟨w.heap.size, 1, none⟩) (Nat.lt_succ_self _)).trans (by simp)
    have rf : ∀ j, w1.frozen? ⟨w.heap.size, j, none⟩ = false := fun j => (hb0.frozen (p := ⟨w.heap.size, j, none⟩) (Nat.lt_succ_self _)).trans (World.frozen?_alloc_at _ _ _ _ rfl)
    have rf0 := rf 0
    have rf1 := rf 1
    have HBX := hide (CutBox.set (f' := f) (last' := last) (show CutBox w1 w.heap.size 0 0 from ⟨by omega, hz1, rf, r0, r1⟩) hf)
    have HBW := hide (Below.setCell (Below.setCell (Below.trans ((Below.refl w.heap.size w).alloc (Nat.le_refl _) (.cells #[.int .i64 0, .int .i64 0] 193)) (hb0.mono (by omega))) (p := ⟨w.heap.size, 0, none⟩) (Nat.le_refl _) (.int .i64 f)) (p := ⟨w.heap.size, 1, none⟩) (Nat.le_refl _) (.int .i64 last))
    clear hb0 rf
    cases ok
    · go_wp2_with fail
      refine bodyPost_ret (v := .tuple #[.agg #[.int .i64 f, .int .i64 last], .slice none 0 0, .slice none 0 0, .bool false]) ?_ rfl ⟨f, last, .slice none 0 0, .slice none 0 0, false, hf, rfl, fun h => (by cases h), ?_⟩
      · have s0 := set2_0 (v0 := .int .i64 f) (v1 := .int .i64 last) HBX.out.2.2.2.1
        have s1 := set2_1 (v0 := .int .i64 f) (v1 := .int .i64 last) HBX.out.2.2.2.2
        simp [results, Tryz.results86, go_sem, s0, s1]
      · exact Below.setCell (Below.setCell HBW.out (Nat.le_refl _) _) (Nat.le_refl _) _
    · go_wp2_with fail
      refine (sides_walk _ es f last _ (HB.out.below HBW.out (Nat.le_refl _)) hn hf).mono ?_
      rintro e w3 ⟨v1, v2, rfl, hv1, hv2, hb3⟩
      have HX3 := HBX.out.below hb3 (by simpa using hz1)
      have x0 := HX3.2.2.2.1
      have x1 := HX3.2.2.2.2
      have xf0 := HX3.2.2.1 0
      have xf1 := HX3.2.2.1 1
      have HW3 := hide (HBW.out.trans (hb3.mono HBW.out.size))
      have HXX := hide HX3
      have e0 := sameCut x0
      have e1 := sameCut x1
      have HV1 := hide hv1
      have HV2 := hide hv2
      obtain ⟨a1, q1, rfl, _, _⟩ := hv1
      obtain ⟨a2, q2, rfl, _, _⟩ := hv2
      clear hb3 HX3
      go_wp2_with fail
      refine bodyPost_ret (v := .tuple #[.agg #[.int .i64 f, .int .i64 last], .slice a1 (lows f last es).length q1, .slice a2 (highs f last es).length q2, .bool true]) ?_ rfl ⟨f, last, _, _, true, hf, rfl, fun _ => ⟨?_, ?_⟩, ?_⟩
      · simp [results, Tryz.results86, go_sem, x0, x1]
      · exact HV1.out
      · exact HV2.out
      · exact HW3.out

end Go.Proofs.YtnjalelblbjfiaaGreatDoor

namespace Go.Proofs.YtnjalelblbjfiaaGreatDoor
open Go.RowKit

theorem TreeAt.leafy {w : World} {n b : Nat} {es : List Ent} (h : ∃ v, BunchAt w v es ∧ w.cell? ⟨b, 0, none⟩ = some v ∧ w.cell? ⟨b, 3, none⟩ = some (.pointer none)) : TreeAt w n b es := by
  cases n with
  | zero => exact h
  | succ n => exact .inl h

set_option maxRecDepth 100000 in
set_option maxHeartbeats 1000000 in
theorem grow_any : ∀ (n : Nat) (v : Value) (es : List Ent) (w : World), n ≤ 12 → BunchAt w v es → es.length ≤ 200 →
    Calls Tryz.prog 85 #[v, .int .i64 n, .func (.func 86) #[] #[]] w fun e w' => ∃ b, e = .returned (.pointer (some ⟨b, 0, none⟩)) ∧ TreeAt w' n b es ∧ Below w.heap.size w w' := by
  intro n
  induction n with
  | zero =>
    intro v es w hn hes hlen
    have HB := hide hes
    obtain ⟨a, cap, rfl, _, _⟩ := hes
    go_enter Tryz.func85, Tryz.ntmps85
    go_wp2
    go_ret
    exact ⟨_, rfl, TreeAt.leafy ⟨_, HB.out.below (by repeat (first | exact Below.refl _ _ | assumption | refine Below.drewN ?_ | refine Below.drew ?_ | refine Below.setCell ?_ (by first | exact Nat.le_refl _ | omega | (simp; done) | (simp; omega)) _ | refine Below.alloc ?_ (by first | exact Nat.le_refl _ | omega | (simp; done) | (simp; omega)) _)) (Nat.le_refl _), by simp, by simp⟩, (by repeat (first | exact Below.refl _ _ | assumption | refine Below.drewN ?_ | refine Below.drew ?_ | refine Below.setCell ?_ (by first | exact Nat.le_refl _ | omega | (simp; done) | (simp; omega)) _ | refine Below.alloc ?_ (by first | exact Nat.le_refl _ | omega | (simp; done) | (simp; omega)) _))⟩
  | succ n ih =>
    intro v es w hn hes hlen
    have IH := hide ih
    clear ih
    have HB := hide hes
    obtain ⟨a, cap, rfl, _, _⟩ := hes
    have hni : (0 : Int) < (n + 1 : Nat) := by omega
    go_enter Tryz.func85, Tryz.ntmps85
    go_wp2_with fail
    refine (split_any _ es w HB.out hlen).mono ?_
    rintro e w1 ⟨f, last, v1, v2, ok, hf, rfl, hok, hb1⟩
    have hfi : (f : Int) < 5 := by omega
    cases ok
    · have HB1 := hide hb1
      clear hok hb1
      go_wp2
      go_ret
      have B1 : Below w.heap.size w _ := ((HB1.out.alloc HB1.out.size (.cells #[.int .i64 f, .int .i64 last] 193)).alloc (by have := HB1.out.size; simp; omega) (.cells #[.slice a es.length cap, .int .i64 0, .int .i64 0, .pointer none, .pointer none] 195))
      exact ⟨_, rfl, TreeAt.leafy ⟨_, HB.out.below B1 (Nat.le_refl _), by simp, by simp⟩, B1⟩
    · obtain ⟨hv1, hv2⟩ := hok rfl
      have HV1 := hide hv1
      have HV2 := hide hv2
      obtain ⟨a1, q1, rfl, _, _⟩ := hv1
      obtain ⟨a2, q2, rfl, _, _⟩ := hv2
      have HB1 := hide hb1
      have hz1 := hb1.size
      have hl1 := Nat.le_trans (lows_le f last es) hlen
      have hl2 := Nat.le_trans (highs_le f last es) hlen
      have hne : ((n + 1 : Nat) : Int) - 1 = n := by omega
      have hnr : IntKind.i64.wrap (((n + 1 : Nat) : Int) - 1) = n := by rw [hne, IntKind.wrap_i64]; omega
      generalize hL : lows f last es = L at *
      generalize hH : highs f last es = H at *
      have EL := hide hL
      have EH := hide hH
      clear hok hb1 hL hH hne hnr
      have hnr : IntKind.i64.wrap (n : Int) = n := by rw [IntKind.wrap_i64]; omega
      go_wp2_with fail
      have hn12 : n ≤ 12 := by omega
      have HW := hide ((Below.refl w1.heap.size w1).alloc (Nat.le_refl _) (.cells #[.int .i64 f, .int .i64 last] 193))
      go_region_held3 (fun w' => w'.cell? ⟨w1.heap.size, 0, none⟩ = some (.int .i64 f) ∧ w'.cell? ⟨w1.heap.size, 1, none⟩ = some (.int .i64 last)) (go_keep)
        (first
          | (go_at_call_of 85 (Value.slice a1 L.length q1); refine (IH.out _ L _ hn12 ?_ hl1).mono ?_; (exact HV1.out.below HW.out.drew (Nat.le_refl _)); rintro e w3 ⟨b1, rfl, hT1, hb3⟩; have k0 : w3.cell? ⟨w1.heap.size, 0, none⟩ = some (.int .i64 f) := cell_later hb3 (by simp); have k1 : w3.cell? ⟨w1.heap.size, 1, none⟩ = some (.int .i64 last) := cell_later hb3 (by simp); have HT1 := hide hT1; have HB3 := hide hb3; clear hT1 hb3)
          | (go_at_call_of 85 (Value.slice a2 H.length q2); refine (IH.out _ H _ hn12 ?_ hl2).mono ?_; (exact (HV2.out.below HW.out.drew (Nat.le_refl _)).below HB3.out (Nat.le_refl _)); rintro e w4 ⟨b2, rfl, hT2, hb4⟩; have m0 := cell_later hb4 k0; have m1 := cell_later hb4 k1; have HT2 := hide hT2; have HB4 := hide hb4; clear hT2 hb4))
      have B3 : Below w1.heap.size w1 w3 := HW.out.drew.trans (HB3.out.mono (by simp))
      have B4 : Below w1.heap.size w1 w4 := B3.trans (HB4.out.mono B3.size)
      have BW : Below w.heap.size w (w4.alloc (.cells #[.slice none 0 0, .int .i64 f, .int .i64 last, .pointer (some ⟨b1, 0, none⟩), .pointer (some ⟨b2, 0, none⟩)] 195)) := (HB1.out.trans (B4.mono hz1)).alloc (Nat.le_trans hz1 B4.size) _
      have BT := (Below.refl w4.heap.size w4).alloc (Nat.le_refl _) (.cells #[.slice none 0 0, .int .i64 f, .int .i64 last, .pointer (some ⟨b1, 0, none⟩), .pointer (some ⟨b2, 0, none⟩)] 195)
      have T1 := hide ((HT1.out.below HB4.out (Nat.le_refl _)).below BT (Nat.le_refl _))
      have T2 := hide (HT2.out.below BT (Nat.le_refl _))
      have HBW := hide BW
      clear B3 B4 BW BT m0 m1 k0 k1
      go_wp2
      go_ret
      refine ⟨_, rfl, .inr ⟨f, last, b1, b2, hf, by simp, by simp, by simp, by simp, ?_, ?_⟩, HBW.out⟩
      · have := T1.out; rw [← EL.out] at this; exact this
      · have := T2.out; rw [← EH.out] at this; exact this

end Go.Proofs.YtnjalelblbjfiaaGreatDoor

namespace Go.Proofs.YtnjalelblbjfiaaGreatDoor
open Go.RowKit Go.Shelf

attribute [local go_sem] Oper.semAt_some

/-- A slice of ranks and entries, in a block below n₀. -/
def RankRow (n₀ : Nat) (W : World) (sv : Value) (L : List Ent) : Prop :=
  ∃ (a : Option Addr) (cap : Nat), sv = .slice a L.length cap ∧ ∀ j (h : j < L.length), ∃ g, a = some ⟨g, 0, none⟩ ∧ g < n₀ ∧ W.cell? ⟨g, j * 3, none⟩ = some (.int .i64 L[j].2.pr) ∧ W.cell? ⟨g, j * 3 + 1, none⟩ = some (.int .i64 L[j].2.id) ∧ W.cell? ⟨g, j * 3 + 2, none⟩ = some (.pointer (some ⟨L[j].1, 0, none⟩))
theorem RankRow.below {n₀ : Nat} {A B : World} (h : Below n₀ A B) {sv : Value} {L : List Ent} (hr : RankRow n₀ A sv L) : RankRow n₀ B sv L := by
  obtain ⟨a, cap, e, hc⟩ := hr
  refine ⟨a, cap, e, fun j hj => ?_⟩
  obtain ⟨g, ha, hg, c0, c1, c2⟩ := hc j hj
  exact ⟨g, ha, hg, (h.cell (p := ⟨g, j * 3, none⟩) hg).trans c0, (h.cell (p := ⟨g, j * 3 + 1, none⟩) hg).trans c1, (h.cell (p := ⟨g, j * 3 + 2, none⟩) hg).trans c2⟩

/-- What the iterator hands on. -/
def encE {Pr : Ent → Prop} (x : { e : Ent // Pr e }) : Array Value := #[.agg #[.int .i64 x.1.2.pr, .int .i64 x.1.2.id], .pointer (some ⟨x.1.1, 0, none⟩)]

set_option maxRecDepth 100000 in
set_option maxHeartbeats 2000000 in
theorem all1_in {Pr : Ent → Prop} (F : Fence) (n : Nat) (h49 : F.fn 99) (hro : F.round = none) (hn : 1 ≤ n) (l Bm m n₀ : Nat) (sv : Value) (L : List { e : Ent // Pr e }) (hlen : L.length ≤ 200) (J Jx : List { e : Ent // Pr e } → World → Prop) (B : Nat) (hJ : AbidesFrom B J)
    (hY : ∀ pre x W, J pre W → pre.length < L.length → YieldAt F (n - 1) Tryz.prog l (encE x) W fun e W' =>
      (e = .returned (.bool true) ∧ J (pre ++ [x]) W' ∧ Below n₀ W W') ∨ (e = .returned (.bool false) ∧ Jx (pre ++ [x]) W'))
    (W : World) (hn₀ : n₀ ≤ W.heap.size) (hBm : W.cell? ⟨Bm, 0, none⟩ = some (.pointer (some ⟨m, 0, none⟩))) (hm : W.cell? ⟨m, 1, none⟩ = some sv) (hrow : RankRow n₀ W sv (L.map (·.1))) (h0 : J [] W) :
    CallsIn F n Tryz.prog 99 #[.func (.yield l) #[] #[], .pointer (some ⟨Bm, 0, none⟩)] W fun e W' => (∃ v, e = .returned v) ∧
      ((∃ ys, ys = L ∧ J ys W') ∨ (∃ pre, pre <+: L ∧ Jx pre W')) := by
  obtain ⟨a, cap, rfl, hc⟩ := hrow
  simp only [List.length_map] at hc hm ⊢
  refine callsIn_of_wp Tryz.func99 rfl h49 ?_ hro
  simp only [Tryz.ntmps99, List.size_toArray, List.length_cons, List.length_nil, Nat.reduceAdd, Nat.reduceSub, Array.replicate_succ, Array.replicate_zero, List.push_toArray, List.append_toArray, List.nil_append, List.cons_append]
  gi_wp2
  gi_loopw [10] (fun i wr => ∃ k : Nat, k ≤ L.length ∧ i = .int .i64 k ∧ J (L.take k) wr ∧ Below n₀ W wr) (fun i _ => L.length - (intOf i).toNat)
  case atStart => exact ⟨0, Nat.zero_le _, rfl, by simpa using h0, Below.refl _ _⟩
  case round =>
    obtain ⟨k, hk, rfl, hJs, hnx⟩ := hrel
    by_cases hlt : k < L.length
    · obtain ⟨g, rfl, hg, c0, c1, c2⟩ := hc k hlt
      rw [List.getElem_map] at c0 c1 c2
      have d0 := (hnx.cell (p := ⟨g, k * 3, none⟩) hg).trans c0
      have d1 := (hnx.cell (p := ⟨g, k * 3 + 1, none⟩) hg).trans c1
      have d2 := (hnx.cell (p := ⟨g, k * 3 + 2, none⟩) hg).trans c2
      have hglt : g < wr.heap.size := Nat.lt_of_lt_of_le (Nat.lt_of_lt_of_le hg hn₀) hnx.size
      have hki : (k : Int) < L.length := by omega
      have hJ1 := hJ _ wr (wr.alloc (.cells #[.int .i64 L[k].1.2.pr, .int .i64 L[k].1.2.id, .pointer (some ⟨L[k].1.1, 0, none⟩)] 189)) none hJs (World.grownBy_alloc _ _ _) (fun r e => by cases e)
      obtain ⟨fn, tmps, assign, body, hy, hR⟩ := hY _ L[k] _ hJ1 (by simp; omega)
      simp only [encE] at hy
      have HT : Hid (L.take (k + 1) = L.take k ++ [L[k]]) := by rw [List.take_succ_eq_append_getElem hlt]; exact rfl
      generalize hee : L[k] = ek at *
      clear hJ1 hc c0 c1 c2 hee
      gi_wp2
      refine hR.mono ?_
      rintro e W3 (⟨rfl, hJ3, hk3⟩ | ⟨rfl, hJx3⟩)
      · gi_wp2
        go_roundw
        case rel => exact ⟨k + 1, by omega, by simp, by rw [HT.out]; exact hJ3, (hnx.alloc (Nat.le_trans hn₀ hnx.size) _).trans hk3⟩
        case measure => simp [intOf]; omega
      · gi_wp2
        refine bodyPost_ret (results_none rfl _ _ _) rfl ?_
        exact ⟨⟨_, rfl⟩, .inr ⟨_, by rw [← HT.out]; exact List.take_prefix _ _, hJx3⟩⟩
    · obtain rfl : k = L.length := by omega
      clear hc
      gi_wp2
      go_end0
      exact ⟨⟨_, rfl⟩, .inl ⟨_, rfl, by simpa using hJs⟩⟩

end Go.Proofs.YtnjalelblbjfiaaGreatDoor
