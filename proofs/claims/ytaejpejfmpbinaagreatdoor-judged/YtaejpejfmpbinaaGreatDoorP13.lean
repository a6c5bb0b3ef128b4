import Derived.Test.YtaejpejfmpbinaaGreatDoorP12
import Derived.RangeFuncNested
import Derived.RangeFuncBound
import Derived.RangeFuncCalls
import Derived.RangeFuncLeaves
import Derived.RangeFuncBox
import Derived.Shelf.Abstract
import Derived.Shelf.RegionOpen
import Derived.OwnWalkIn
import Derived.TacticsInMore
import Derived.LoopNIn
import Derived.LoopIn
import Derived.Maps.AppendAt
namespace Go.Proofs.YtaejpejfmpbinaaGreatDoor
open Go.RowKit

theorem TreeAt.leafy {w : World} {n b : Nat} {es : List Ent} (h : ∃ v, BunchAt w v es ∧ w.cell? ⟨b, 0, none⟩ = some v ∧ w.cell? ⟨b, 3, none⟩ = some (.pointer none)) : TreeAt w n b es := by
  cases n with
  | zero => exact h
  | succ n => exact .inl h

set_option maxRecDepth 100000 in
set_option maxHeartbeats 1000000 in
theorem grow_any : ∀ (n : Nat) (v : Value) (es : List Ent) (w : World), n ≤ 12 → BunchAt w v es → es.length ≤ 200 →
    Calls Tryz.prog 130 #[v, .int .i64 n, .func (.func 131) #[] #[]] w fun e w' => ∃ b, e = .returned (.pointer (some ⟨b, 0, none⟩)) ∧ TreeAt w' n b es ∧ Below w.heap.size w w' := by
  intro n
  induction n with
  | zero =>
    intro v es w hn hes hlen
    have HB := hide hes
    obtain ⟨a, cap, rfl, _, _⟩ := hes
    go_enter Tryz.func130, Tryz.ntmps130
    go_wp2
    go_ret
    exact ⟨_, rfl, TreeAt.leafy ⟨_, HB.out.below (by repeat (first | exact Below.refl _ _ | assumption | refine Below.drewN ?_ | refine Below.drew ?_ | refine Below.setCell ?_ (by first | exact Nat.le_refl _ | omega | (simp; done) | (simp; omega)) _ | refine Below.alloc ?_ (by first | exact Nat.le_refl _ | omega | (simp; done) | (simp; omega)) _)) (Nat.le_refl _), by simp, by simp⟩, (by repeat (first | exact Below.refl _ _ | assumption | refine Below.drewN ?_ | refine Below.drew ?_ | refine Below.setCell ?_ (by first | exact Nat.le_refl _ | omega | (simp; done) | (simp; omega)) _ | refine Below.alloc ?_ (by first | exact Nat.le_refl _ | omega | (simp; done) | (simp; omega)) _))⟩
  | succ n ih =>
    intro v es w hn hes hlen
    have IH := hide ih
    clear ih
    have HB := hide hes
    obtain ⟨a, cap, rfl, _, _⟩ := hes
    have hni : (0 : Int) < (n + 1 : Nat) := by omega
    go_enter Tryz.func130, Tryz.ntmps130
    go_wp2_with fail
    refine (split_any _ es w HB.out hlen).mono ?_
    rintro e w1 ⟨f, last, v1, v2, ok, hf, rfl, hok, hb1⟩
    have hfi : (f : Int) < 5 := by omega
    cases ok
    · have HB1 := hide hb1
      clear hok hb1
      go_wp2
      go_ret
      have B1 : Below w.heap.size w _ := ((HB1.out.alloc HB1.out.size (.cells #[.int .i64 f, .int .i64 last] 245)).alloc (by have := HB1.out.size; simp; omega) (.cells #[.slice a es.length cap, .int .i64 0, .int .i64 0, .pointer none, .pointer none] 247))
      exact ⟨_, rfl, TreeAt.leafy ⟨_, HB.out.below B1 (Nat.le_refl _), by simp, by simp⟩, B1⟩
    · obtain ⟨hv1, hv2⟩ := hok rfl
      have HV1 := hide hv1
      have HV2 := hide hv2
      obtain ⟨a1, q1, rfl, _, _⟩ := hv1
      obtain ⟨a2, q2, rfl, _, _⟩ := hv2
      have HB1 := hide hb1
      have hz1 := hb1.size
      have hl1 := Nat.le_trans (lows_le f last es) hlen
      have hl2 := Nat.le_trans (highs_le f last es) hlen
      have hne : ((n + 1 : Nat) : Int) - 1 = n := by omega
      have hnr : IntKind.i64.wrap (((n + 1 : Nat) : Int) - 1) = n := by rw [hne, IntKind.wrap_i64]; omega
      generalize hL : lows f last es = L at *
      generalize hH : highs f last es = H at *
      have EL := hide hL
      have EH := hide hH
      clear hok hb1 hL hH hne hnr
      have hnr : IntKind.i64.wrap (n : Int) = n := by rw [IntKind.wrap_i64]; omega
      go_wp2_with fail
      have hn12 : n ≤ 12 := by omega
      have HW := hide ((Below.refl w1.heap.size w1).alloc (Nat.le_refl _) (.cells #[.int .i64 f, .int .i64 last] 245))
      go_region_held3 (fun w' => w'.cell? ⟨w1.heap.size, 0, none⟩ = some (.int .i64 f) ∧ w'.cell? ⟨w1.heap.size, 1, none⟩ = some (.int .i64 last)) (go_keep)
        (first
          | (go_at_call_of 130 (Value.slice a1 L.length q1); refine (IH.out _ L _ hn12 ?_ hl1).mono ?_; (exact HV1.out.below HW.out.drew (Nat.le_refl _)); rintro e w3 ⟨b1, rfl, hT1, hb3⟩; have k0 : w3.cell? ⟨w1.heap.size, 0, none⟩ = some (.int .i64 f) := cell_later hb3 (by simp); have k1 : w3.cell? ⟨w1.heap.size, 1, none⟩ = some (.int .i64 last) := cell_later hb3 (by simp); have HT1 := hide hT1; have HB3 := hide hb3; clear hT1 hb3)
          | (go_at_call_of 130 (Value.slice a2 H.length q2); refine (IH.out _ H _ hn12 ?_ hl2).mono ?_; (exact (HV2.out.below HW.out.drew (Nat.le_refl _)).below HB3.out (Nat.le_refl _)); rintro e w4 ⟨b2, rfl, hT2, hb4⟩; have m0 := cell_later hb4 k0; have m1 := cell_later hb4 k1; have HT2 := hide hT2; have HB4 := hide hb4; clear hT2 hb4))
      have B3 : Below w1.heap.size w1 w3 := HW.out.drew.trans (HB3.out.mono (by simp))
      have B4 : Below w1.heap.size w1 w4 := B3.trans (HB4.out.mono B3.size)
      have BW : Below w.heap.size w (w4.alloc (.cells #[.slice none 0 0, .int .i64 f, .int .i64 last, .pointer (some ⟨b1, 0, none⟩), .pointer (some ⟨b2, 0, none⟩)] 247)) := (HB1.out.trans (B4.mono hz1)).alloc (Nat.le_trans hz1 B4.size) _
      have BT := (Below.refl w4.heap.size w4).alloc (Nat.le_refl _) (.cells #[.slice none 0 0, .int .i64 f, .int .i64 last, .pointer (some ⟨b1, 0, none⟩), .pointer (some ⟨b2, 0, none⟩)] 247)
      have T1 := hide ((HT1.out.below HB4.out (Nat.le_refl _)).below BT (Nat.le_refl _))
      have T2 := hide (HT2.out.below BT (Nat.le_refl _))
      have HBW := hide BW
      clear B3 B4 BW BT m0 m1 k0 k1
      go_wp2
      go_ret
      refine ⟨_, rfl, .inr ⟨f, last, b1, b2, hf, by simp, by simp, by simp, by simp, ?_, ?_⟩, HBW.out⟩
      · have := T1.out; rw [← EL.out] at this; exact this
      · have := T2.out; rw [← EH.out] at this; exact this

end Go.Proofs.YtaejpejfmpbinaaGreatDoor

namespace Go.Proofs.YtaejpejfmpbinaaGreatDoor
open Go.RowKit Go.Shelf

attribute [local go_sem] Oper.semAt_some

/-- A slice of ranks and entries, in a block below n₀. -/
def RankRow (n₀ : Nat) (W : World) (sv : Value) (L : List Ent) : Prop :=
  ∃ (a : Option Addr) (cap : Nat), sv = .slice a L.length cap ∧ ∀ j (h : j < L.length), ∃ g, a = some ⟨g, 0, none⟩ ∧ g < n₀ ∧ W.cell? ⟨g, j * 3, none⟩ = some (.int .i64 L[j].2.pr) ∧ W.cell? ⟨g, j * 3 + 1, none⟩ = some (.int .i64 L[j].2.id) ∧ W.cell? ⟨g, j * 3 + 2, none⟩ = some (.pointer (some ⟨L[j].1, 0, none⟩))
theorem RankRow.below {n₀ : Nat} {A B : World} (h : Below n₀ A B) {sv : Value} {L : List Ent} (hr : RankRow n₀ A sv L) : RankRow n₀ B sv L := by
  obtain ⟨a, cap, e, hc⟩ := hr
  refine ⟨a, cap, e, fun j hj => ?_⟩
  obtain ⟨g, ha, hg, c0, c1, c2⟩ := hc j hj
  exact ⟨g, ha, hg, (h.cell (p := ⟨g, j * 3, none⟩) hg).trans c0, (h.cell (p := ⟨g, j * 3 + 1, none⟩) hg).trans c1, (h.cell (p := ⟨g, j * 3 + 2, none⟩) hg).trans c2⟩

/-- What the iterator hands on. -/
def encE {Pr : Ent → Prop} (x : { e : Ent // Pr e }) : Array Value := #[.agg #[.int .i64 x.1.2.pr, .int .i64 x.1.2.id], .pointer (some ⟨x.1.1, 0, none⟩)]

set_option maxRecDepth 100000 in
set_option maxHeartbeats 2000000 in
theorem all1_in {Pr : Ent → Prop} (F : Fence) (n : Nat) (h49 : F.fn 157) (hro : F.round = none) (hn : 1 ≤ n) (l Bm m n₀ : Nat) (sv : Value) (L : List { e : Ent // Pr e }) (hlen : L.length ≤ 200) (J Jx : List { e : Ent // Pr e } → World → Prop) (B : Nat) (hJ : AbidesFrom B J)
    (hY : ∀ pre x W, J pre W → pre.length < L.length → YieldAt F (n - 1) Tryz.prog l (encE x) W fun e W' =>
      (e = .returned (.bool true) ∧ J (pre ++ [x]) W' ∧ Below n₀ W W') ∨ (e = .returned (.bool false) ∧ Jx (pre ++ [x]) W'))
    (W : World) (hn₀ : n₀ ≤ W.heap.size) (hBm : W.cell? ⟨Bm, 0, none⟩ = some (.pointer (some ⟨m, 0, none⟩))) (hm : W.cell? ⟨m, 1, none⟩ = some sv) (hrow : RankRow n₀ W sv (L.map (·.1))) (h0 : J [] W) :
    CallsIn F n Tryz.prog 157 #[.func (.yield l) #[] #[], .pointer (some ⟨Bm, 0, none⟩)] W fun e W' => (∃ v, e = .returned v) ∧
      ((∃ ys, ys = L ∧ J ys W') ∨ (∃ pre, pre <+: L ∧ Jx pre W')) := by
  obtain ⟨a, cap, rfl, hc⟩ := hrow
  simp only [List.length_map] at hc hm ⊢
  refine callsIn_of_wp Tryz.func157 rfl h49 ?_ hro
  simp only [Tryz.ntmps157, List.size_toArray, List.length_cons, List.length_nil, Nat.reduceAdd, Nat.reduceSub, Array.replicate_succ, Array.replicate_zero, List.push_toArray, List.append_toArray, List.nil_append, List.cons_append]
  gi_wp2
  gi_loopw [10] (fun i wr => ∃ k : Nat, k ≤ L.length ∧ i = .int .i64 k ∧ J (L.take k) wr ∧ Below n₀ W wr) (fun i _ => L.length - (intOf i).toNat)
  case atStart => exact ⟨0, Nat.zero_le _, rfl, by simpa using h0, Below.refl _ _⟩
  case round =>
    obtain ⟨k, hk, rfl, hJs, hnx⟩ := hrel
    by_cases hlt : k < L.length
    · obtain ⟨g, rfl, hg, c0, c1, c2⟩ := hc k hlt
      rw [List.getElem_map] at c0 c1 c2
      have d0 := (hnx.cell (p := ⟨g, k * 3, none⟩) hg).trans c0
      have d1 := (hnx.cell (p := ⟨g, k * 3 + 1, none⟩) hg).trans c1
      have d2 := (hnx.cell (p := ⟨g, k * 3 + 2, none⟩) hg).trans c2
      have hglt : g < wr.heap.size := Nat.lt_of_lt_of_le (Nat.lt_of_lt_of_le hg hn₀) hnx.size
      have hki : (k : Int) < L.length := by omega
      have hJ1 := hJ _ wr (wr.alloc (.cells #[.int .i64 L[k].1.2.pr, .int .i64 L[k].1.2.id, .pointer (some ⟨L[k].1.1, 0, none⟩)] 224)) none hJs (World.grownBy_alloc _ _ _) (fun r e => by cases e)
      obtain ⟨fn, tmps, assign, body, hy, hR⟩ := hY _ L[k] _ hJ1 (by simp; omega)
      simp only [encE] at hy
      have HT : Hid (L.take (k + 1) = L.take k ++ [L[k]]) := by rw [List.take_succ_eq_append_getElem hlt]; exact rfl
      generalize hee : L[k] = ek at *
      clear hJ1 hc c0 c1 c2 hee
      gi_wp2
      refine hR.mono ?_
      rintro e W3 (⟨rfl, hJ3, hk3⟩ | ⟨rfl, hJx3⟩)
      · gi_wp2
        go_roundw
        case rel => exact ⟨k + 1, by omega, by simp, by rw [HT.out]; exact hJ3, (hnx.alloc (Nat.le_trans hn₀ hnx.size) _).trans hk3⟩
        case measure => simp [intOf]; omega
      · gi_wp2
        refine bodyPost_ret (results_none rfl _ _ _) rfl ?_
        exact ⟨⟨_, rfl⟩, .inr ⟨_, by rw [← HT.out]; exact List.take_prefix _ _, hJx3⟩⟩
    · obtain rfl : k = L.length := by omega
      clear hc
      gi_wp2
      go_end0
      exact ⟨⟨_, rfl⟩, .inl ⟨_, rfl, by simpa using hJs⟩⟩

end Go.Proofs.YtaejpejfmpbinaaGreatDoor

namespace Go.Proofs.YtaejpejfmpbinaaGreatDoor
open Go.RowKit

/-- Block x is none of an entry, a tree's node, a bunch's array: it is a table's own block, a map's, or one of the two arrays. -/
def Foreign (w : World) (x : Nat) : Prop :=
  (∃ b q fn f c, w.cell? ⟨x, 0, none⟩ = some (.pointer (some ⟨b, 0, none⟩)) ∧ w.cell? ⟨x, 1, none⟩ = some (.pointer q) ∧ w.cell? ⟨b, 0, none⟩ = some (.func fn f c)) ∨
  (∃ fn f c a l k, w.cell? ⟨x, 0, none⟩ = some (.func fn f c) ∧ w.cell? ⟨x, 1, none⟩ = some (.slice a l k)) ∨
  (∃ n p, w.cell? ⟨x, 0, none⟩ = some (.int .i64 n) ∧ w.cell? ⟨x, 1, none⟩ = some (.pointer p)) ∨
  (∃ n m p, w.cell? ⟨x, 0, none⟩ = some (.int .i64 n) ∧ w.cell? ⟨x, 1, none⟩ = some (.int .i64 m) ∧ w.cell? ⟨x, 2, none⟩ = some (.pointer p)) ∨
  (∃ o, w.heap[x]? = some o ∧ o.isCells = false) ∨
  (x ≠ 0 ∧ ∃ cs t fr a b c d, w.heap[x]? = some (.cells cs t fr) ∧ cs.size ≠ 29 ∧ w.cell? ⟨x, 0, none⟩ = some (.int .i64 a) ∧ w.cell? ⟨x, 1, none⟩ = some (.int .i64 b) ∧ w.cell? ⟨x, 2, none⟩ = some (.int .i64 c) ∧ w.cell? ⟨x, 3, none⟩ = some (.int .i64 d))

theorem noCell {w : World} {x i : Nat} {o : Obj} (h : w.heap[x]? = some o) (ho : o.isCells = false) : w.cell? ⟨x, i, none⟩ = none := by
  unfold World.cell?
  rw [h]
  cases o <;> first | rfl | cases ho

theorem Foreign.notEnt {w : World} {x : Nat} {r : Rl} (h : Foreign w x) (he : EntAt w x r) : False := by
  have c0 := he.c0
  have c1 := he.c1
  have c2 := he.c2
  rcases h with ⟨b, q, fn, f, c, h0, h1, _⟩ | ⟨fn, f, c, a, l, k, h0, h1⟩ | ⟨n, p, h0, h1⟩ | ⟨n, m, p, h0, h1, h2⟩ | ⟨o, h, ho⟩ | ⟨hx0, cs, ct, cfr, ga, gb, gc, gd, gh, gs, g0, g1, g2, g3⟩
  · rw [h0] at c0; cases c0
  · rw [h0] at c0; cases c0
  · rw [h1] at c1; cases c1
  · rw [h2] at c2; cases c2
  · rw [noCell h ho] at c0; cases c0
  · have e1 := he 28 (by omega)
    have e2 := he 29 (by omega)
    rw [cell_of_row w x 28 cs ct cfr gh] at e1
    rw [cell_of_row w x 29 cs ct cfr gh] at e2
    have l1 : 28 < cs.size := (Array.getElem?_eq_some_iff.1 (e1.trans (show r.ecells[28]? = some _ from rfl))).1
    have l2 : cs.size ≤ 29 := Array.getElem?_eq_none_iff.1 (e2.trans (show r.ecells[29]? = none from rfl))
    omega

/-- All blocks are as they were but for those of X, which are foreign. -/
def KeptBut (X : Nat → Prop) (w w' : World) : Prop := ∀ b, b < w.heap.size → ¬ X b → w'.heap[b]? = w.heap[b]?

section
variable {X : Nat → Prop} {w w' : World}

theorem KeptBut.cell (h : KeptBut X w w') {b i : Nat} {v : Value} (hx : ¬ X b) (hc : w.cell? ⟨b, i, none⟩ = some v) : w'.cell? ⟨b, i, none⟩ = some v :=
  (World.cell?_of_block (w := w) (a := ⟨b, i, none⟩) (h b (block_lt_of_cell hc) hx)).trans hc

theorem EntAt.kept (h : KeptBut X w w') (hX : ∀ x, X x → Foreign w x) {b : Nat} {r : Rl} (he : EntAt w b r) : EntAt w' b r :=
  he.same (h b he.lt fun hx => (hX b hx).notEnt he)

theorem BunchAt.kept (h : KeptBut X w w') (hX : ∀ x, X x → Foreign w x) {v : Value} {es : List Ent} (hb : BunchAt w v es) : BunchAt w' v es := by
  obtain ⟨a, cap, hv, hc, he⟩ := hb
  refine ⟨a, cap, hv, fun i hi => ?_, fun e hm => (he e hm).kept h hX⟩
  obtain ⟨b, off, ⟨ha, h0⟩, hcell⟩ := hc i hi
  refine ⟨b, off, ⟨ha, h0⟩, h.cell (fun hx => ?_) hcell⟩
  obtain ⟨b', off', ⟨ha', h0'⟩, hcell'⟩ := hc 0 (by omega)
  rw [ha] at ha'
  cases ha'
  subst h0
  have he0 := he es[0] (List.getElem_mem (by omega))
  rw [Nat.zero_add] at hcell'
  rcases hX b hx with ⟨b2, q, fn, f, c, g0, g1, g2⟩ | ⟨fn, f, c, a, l, k, g0, g1⟩ | ⟨n, p, g0, g1⟩ | ⟨n, m, p, g0, g1, g2⟩ | ⟨o, ho, hco⟩ | ⟨hx0, cs, ct, cfr, ga, gb, gc, gd, gh, gs, g0, g1, g2, g3⟩
  · rw [g0] at hcell'
    have e : b2 = es[0].1 := by simpa using hcell'
    have c0 := he0.c0
    rw [← e, g2] at c0
    cases c0
  · rw [g0] at hcell'; cases hcell'
  · rw [g0] at hcell'; cases hcell'
  · rw [g0] at hcell'; cases hcell'
  · rw [noCell ho hco] at hcell'; cases hcell'
  · rw [g0] at hcell'; cases hcell'

theorem TreeAt.kept (h : KeptBut X w w') (hX : ∀ x, X x → Foreign w x) : ∀ {n b : Nat} {es : List Ent}, TreeAt w n b es → TreeAt w' n b es := by
  have leafy : ∀ {b : Nat} {v : Value} {es : List Ent}, BunchAt w v es → w.cell? ⟨b, 0, none⟩ = some v → ¬ X b := by
    intro b v es hb hc hx
    obtain ⟨a, cap, hv, _, _⟩ := hb
    rw [hv] at hc
    rcases hX b hx with ⟨b2, q, fn, f, c, g0, g1, g2⟩ | ⟨fn, f, c, a, l, k, g0, g1⟩ | ⟨n, p, g0, g1⟩ | ⟨n, m, p, g0, g1, g2⟩ | ⟨o, ho, hco⟩ | ⟨hx0, cs, ct, cfr, ga, gb, gc, gd, gh, gs, g0, g1, g2, g3⟩ <;> first | (rw [g0] at hc; cases hc) | (rw [noCell ho hco] at hc; cases hc)
  intro n
  induction n with
  | zero =>
    rintro b es ⟨v, h1, h2, h3⟩
    exact ⟨v, h1.kept h hX, h.cell (leafy h1 h2) h2, h.cell (leafy h1 h2) h3⟩
  | succ n ih =>
    rintro b es (⟨v, h1, h2, h3⟩ | ⟨f, last, bl, bh, hf, h1, h2, h3, h4, h5, h6⟩)
    · exact .inl ⟨v, h1.kept h hX, h.cell (leafy h1 h2) h2, h.cell (leafy h1 h2) h3⟩
    · have hx : ¬ X b := by
        intro hx
        rcases hX b hx with ⟨b2, q, fn, f, c, g0, g1, g2⟩ | ⟨fn, f, c, a, l, k, g0, g1⟩ | ⟨n, p, g0, g1⟩ | ⟨n, m, p, g0, g1, g2⟩ | ⟨o, ho, hco⟩ | ⟨hx0, cs, ct, cfr, ga, gb, gc, gd, gh, gs, g0, g1, g2, g3⟩
        · rw [g1] at h1; cases h1
        · rw [g1] at h1; cases h1
        · rw [g1] at h1; cases h1
        · rw [g2] at h2; cases h2
        · rw [noCell ho hco] at h1; cases h1
        · rw [g3] at h3; cases h3
      exact .inr ⟨f, last, bl, bh, hf, h.cell hx h1, h.cell hx h2, h.cell hx h3, h.cell hx h4, ih h5, ih h6⟩
end

theorem Foreign.below {B : Nat} {w w' : World} {x : Nat} (h : Foreign w x) (hb : Below B w w') (hB : w.heap.size ≤ B) : Foreign w' x := by
  have hc : ∀ {b i : Nat} {v : Value}, w.cell? ⟨b, i, none⟩ = some v → w'.cell? ⟨b, i, none⟩ = some v := fun {b i v} h =>
    (hb.cell (p := ⟨b, i, none⟩) (Nat.lt_of_lt_of_le (block_lt_of_cell h) hB)).trans h
  rcases h with ⟨b2, q, fn, f, c, g0, g1, g2⟩ | ⟨fn, f, c, a, l, k, g0, g1⟩ | ⟨n, p, g0, g1⟩ | ⟨n, m, p, g0, g1, g2⟩ | ⟨o, ho, hco⟩ | ⟨hx0, cs, ct, cfr, ga, gb, gc, gd, gh, gs, g0, g1, g2, g3⟩
  · exact .inl ⟨b2, q, fn, f, c, hc g0, hc g1, hc g2⟩
  · exact .inr (.inl ⟨fn, f, c, a, l, k, hc g0, hc g1⟩)
  · exact .inr (.inr (.inl ⟨n, p, hc g0, hc g1⟩))
  · exact .inr (.inr (.inr (.inl ⟨n, m, p, hc g0, hc g1, hc g2⟩)))
  · exact .inr (.inr (.inr (.inr (.inl ⟨o, (hb.block x (Nat.lt_of_lt_of_le (Array.getElem?_eq_some_iff.1 ho).1 hB)).trans ho, hco⟩))))
  · exact .inr (.inr (.inr (.inr (.inr ⟨hx0, cs, ct, cfr, ga, gb, gc, gd, (hb.block x (Nat.lt_of_lt_of_le (Array.getElem?_eq_some_iff.1 gh).1 hB)).trans gh, gs, hc g0, hc g1, hc g2, hc g3⟩))))

/-- From w to w' nothing has turned but blocks of X; blocks may have been laid. -/
structure Chg (X : Nat → Prop) (w w' : World) : Prop where
  os : w'.os = w.os
  tape : w'.tape = w.tape
  output : w'.output = w.output
  size : w.heap.size ≤ w'.heap.size
  block : KeptBut X w w'

theorem Chg.of_below {X : Nat → Prop} {w w' : World} (h : Below w.heap.size w w') : Chg X w w' := ⟨h.os, h.tape, h.output, h.size, fun b hb _ => h.block b hb⟩
theorem Chg.trans {X : Nat → Prop} {a b c : World} (h : Chg X a b) (k : Chg X b c) : Chg X a c :=
  ⟨k.os.trans h.os, k.tape.trans h.tape, k.output.trans h.output, Nat.le_trans h.size k.size, fun i hi hx => (k.block i (Nat.lt_of_lt_of_le hi h.size) hx).trans (h.block i hi hx)⟩
theorem Chg.mono {X Y : Nat → Prop} {a b : World} (h : Chg X a b) (hXY : ∀ x, x < a.heap.size → X x → Y x) : Chg Y a b :=
  ⟨h.os, h.tape, h.output, h.size, fun i hi hy => h.block i hi fun hx => hy (hXY i hi hx)⟩
theorem Chg.below {X : Nat → Prop} {a b : World} {B : Nat} (h : Chg X a b) (hB : B ≤ a.heap.size) (hX : ∀ x, X x → B ≤ x) : Below B a b :=
  ⟨h.os, h.tape, h.output, h.size, fun k hk => h.block k (by omega) fun hx => by have := hX k hx; omega⟩

end Go.Proofs.YtaejpejfmpbinaaGreatDoor
