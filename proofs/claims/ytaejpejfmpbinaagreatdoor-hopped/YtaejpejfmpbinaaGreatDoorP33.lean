import Derived.Test.YtaejpejfmpbinaaGreatDoorP31
import Derived.Test.YtaejpejfmpbinaaGreatDoorP32
import Derived.Test.YtaejpejfmpbinaaGreatDoorP24
import Derived.RangeFuncNested
import Derived.RangeFuncBound
import Derived.RangeFuncCalls
import Derived.RangeFuncLeaves
import Derived.RangeFuncBox
import Derived.Shelf.Abstract
import Derived.Shelf.RegionOpen
import Derived.OwnWalkIn
import Derived.TacticsInMore
import Derived.LoopNIn
import Derived.LoopIn
import Derived.Maps.AppendAt
import Derived.Test.YtaejpejfmpbinaaGreatDoorP19
namespace Go.Proofs.YtaejpejfmpbinaaGreatDoor
open Go.RowKit Go.Maps

/-- A switch's routes in memory. -/
structure SwH (w : World) (s rb hb : Nat) (hsv : Value) (R : List Rt) : Prop where
  h2 : w.cell? ⟨s, 2, none⟩ = some (.pointer (some ⟨rb, 0, none⟩))
  h0 : w.cell? ⟨rb, 0, none⟩ = some (.pointer (some ⟨hb, 0, none⟩))
  hM : MapHq w hb hsv R
  hS : SortedH R

theorem ne_of {w : World} {x y i : Nat} {a b : Value} (hx : w.cell? ⟨x, i, none⟩ = some a) (hy : w.cell? ⟨y, i, none⟩ = some b) (h : a ≠ b) : x ≠ y := by
  rintro rfl
  rw [hx] at hy
  exact h (Option.some.inj hy)

section
variable {w W : World} {s k m fm t vb rb hb : Nat} {pv sv fsv hsv : Value} {P : List Prt} {K : List Mc} {Fs : List Fc} {F : Nat → Prop} {L : List Ent} {V : Int → Int × Int} {R : List Rt} {X : Nat → Prop}

theorem SwP.keep (h : SwP w s pv P k m sv K) (hc : Chg X w W) (hs : ¬ X s) (hk : ¬ X k) (hx : ∀ b, KX m sv b → ¬ X b) (h1 : ¬ X 1) (hp : ∀ b, pv.ownBlock = some b → ¬ X b) (ho : ∀ x o, w.heap[x]? = some o → o.isCells = false → ¬ X x) : SwP W s pv P k m sv K := by
  obtain ⟨a, cap, b, e, hcs⟩ := h.hp
  refine ⟨hc.block.cell hs h.h0, ⟨a, cap, b, e, fun j hj => ?_⟩, hc.block.cell hs h.h5, h.hK.keep fun x hx' hk' => hc.block x hx' ?_, hc.block.cell h1 h.hm.1, hc.block.cell h1 h.hm.2.1, hc.block.cell h1 h.hm.2.2.1, hc.block.cell h1 h.hm.2.2.2⟩
  · obtain ⟨q0, q1, mv, q2, q3⟩ := hcs j hj
    have hb : ¬ X b := hp b (by rw [e, q0]; rfl)
    refine ⟨q0, hc.block.cell hb q1, mv, hc.block.cell hb q2, q3.same fun x o ho' hco => ?_⟩
    rw [hc.block x (lt_of_heap ho') (ho x o ho' hco), ho']
  · rcases hk' with rfl | hk'
    · exact hk
    · exact hx x hk'
theorem SwR.keep (h : SwR w s fm t vb fsv Fs F L V) (hc : Chg X w W) (hs : ¬ X s) (hfm : ¬ X fm) (hfa : ∀ g, fsv.ownBlock = some g → ¬ X g) (hA : ∀ x, X x → Away w x) (hF : ∀ x, F x → ¬ X x) (hv : ¬ X vb) : SwR W s fm t vb fsv Fs F L V := by
  obtain ⟨o, ho, _⟩ := h.hV.obj
  obtain ⟨c0, c1, c2, c3, c4⟩ := h.hF
  refine ⟨hc.block.cell hs h.h1, ⟨hc.block.cell hfm c0, hc.block.cell hfm c1, ownsRow_blk c2 fun g hg => hc.block g (ownsRow_lt c2 hg).2 (hfa g hg), fun j => (World.frozen?_of_block (a := ⟨fm, j, none⟩) (hc.block fm (block_lt_of_cell c0) hfm)).trans (c3 j), c4⟩, h.sF, fun g hg => ?_, hc.block.cell hs h.h3, h.hT.away hc hA hF, hc.block.cell hs h.h4, h.hV.same (hc.block vb (lt_of_heap ho) hv), h.hD⟩
  obtain ⟨n, v, d0, d1⟩ := h.hH g hg
  exact ⟨n, v, hc.block.cell (hfa g hg) d0, hc.block.cell (hfa g hg) d1⟩
theorem MapHq.keep (h : MapHq w hb hsv R) (hc : Chg X w W) (hh : ¬ X hb) (ha : ∀ g, hsv.ownBlock = some g → ¬ X g) : MapHq W hb hsv R := by
  obtain ⟨⟨c0, c1, c2, c3, c4⟩, c5⟩ := h
  exact ⟨⟨hc.block.cell hh c0, hc.block.cell hh c1, ownsRow_blk c2 fun g hg => hc.block g (ownsRow_lt c2 hg).2 (ha g hg), fun j => (World.frozen?_of_block (a := ⟨hb, j, none⟩) (hc.block hb (block_lt_of_cell c0) hh)).trans (c3 j), c4⟩, c5⟩
theorem SwH.keep (h : SwH w s rb hb hsv R) (hc : Chg X w W) (hs : ¬ X s) (hr : ¬ X rb) (hh : ¬ X hb) (ha : ∀ g, hsv.ownBlock = some g → ¬ X g) : SwH W s rb hb hsv R :=
  ⟨hc.block.cell hs h.h2, hc.block.cell hr h.h0, h.hM.keep hc hh ha, h.hS⟩

/-- The first cells of the routes' array. -/
theorem MapHq.first (h : MapHq w hb hsv R) {g : Nat} (hg : hsv.ownBlock = some g) : ∃ a b c d, w.cell? ⟨g, 0, none⟩ = some (.int .i64 a) ∧ w.cell? ⟨g, 1, none⟩ = some (.int .i64 b) ∧ w.cell? ⟨g, 2, none⟩ = some (.int .i64 c) ∧ w.cell? ⟨g, 3, none⟩ = some (.string d) := by
  have hne : R ≠ [] := by
    intro e
    rw [h.2 e] at hg
    cases hg
  obtain ⟨a, cap, g', e, hc⟩ := rowH_cells h.1.2.2.1
  obtain ⟨e', c0, c1, c2, c3⟩ := hc 0 (List.length_pos_iff.2 hne)
  rw [e, e'] at hg
  obtain rfl : g' = g := by simpa [Value.ownBlock] using hg
  rw [Nat.zero_mul] at c0 c1 c2 c3
  exact ⟨_, _, _, _, c0, c1, c2, c3⟩
theorem SwP.port0 (h : SwP w s pv P k m sv K) (hP : 0 < P.length) {b : Nat} (hb : pv.ownBlock = some b) : ∃ n z, w.cell? ⟨b, 0, none⟩ = some (.int .i64 n) ∧ w.cell? ⟨b, 1, none⟩ = some (.map z) := by
  obtain ⟨a, cap, b', e, hcs⟩ := h.hp
  obtain ⟨q0, q1, mv, q2, q3⟩ := hcs 0 hP
  rw [e, q0] at hb
  obtain rfl : b' = b := by simpa [Value.ownBlock] using hb
  rw [Nat.zero_mul] at q1 q2
  have hmv : ∃ z, mv = .map z := by rcases q3 with ⟨rfl, _⟩ | ⟨_, _, _, rfl, _⟩ <;> exact ⟨_, rfl⟩
  obtain ⟨z, rfl⟩ := hmv
  exact ⟨_, z, q1, q2⟩
theorem SwP.slice0 (h : SwP w s pv P k m sv K) : ∃ a n c, w.cell? ⟨s, 0, none⟩ = some (.slice a n c) := by
  obtain ⟨a, cap, b', e, _⟩ := h.hp
  exact ⟨_, _, _, e ▸ h.h0⟩
theorem SwP.known0 (h : SwP w s pv P k m sv K) {b : Nat} (hb : KX m sv b) : (w.cell? ⟨b, 0, none⟩ = some (.func (.func 111) #[] #[]) ∧ b = m) ∨ ((∃ v, w.cell? ⟨b, 0, none⟩ = some (.int .i64 v)) ∧ ∃ cs, w.heap[b]? = some (.cells cs 202 (0, 0))) := by
  rcases hb with rfl | hb
  · exact .inl ⟨h.hK.2.2.1.1.1, rfl⟩
  · exact .inr ⟨(h.hK.2.2.1.head hb).1, row_type h.hK.2.2.1.1.2.2.1 hb⟩
end
end Go.Proofs.YtaejpejfmpbinaaGreatDoor

namespace Go.Proofs.YtaejpejfmpbinaaGreatDoor
open Go.RowKit
open Go.Sort (grow)

theorem MapHq.below' {w w' : World} {m : Nat} {sv : Value} {K : List Rt} (h : MapHq w m sv K) (hb : Below w.heap.size w w') : MapHq w' m sv K := ⟨h.1.below hb, h.2⟩
set_option maxRecDepth 100000 in
set_option maxHeartbeats 1000000 in
/-- Set of a route for which there is room. -/
theorem rSet_any (rb hb : Nat) (sv : Value) (K : List Rt) (e0 : Rt) (w : World) (h0 : w.cell? ⟨rb, 0, none⟩ = some (.pointer (some ⟨hb, 0, none⟩))) (hm : MapHq w hb sv K) (hs : SortedH K) (hn : K.length < 100) (hz : e0.mac.size ≤ 1000) :
    Calls Tryz.prog 40 #[.pointer (some ⟨rb, 0, none⟩), .agg #[.int .i64 e0.bits, .int .i64 e0.len], .agg #[.int .i64 e0.vlan, .string e0.mac]] w fun e w' => e = .returned (.bool true) ∧ PutHq hb sv K e0 w w' := by
  obtain ⟨w0, hw0⟩ : ∃ w0, w0 = (w.alloc (.cells #[.int .i64 e0.bits, .int .i64 e0.len] 88)).alloc (.cells #[.int .i64 e0.vlan, .string e0.mac] 92) := ⟨_, rfl⟩
  have hb0 : Below w.heap.size w w0 := by rw [hw0]; exact ((Below.refl _ w).alloc (Nat.le_refl _) _).alloc (by rw [alloc_size]; omega) _
  have hs0 : w0.heap.size = w.heap.size + 2 := by rw [hw0, alloc_size, alloc_size]
  have b0 : w0.heap[w.heap.size]? = some (.cells #[.int .i64 e0.bits, .int .i64 e0.len] 88 (0, 0)) := by
    rw [hw0]; exact (((Below.refl _ (w.alloc (.cells #[.int .i64 e0.bits, .int .i64 e0.len] 88))).alloc (Nat.le_refl _) _).block _ (by rw [alloc_size]; omega)).trans (alloc_new _ _)
  have b1 : w0.heap[w.heap.size + 1]? = some (.cells #[.int .i64 e0.vlan, .string e0.mac] 92 (0, 0)) := by
    rw [hw0, ← alloc_size w (.cells #[.int .i64 e0.bits, .int .i64 e0.len] 88)]; exact alloc_new _ _
  have CC := hide fun (W : World) => clone_any e0.mac W (by omega)
  have CW := hide fun (W : World) (h : Below w.heap.size w W) => (putWH_any hb sv K e0 100 W (hm.below' h) hs (by omega)).mono fun e w' h' => (by
    obtain ⟨ok, e1, e2, e3⟩ := h'
    have : ok = true := by rw [e1]; simp; right; omega
    subst this
    exact ⟨e2, putHq_from h e3⟩ : e = .returned (.bool true) ∧ PutHq hb sv K e0 w w')
  have c0 : w0.cell? ⟨w.heap.size, 0, none⟩ = some (.int .i64 e0.bits) := cell_in_row b0 rfl
  have c1 : w0.cell? ⟨w.heap.size, 1, none⟩ = some (.int .i64 e0.len) := cell_in_row b0 rfl
  have c2 : w0.cell? ⟨w.heap.size + 1, 0, none⟩ = some (.int .i64 e0.vlan) := cell_in_row b1 rfl
  have c3 : w0.cell? ⟨w.heap.size + 1, 1, none⟩ = some (.string e0.mac) := cell_in_row b1 rfl
  have k0 := cell_later hb0 h0
  have hrl := block_lt_of_cell h0
  have HB0 := hide hb0
  have HW0 := hide hw0
  have HZ := hide b1
  clear hb0 hw0 b0 b1 hm hs hn hz h0
  go_enter Tryz.func40, Tryz.ntmps40
  go_wp2_with fail
  rw [← HW0.out]
  refine (CC.out _).mono ?_
  rintro e W1 ⟨rfl, hb1⟩
  have d0 := cell_later hb1 c0
  have d1 := cell_later hb1 c1
  have d2 := cell_later hb1 c2
  have d3 := cell_later hb1 c3
  have d4 := cell_later hb1 k0
  have hsz := hb1.size
  have f3 : W1.frozen? ⟨w.heap.size + 1, 1, none⟩ = false := frz_row ((hb1.block _ (lt_of_heap HZ.out)).trans HZ.out) 1
  have q0 : w.heap.size < W1.heap.size := by omega
  have q1 : w.heap.size + 1 < W1.heap.size := by omega
  have q2 : rb < W1.heap.size := by omega
  have q3 : ¬ rb = w.heap.size + 1 := by omega
  have HB2 : Hid (Below w.heap.size w (W1.setCell ⟨w.heap.size + 1, 1, none⟩ (.string e0.mac))) := hide ((HB0.out.trans (hb1.mono (by omega))).setCell (show w.heap.size ≤ w.heap.size + 1 by omega) _)
  obtain ⟨W2, hW2⟩ : ∃ W2, W2 = W1.setCell ⟨w.heap.size + 1, 1, none⟩ (.string e0.mac) := ⟨_, rfl⟩
  have g0 : W2.cell? ⟨w.heap.size, 0, none⟩ = some (.int .i64 e0.bits) := by rw [hW2, World.cell?_setCell_other _ _ _ _ (by simp)]; exact d0
  have g1 : W2.cell? ⟨w.heap.size, 1, none⟩ = some (.int .i64 e0.len) := by rw [hW2, World.cell?_setCell_other _ _ _ _ (by simp)]; exact d1
  have g2 : W2.cell? ⟨w.heap.size + 1, 0, none⟩ = some (.int .i64 e0.vlan) := by rw [hW2, World.cell?_setCell_other _ _ _ _ (by simp)]; exact d2
  have g3 : W2.cell? ⟨w.heap.size + 1, 1, none⟩ = some (.string e0.mac) := by rw [hW2]; exact World.cell?_setCell_same _ _ _ d3
  have g4 : W2.cell? ⟨rb, 0, none⟩ = some (.pointer (some ⟨hb, 0, none⟩)) := by rw [hW2, World.cell?_setCell_other _ _ _ _ (by simp <;> omega)]; exact d4
  have z0 := block_lt_of_cell g0
  have z1 := block_lt_of_cell g2
  have z2 := block_lt_of_cell g4
  rw [← hW2] at HB2
  have HW2 := hide hW2
  clear hW2 HW0 HB0 HZ hb1 c0 c1 c2 c3 k0 CC d0 d1 d2 d4 hsz
  go_wp2_with fail
  rw [← HW2.out]
  clear HW2 f3 d3 q0 q1 q2 q3
  go_region_with
    (first | (go_at_call 79; refine (CW.out _ ?_).mono ?_; (exact HB2.out.drew); rintro e w3 ⟨rfl, hp⟩; have HP := hide hp; clear hp))
  all_goals
    go_wp2
    go_ret
    exact ⟨rfl, HP.out⟩

set_option maxRecDepth 100000 in
set_option maxHeartbeats 1000000 in
/-- Route of a prefix that is right, for which there is room. -/
theorem sRoute_any (s rb hb : Nat) (sv : Value) (K : List Rt) (pb len : Nat) (v : Int) (b : ByteArray) (w : World) (h2 : w.cell? ⟨s, 2, none⟩ = some (.pointer (some ⟨rb, 0, none⟩))) (h0 : w.cell? ⟨rb, 0, none⟩ = some (.pointer (some ⟨hb, 0, none⟩))) (hm : MapHq w hb sv K) (hs : SortedH K) (hn : K.length < 100)
    (hpb : pb < 4294967296) (hl : len ≤ 32) (hr : pb % pfN len = 0) (hv : isV v = true) (hst : isSt b = true) (hz : b.size ≤ 1000) :
    Calls Tryz.prog 15 #[.pointer (some ⟨s, 0, none⟩), .int .i64 pb, .int .i64 len, .int .i64 v, .string b] w fun e w' => e = .returned (.int .i64 0) ∧ PutHq hb sv K ⟨pb, len, v, b⟩ w w' := by
  obtain ⟨w0, hw0⟩ : ∃ w0, w0 = w.alloc (.cells #[.int .i64 pb, .int .i64 len] 88) := ⟨_, rfl⟩
  have hb0 : Below w.heap.size w w0 := by rw [hw0]; exact (Below.refl _ w).alloc (Nat.le_refl _) _
  have b0 : w0.heap[w.heap.size]? = some (.cells #[.int .i64 pb, .int .i64 len] 88 (0, 0)) := by rw [hw0]; exact alloc_new _ _
  have CR := hide (isRight_any pb len w0 hpb hl hr)
  have CV := hide fun (W : World) => isVLAN_any v W
  rw [hv] at CV
  have CS := hide fun (W : World) => isStation_any b W
  rw [hst] at CS
  have CT := hide fun (W : World) (h : Below w.heap.size w W) => (rSet_any rb hb sv K ⟨pb, len, v, b⟩ W (cell_later h h0) (hm.below' h) hs hn hz).mono fun e w' h' => (⟨h'.1, putHq_from h h'.2⟩ : e = .returned (.bool true) ∧ PutHq hb sv K ⟨pb, len, v, b⟩ w w')
  have k0 : w0.cell? ⟨w.heap.size, 0, none⟩ = some (.int .i64 pb) := cell_in_row b0 rfl
  have k1 : w0.cell? ⟨w.heap.size, 1, none⟩ = some (.int .i64 len) := cell_in_row b0 rfl
  have k2 := cell_later hb0 h2
  have HB0 := hide hb0
  have HW0 := hide hw0
  clear hm hs hn hpb hl hr hv hst hz hb0 hw0 b0 h2 h0
  go_enter Tryz.func15, Tryz.ntmps15
  go_wp2_with fail
  rw [← HW0.out]
  refine CR.out.mono ?_
  rintro e W1 ⟨rfl, hb1⟩
  go_wp2_with fail
  refine (CV.out _).mono ?_
  rintro e W2 ⟨rfl, hb2⟩
  have hb02 := hb1.trans (hb2.mono hb1.size)
  have d0 := cell_later hb02 k0
  have d1 := cell_later hb02 k1
  have d2 := cell_later hb02 k2
  have z0 := block_lt_of_cell d0
  have z2 := block_lt_of_cell d2
  have HB2 := hide (HB0.out.trans (hb02.mono HB0.out.size))
  clear hb1 hb2 hb02 k0 k1 k2 HW0 HB0 CR CV
  go_wp2_with fail
  refine (CS.out _).mono ?_
  rintro e W ⟨rfl, hww⟩
  rw [hww]
  clear hww W
  go_wp2_with fail
  go_region_with
    (first | (go_at_call 40; refine (CT.out _ ?_).mono ?_; (exact HB2.out.drew); rintro e w3 ⟨rfl, hp⟩; have HP := hide hp; clear hp))
  all_goals
    go_wp2
    go_ret
    exact ⟨rfl, HP.out⟩
end Go.Proofs.YtaejpejfmpbinaaGreatDoor

namespace Go.Proofs.YtaejpejfmpbinaaGreatDoor
open Go.RowKit Go.Shelf

attribute [local go_sem] Oper.semAt_some

/-- A slice of routes, in a block below n₀. -/
def HopRow (n₀ : Nat) (W : World) (sv : Value) (L : List Rt) : Prop :=
  ∃ (a : Option Addr) (cap : Nat), sv = .slice a L.length cap ∧ ∀ j (h : j < L.length), ∃ g, a = some ⟨g, 0, none⟩ ∧ g < n₀ ∧ W.cell? ⟨g, j * 4, none⟩ = some (.int .i64 L[j].bits) ∧ W.cell? ⟨g, j * 4 + 1, none⟩ = some (.int .i64 L[j].len) ∧ W.cell? ⟨g, j * 4 + 2, none⟩ = some (.int .i64 L[j].vlan) ∧ W.cell? ⟨g, j * 4 + 3, none⟩ = some (.string L[j].mac)
theorem HopRow.below {n₀ : Nat} {A B : World} (h : Below n₀ A B) {sv : Value} {L : List Rt} (hr : HopRow n₀ A sv L) : HopRow n₀ B sv L := by
  obtain ⟨a, cap, e, hc⟩ := hr
  refine ⟨a, cap, e, fun j hj => ?_⟩
  obtain ⟨g, ha, hg, c0, c1, c2, c3⟩ := hc j hj
  exact ⟨g, ha, hg, (h.cell (p := ⟨g, j * 4, none⟩) hg).trans c0, (h.cell (p := ⟨g, j * 4 + 1, none⟩) hg).trans c1, (h.cell (p := ⟨g, j * 4 + 2, none⟩) hg).trans c2, (h.cell (p := ⟨g, j * 4 + 3, none⟩) hg).trans c3⟩
theorem MapHq.row {w : World} {m : Nat} {sv : Value} {K : List Rt} (h : MapHq w m sv K) {n₀ : Nat} (hn : w.heap.size ≤ n₀) : HopRow n₀ w sv K := by
  obtain ⟨a, cap, g, rfl, hc⟩ := rowH_cells h.1.2.2.1
  refine ⟨a, cap, rfl, fun j hj => ?_⟩
  obtain ⟨ha, c0, c1, c2, c3⟩ := hc j hj
  rw [rAt_eq hj] at c0 c1 c2 c3
  exact ⟨g, ha, Nat.lt_of_lt_of_le (block_lt_of_cell c0) hn, c0, c1, c2, c3⟩

/-- What the iterator hands on. -/
def encH {Pr : Rt → Prop} (x : { e : Rt // Pr e }) : Array Value := #[.agg #[.int .i64 x.1.bits, .int .i64 x.1.len], .agg #[.int .i64 x.1.vlan, .string x.1.mac]]

set_option maxRecDepth 100000 in
set_option maxHeartbeats 2000000 in
theorem allH1_in {Pr : Rt → Prop} (F : Fence) (n : Nat) (h49 : F.fn 137) (hro : F.round = none) (hn : 1 ≤ n) (l Bm m n₀ : Nat) (sv : Value) (L : List { e : Rt // Pr e }) (hlen : L.length ≤ 200) (J Jx : List { e : Rt // Pr e } → World → Prop) (B : Nat) (hJ : AbidesFrom B J)
    (hY : ∀ pre x W, J pre W → pre.length < L.length → YieldAt F (n - 1) Tryz.prog l (encH x) W fun e W' =>
      (e = .returned (.bool true) ∧ J (pre ++ [x]) W' ∧ Below n₀ W W') ∨ (e = .returned (.bool false) ∧ Jx (pre ++ [x]) W'))
    (W : World) (hn₀ : n₀ ≤ W.heap.size) (hBm : W.cell? ⟨Bm, 0, none⟩ = some (.pointer (some ⟨m, 0, none⟩))) (hm : W.cell? ⟨m, 1, none⟩ = some sv) (hrow : HopRow n₀ W sv (L.map (·.1))) (h0 : J [] W) :
    CallsIn F n Tryz.prog 137 #[.func (.yield l) #[] #[], .pointer (some ⟨Bm, 0, none⟩)] W fun e W' => (∃ v, e = .returned v) ∧
      ((∃ ys, ys = L ∧ J ys W') ∨ (∃ pre, pre <+: L ∧ Jx pre W')) := by
  obtain ⟨a, cap, rfl, hc⟩ := hrow
  simp only [List.length_map] at hc hm ⊢
  refine callsIn_of_wp Tryz.func137 rfl h49 ?_ hro
  simp only [Tryz.ntmps137, List.size_toArray, List.length_cons, List.length_nil, Nat.reduceAdd, Nat.reduceSub, Array.replicate_succ, Array.replicate_zero, List.push_toArray, List.append_toArray, List.nil_append, List.cons_append]
  gi_wp2
  gi_loopw [10] (fun i wr => ∃ k : Nat, k ≤ L.length ∧ i = .int .i64 k ∧ J (L.take k) wr ∧ Below n₀ W wr) (fun i _ => L.length - (intOf i).toNat)
  case atStart => exact ⟨0, Nat.zero_le _, rfl, by simpa using h0, Below.refl _ _⟩
  case round =>
    obtain ⟨k, hk, rfl, hJs, hnx⟩ := hrel
    by_cases hlt : k < L.length
    · obtain ⟨g, rfl, hg, c0, c1, c2, c3⟩ := hc k hlt
      rw [List.getElem_map] at c0 c1 c2 c3
      have d0 := (hnx.cell (p := ⟨g, k * 4, none⟩) hg).trans c0
      have d1 := (hnx.cell (p := ⟨g, k * 4 + 1, none⟩) hg).trans c1
      have d2 := (hnx.cell (p := ⟨g, k * 4 + 2, none⟩) hg).trans c2
      have d3 := (hnx.cell (p := ⟨g, k * 4 + 3, none⟩) hg).trans c3
      have hglt : g < wr.heap.size := Nat.lt_of_lt_of_le (Nat.lt_of_lt_of_le hg hn₀) hnx.size
      have hki : (k : Int) < L.length := by omega
      have hJ1 := hJ _ wr (wr.alloc (.cells #[.int .i64 L[k].1.bits, .int .i64 L[k].1.len, .int .i64 L[k].1.vlan, .string L[k].1.mac] 249)) none hJs (World.grownBy_alloc _ _ _) (fun r e => by cases e)
      obtain ⟨fn, tmps, assign, body, hy, hR⟩ := hY _ L[k] _ hJ1 (by simp; omega)
      simp only [encH] at hy
      have HT : Hid (L.take (k + 1) = L.take k ++ [L[k]]) := by rw [List.take_succ_eq_append_getElem hlt]; exact rfl
      generalize hee : L[k] = ek at *
      clear hJ1 hc c0 c1 c2 c3 hee
      gi_wp2
      refine hR.mono ?_
      rintro e W3 (⟨rfl, hJ3, hk3⟩ | ⟨rfl, hJx3⟩)
      · gi_wp2
        go_roundw
        case rel => exact ⟨k + 1, by omega, by simp, by rw [HT.out]; exact hJ3, (hnx.alloc (Nat.le_trans hn₀ hnx.size) _).trans hk3⟩
        case measure => simp [intOf]; omega
      · gi_wp2
        refine bodyPost_ret (results_none rfl _ _ _) rfl ?_
        exact ⟨⟨_, rfl⟩, .inr ⟨_, by rw [← HT.out]; exact List.take_prefix _ _, hJx3⟩⟩
    · obtain rfl : k = L.length := by omega
      clear hc
      gi_wp2
      go_end0
      exact ⟨⟨_, rfl⟩, .inl ⟨_, rfl, by simpa using hJs⟩⟩

set_option maxHeartbeats 1000000 in
theorem allH_in (F : Fence) (n : Nat) (h29 : F.fn 106) (hro : F.round = none) (m : Nat) (w : World) :
    CallsIn F n Tryz.prog 106 #[.pointer (some ⟨m, 0, none⟩)] w fun e w' => e = .returned (.func (.func 137) #[] #[.pointer (some ⟨w.heap.size, 0, none⟩)]) ∧ w' = w.alloc (.cells #[.pointer (some ⟨m, 0, none⟩)] 143) := by
  refine callsIn_of_wp Tryz.func106 rfl h29 ?_ hro
  simp only [Tryz.ntmps106, List.size_toArray, List.length_cons, List.length_nil, Nat.reduceAdd, Nat.reduceSub, Array.replicate_succ, Array.replicate_zero, List.push_toArray, List.append_toArray, List.nil_append, List.cons_append]
  gi_wp2
  go_ret
  exact ⟨rfl, rfl⟩

theorem allH_stops {Pr : Rt → Prop} (F : Fence) (n : Nat) (h49 : F.fn 137) (hro : F.round = none) (hn : 1 ≤ n) (Bm m n₀ : Nat) (sv : Value) (L : List { e : Rt // Pr e }) (hlen : L.length ≤ 200) (w : World) (hBm : Bm < w.heap.size) (hmlt : m < n₀) (hn₀ : n₀ ≤ w.heap.size)
    (hc : w.cell? ⟨Bm, 0, none⟩ = some (.pointer (some ⟨m, 0, none⟩))) (hm : w.cell? ⟨m, 1, none⟩ = some sv) (hL : HopRow n₀ w sv (L.map (·.1))) :
    SeqStopsK F n Tryz.prog 137 #[.pointer (some ⟨Bm, 0, none⟩)] (encH (Pr := Pr)) (Below n₀) (fun ys => ys = L) (fun pre => pre <+: L) L.length w := fun l J Jx W hW hJ _ hY h0 =>
  allH1_in F n h49 hro hn l Bm m n₀ sv L hlen J Jx W.heap.size hJ hY W (Nat.le_trans hn₀ hW.size) ((hW.cell (p := ⟨Bm, 0, none⟩) hBm).trans hc) ((hW.cell (p := ⟨m, 1, none⟩) (Nat.lt_of_lt_of_le hmlt hn₀)).trans hm) (hL.below (hW.mono hn₀)) h0

end Go.Proofs.YtaejpejfmpbinaaGreatDoor

namespace Go.Proofs.YtaejpejfmpbinaaGreatDoor
open Go.RowKit Go.Shelf

attribute [local go_sem] Oper.semAt_some

/-- The routes whose lengths are lengths. -/
def LenOk (e : Rt) : Prop := e.len = (e.len.toNat : Int) ∧ e.len.toNat ≤ 32
/-- Whether a route has an address. -/
def rtHas (a : Nat) (e : Rt) : Bool := pfHas e.bits e.len.toNat a
/-- The first route that has an address. -/
def findR (K : List Rt) (a : Nat) : Option Rt := K.find? (rtHas a)
def hopV (o : Option Rt) : Value := match o with | some e => .agg #[.int .i64 e.vlan, .string e.mac] | none => .agg #[.int .i64 0, .string ⟨#[]⟩]
theorem BlkAt.other {W : World} {b : Nat} {cs : Array Value} {t : TypeId} (h : BlkAt W b cs t) {x : Nat} (hne : b ≠ x) (i : Nat) (v : Value) : BlkAt (W.setCell ⟨x, i, none⟩ v) b cs t := (heap_setCell_other _ _ _ _ hne).trans h
theorem BlkAt.set {W : World} {b : Nat} {cs : Array Value} {t : TypeId} (h : BlkAt W b cs t) (i : Nat) (v : Value) : BlkAt (W.setCell ⟨b, i, none⟩ v) b (cs.setIfInBounds i v) t := heap_setCell_same _ _ i _ _ _ h
theorem find_pre {α : Type} {p : α → Bool} {L pre : List α} {x : α} (h : pre ++ [x] <+: L) (hn : ∀ y ∈ pre, p y = false) (hx : p x = true) : L.find? p = some x := by
  obtain ⟨t, rfl⟩ := h
  rw [List.find?_append, List.find?_append, List.find?_eq_none.2 (fun y hy => by rw [hn y hy]; decide)]
  simp [hx]

set_option maxRecDepth 100000 in
set_option maxHeartbeats 2000000 in
theorem hops_walk (rb hb : Nat) (sv : Value) (a : Nat) (w : World) (Ls : List { e : Rt // LenOk e }) (hlen : Ls.length ≤ 200) (ha : a < 4294967296)
    (hk : w.cell? ⟨rb, 0, none⟩ = some (.pointer (some ⟨hb, 0, none⟩))) (hm : w.cell? ⟨hb, 1, none⟩ = some sv) (hrow : HopRow w.heap.size w sv (Ls.map (·.1))) :
    Calls Tryz.prog 60 #[.pointer (some ⟨rb, 0, none⟩), .int .i64 a] w fun e w' => e = .returned (.tuple #[hopV (findR (Ls.map (·.1)) a), .bool (findR (Ls.map (·.1)) a).isSome]) ∧ Below w.heap.size w w' := by
  have hklt : rb < w.heap.size := block_lt_of_cell hk
  have hmlt : hb < w.heap.size := block_lt_of_cell hm
  have hrow0 := hrow
  obtain ⟨ra, rcap, rfl, _⟩ := hrow0
  rw [List.length_map] at hm
  have FIN : Hid (∀ (pre : List { e : Rt // LenOk e }) (x : { e : Rt // LenOk e }), pre ++ [x] <+: Ls → (∀ y ∈ pre, rtHas a y.1 = false) → rtHas a x.1 = true → findR (Ls.map (·.1)) a = some x.1) := hide fun pre x hp hn hx => by
    unfold findR
    rw [List.find?_map, find_pre (p := rtHas a ∘ fun (y : { e : Rt // LenOk e }) => y.1) hp hn hx]
    rfl
  have NON : Hid ((∀ y ∈ Ls, rtHas a y.1 = false) → findR (Ls.map (·.1)) a = none) := hide fun h => by
    unfold findR
    rw [List.find?_eq_none]
    intro e he
    obtain ⟨y, hy, rfl⟩ := List.mem_map.1 he
    rw [h y hy]
    decide
  obtain ⟨W3, hW3⟩ : ∃ W3, W3 = ((w.alloc (.cells #[.int .i64 a] 3)).alloc (.cells #[.int .i64 0, .string ⟨#[]⟩] 92)).alloc (.cells #[.bool false] 4) := ⟨_, rfl⟩
  have hs3 : W3.heap.size = w.heap.size + 3 := by rw [hW3]; simp
  have hB3 : Below w.heap.size w W3 := by rw [hW3]; exact (((Below.refl _ w).alloc (Nat.le_refl _) _).alloc (by simp) _).alloc (by simp; omega) _
  have b0 : BlkAt W3 w.heap.size #[.int .i64 a] 3 := by rw [hW3]; exact ((BlkAt.new w _ _).alloc _).alloc _
  have b1 : BlkAt W3 (w.heap.size + 1) #[.int .i64 0, .string ⟨#[]⟩] 92 := by
    have := (BlkAt.new (w.alloc (.cells #[.int .i64 a] 3)) #[.int .i64 0, .string ⟨#[]⟩] 92).alloc (.cells #[.bool false] 4)
    rw [World.size_alloc] at this
    rw [hW3]; exact this
  have b2 : BlkAt W3 (w.heap.size + 1 + 1) #[.bool false] 4 := by
    have := BlkAt.new ((w.alloc (.cells #[.int .i64 a] 3)).alloc (.cells #[.int .i64 0, .string ⟨#[]⟩] 92)) #[.bool false] 4
    rw [World.size_alloc, World.size_alloc] at this
    rw [hW3]; exact this
  have hk3 : (((w.alloc (.cells #[.int .i64 a] 3)).alloc (.cells #[.int .i64 0, .string ⟨#[]⟩] 92)).alloc (.cells #[.bool false] 4)).cell? ⟨rb, 0, none⟩ = some (.pointer (some ⟨hb, 0, none⟩)) := by rw [← hW3]; exact cell_later hB3 hk
  have r1 : rb < w.heap.size + 1 := by omega
  have r2 : rb < w.heap.size + 1 + 1 := by omega
  have r3 : rb < w.heap.size + 1 + 1 + 1 := by omega
  have HW3 := hide hW3
  refine (callsIn_wide (n := 5)).1 ?_
  have hro : Fence.wide.round = none := rfl
  refine callsIn_of_wp_marks Tryz.func60 rfl trivial ?_ hro
  simp only [Tryz.ntmps60, List.size_toArray, List.length_cons, List.length_nil, Nat.reduceAdd, Nat.reduceSub, Array.replicate_succ, Array.replicate_zero, List.push_toArray, List.append_toArray, List.nil_append, List.cons_append]
  clear hW3
  gi_wp2_with (first | (refine ⟨trivial, ?_⟩; gi_at_call 106; refine (allH_in Fence.wide 4 trivial hro hb _).mono ?_; rintro e w' ⟨rfl, rfl⟩))
  rw [← HW3.out]
  clear hk3
  have hB4 : Below w.heap.size w (W3.alloc (.cells #[.pointer (some ⟨hb, 0, none⟩)] 143)) := hB3.alloc (by omega) _
  have hs4 : (W3.alloc (.cells #[.pointer (some ⟨hb, 0, none⟩)] 143)).heap.size = w.heap.size + 4 := by simp [hs3]
  have hcm := (hB4.cell (p := ⟨hb, 1, none⟩) hmlt).trans hm
  have bN := BlkAt.new W3 #[.pointer (some ⟨hb, 0, none⟩)] 143
  rw [hs3] at bN
  rw [List.length_map] at hrow
  refine wpIn_rangeFunc_ownH hro (by omega) (gf := 137) (lb := #[.pointer (some ⟨w.heap.size + 3, 0, none⟩)]) rfl trivial (enters_of Tryz.func137 (by kernel_rfl) rfl)
    (allH_stops Fence.wide 4 trivial hro (by omega) (w.heap.size + 3) hb w.heap.size (.slice ra Ls.length rcap) Ls hlen _ (by omega) hmlt (by omega) (bN.cell rfl) hcm (hrow.below hB4)) belowK_t (belowK_b (by omega)) (Below.refl _ _) (fun _ => rfl)
    (fun pre W => BlkAt W w.heap.size #[.int .i64 a] 3 ∧ BlkAt W (w.heap.size + 1) #[.int .i64 0, .string ⟨#[]⟩] 92 ∧ BlkAt W (w.heap.size + 1 + 1) #[.bool false] 4 ∧ (∀ y ∈ pre, rtHas a y.1 = false) ∧ Below w.heap.size w W)
    (fun c pre W => c = .ret ∧ (∃ pre' x, pre = pre' ++ [x] ∧ (∀ y ∈ pre', rtHas a y.1 = false) ∧ rtHas a x.1 = true ∧ BlkAt W (w.heap.size + 1) #[.int .i64 x.1.vlan, .string x.1.mac] 92) ∧ BlkAt W (w.heap.size + 1 + 1) #[.bool true] 4 ∧ Below w.heap.size w W)
    (fun s X Y row hs hg hr => ⟨BlkAt.own _ _ _ () X Y row hs.1 hg (fun r e => (hr r e).2), BlkAt.own _ _ _ () X Y row hs.2.1 hg (fun r e => (hr r e).2), BlkAt.own _ _ _ () X Y row hs.2.2.1 hg (fun r e => (hr r e).2), hs.2.2.2.1, (ownFrom_below (β := List { e : Rt // LenOk e }) (Nat.le_refl _) (by omega)) s X Y row hs.2.2.2.2 hg hr⟩)
    (fun c s X Y row hs hg hr => ⟨hs.1, (by obtain ⟨pre', x, e1, e2, e3, e4⟩ := hs.2.1; exact ⟨pre', x, e1, e2, e3, BlkAt.own _ _ _ () X Y row e4 hg (fun r e => (hr r e).2)⟩), BlkAt.own _ _ _ () X Y row hs.2.2.1 hg (fun r e => (hr r e).2), (ownFrom_below (β := List { e : Rt // LenOk e }) (Nat.le_refl _) (by omega)) s X Y row hs.2.2.2 hg hr⟩)
    ⟨b0.alloc _, b1.alloc _, b2.alloc _, (fun y hy => absurd hy (List.not_mem_nil)), hB4⟩
    (fun x a' W => ∃ Bx By, w.heap.size + 1 + 1 < Bx ∧ w.heap.size + 1 + 1 < By ∧ BlkAt W Bx #[.int .i64 x.1.bits, .int .i64 x.1.len] 88 ∧ BlkAt W By #[.int .i64 x.1.vlan, .string x.1.mac] 92 ∧ a' = { tmps := #[.pointer (some ⟨rb, 0, none⟩), .int .i64 a, undef, .pointer (some ⟨w.heap.size, 0, none⟩), .pointer (some ⟨w.heap.size + 1, 0, none⟩), .pointer (some ⟨w.heap.size + 1 + 1, 0, none⟩), .pointer (some ⟨Bx, 0, none⟩), .pointer (some ⟨By, 0, none⟩), .pointer (some ⟨rb, 0, none⟩), .pointer (some ⟨rb, 0, none⟩), .pointer (some ⟨rb, 0, none⟩), .pointer (some ⟨hb, 0, none⟩), .func (.func 137) #[] #[.pointer (some ⟨w.heap.size + 3, 0, none⟩)], .agg #[.int .i64 x.1.bits, .int .i64 x.1.len], .agg #[.int .i64 x.1.vlan, .string x.1.mac], undef, undef, undef, undef, undef], defers := [] })
    (fun x a' _ X Y row hs hg hr => by obtain ⟨Bx, By, h1, h2, h3, h4, h5⟩ := hs; exact ⟨Bx, By, h1, h2, BlkAt.own Bx _ _ () X Y row h3 hg (fun r e => (hr r e).2), BlkAt.own By _ _ () X Y row h4 hg (fun r e => (hr r e).2), h5⟩)
    ?assign ?body ?done ?stop
  case assign =>
    rintro l pre x W K ⟨i0, i1, i2, i3, i4⟩ hK
    simp only [encH]
    gi_wp2
    have hsW := i4.size
    have hlt := i2.lt
    have bY : BlkAt ((W.alloc (.cells #[.int .i64 x.1.bits, .int .i64 x.1.len] 88)).alloc (.cells #[.int .i64 x.1.vlan, .string x.1.mac] 92)) (W.heap.size + 1) #[.int .i64 x.1.vlan, .string x.1.mac] 92 := by
      have := BlkAt.new (W.alloc (.cells #[.int .i64 x.1.bits, .int .i64 x.1.len] 88)) #[.int .i64 x.1.vlan, .string x.1.mac] 92
      rwa [World.size_alloc] at this
    exact hK _ _ (((KeepsOthers.alloc _ _).trans (KeepsOthers.alloc _ _)).from _) (((Below.refl _ W).alloc hsW _).alloc (by simp; omega) _) ⟨(i0.alloc _).alloc _, (i1.alloc _).alloc _, (i2.alloc _).alloc _, i3, (i4.alloc hsW _).alloc (by simp; omega) _⟩ ⟨W.heap.size, W.heap.size + 1, by omega, by omega, (BlkAt.new W _ _).alloc _, bY, rfl⟩
  case body =>
    rintro l pre x a' W hl ⟨r, hr⟩ ⟨i0, i1, i2, i3, i4⟩ ⟨Bx, By, hBx, hBy, bX, bY, rfl⟩ hlt
    obtain ⟨ln, hln⟩ : ∃ ln, ln = x.1.len.toNat := ⟨_, rfl⟩
    have CH := prefHas_any x.1.bits ln a
    have x0 : W.cell? ⟨Bx, 0, none⟩ = some (.int .i64 x.1.bits) := bX.cell rfl
    have x1 : W.cell? ⟨Bx, 1, none⟩ = some (.int .i64 ln) := by rw [hln, ← x.2.1]; exact bX.cell rfl
    have c0 : W.cell? ⟨w.heap.size, 0, none⟩ = some (.int .i64 a) := i0.cell rfl
    have hl32 : ln ≤ 32 := by rw [hln]; exact x.2.2
    have l0 := i0.lt
    have lx := bX.lt
    have hH : pfHas x.1.bits ln a = rtHas a x.1 := by rw [hln]; rfl
    rw [hH] at CH
    have HLN := hide hln
    clear hln hH hr
    cases hh : rtHas a x.1 with
    | false =>
      rw [hh] at CH
      have C := hide fun (W : World) => CH W hl32 ha
      have HH := hide hh
      clear CH hh
      gi_wp2_with (first | (refine ⟨trivial, ?_⟩; gi_at_call 107; refine (callsIn_wide.2 (C.out _)).mono ?_; rintro e w1 ⟨rfl, hb1⟩))
      refine ⟨(keepsOthers_below hb1).from _, hb1.mono i4.size, i0.below hb1, i1.below hb1, i2.below hb1, fun y hy => ?_, i4.trans (hb1.mono i4.size)⟩
      rcases List.mem_append.1 hy with h | h
      · exact i3 y h
      · rw [List.mem_singleton.1 h]
        exact HH.out
    | true =>
      rw [hh] at CH
      have C := hide fun (W : World) => CH W hl32 ha
      have HH := hide hh
      clear CH hh
      gi_wp2_with (first | (refine ⟨trivial, ?_⟩; gi_at_call 107; refine (callsIn_wide.2 (C.out _)).mono ?_; rintro e w1 ⟨rfl, hb1⟩; have bY1 := bY.below hb1; have b11 := i1.below hb1; have b21 := i2.below hb1; have y0 : w1.cell? ⟨By, 0, none⟩ = some (.int .i64 x.1.vlan) := bY1.cell rfl; have y1 : w1.cell? ⟨By, 1, none⟩ = some (.string x.1.mac) := bY1.cell rfl; have z0 : w1.cell? ⟨w.heap.size + 1, 0, none⟩ = some (.int .i64 0) := b11.cell rfl; have z1 : w1.cell? ⟨w.heap.size + 1, 1, none⟩ = some (.string ⟨#[]⟩) := b11.cell rfl; have z2 : w1.cell? ⟨w.heap.size + 1 + 1, 0, none⟩ = some (.bool false) := b21.cell rfl; have f0 := b11.frozen 0; have f1 := b11.frozen 1; have f2 := b21.frozen 0; have ly := bY1.lt; have l1 := b11.lt; have l2 := b21.lt))
      refine ⟨(((keepsOthers_below hb1).trans (KeepsOthers.setCell _ _ _)).trans ((KeepsOthers.setCell _ _ _).trans (KeepsOthers.setCell _ _ _))).from _, rfl, ⟨pre, x, rfl, i3, HH.out, ?_⟩, ?_, ?_⟩
      · exact (((b11.set 0 _).set 1 _).other (by omega) 0 _)
      · exact ((b21.other (by omega) 0 _).other (by omega) 1 _).set 0 _
      · exact (((i4.trans (hb1.mono i4.size)).setCell (by simp) _).setCell (by simp) _).setCell (by simp; omega) _
  case done =>
    rintro D ys W hD rfl ⟨i0, i1, i2, i3, i4⟩ hK
    have z0 : W.cell? ⟨w.heap.size + 1, 0, none⟩ = some (.int .i64 0) := i1.cell rfl
    have z1 : W.cell? ⟨w.heap.size + 1, 1, none⟩ = some (.string ⟨#[]⟩) := i1.cell rfl
    have z2 : W.cell? ⟨w.heap.size + 1 + 1, 0, none⟩ = some (.bool false) := i2.cell rfl
    have f0 := i1.frozen 0
    have f1 := i1.frozen 1
    have f2 := i2.frozen 0
    have l1 := i1.lt
    have l2 := i2.lt
    have HN := hide (NON.out i3)
    have HI4 := hide i4
    have HI1 := hide i1
    have HI2 := hide i2
    have HD := hide hD
    have HK := hide hK
    clear i0 i1 i2 i3 i4 hK hD
    gi_wp2
    have hK' := ((((KeepsOthers.setCell W ⟨w.heap.size + 1, 0, none⟩ (.int .i64 0)).trans (KeepsOthers.setCell _ ⟨w.heap.size + 1, 1, none⟩ (.string ⟨#[]⟩))).trans (KeepsOthers.setCell _ ⟨w.heap.size + 1 + 1, 0, none⟩ (.bool false)))).same D _ HK.out rfl
    refine ⟨by simp, .inl ⟨_, _, rfl, run_takeDeferred hK', ?_⟩⟩
    have hg := grownBy_putObj' (((W.setCell ⟨w.heap.size + 1, 0, none⟩ (.int .i64 0)).setCell ⟨w.heap.size + 1, 1, none⟩ (.string ⟨#[]⟩)).setCell ⟨w.heap.size + 1 + 1, 0, none⟩ (.bool false)) D (.deferred none)
    have hD2 : w.heap.size + 4 ≤ D := by have := HD.out; rw [hs4] at this; exact this
    have q1 := (((HI1.out.set 0 (.int .i64 0)).set 1 (.string ⟨#[]⟩)).other (show w.heap.size + 1 ≠ w.heap.size + 1 + 1 by omega) 0 (.bool false)).kept hg (by simp; omega)
    have q2 := (((HI2.out.other (show w.heap.size + 1 + 1 ≠ w.heap.size + 1 by omega) 0 (.int .i64 0)).other (show w.heap.size + 1 + 1 ≠ w.heap.size + 1 by omega) 1 (.string ⟨#[]⟩)).set 0 (.bool false)).kept hg (by simp; omega)
    have p0 := q1.cell (i := 0) (v := .int .i64 0) rfl
    have p1 := q1.cell (i := 1) (v := .string ⟨#[]⟩) rfl
    have p2 := q2.cell (i := 0) (v := .bool false) rfl
    have hB5 : Below w.heap.size w (((W.setCell ⟨w.heap.size + 1, 0, none⟩ (.int .i64 0)).setCell ⟨w.heap.size + 1, 1, none⟩ (.string ⟨#[]⟩)).setCell ⟨w.heap.size + 1 + 1, 0, none⟩ (.bool false)) := ((HI4.out.setCell (by simp) _).setCell (by simp) _).setCell (by simp; omega) _
    refine ⟨.tuple #[.agg #[.int .i64 0, .string ⟨#[]⟩], .bool false], ?_, by rw [HN.out]; rfl, hB5.grown hg hB5.size (fun x hx => by cases hx; omega)⟩
    simp [results, Tryz.results60, go_sem, p0, p1, p2]
  case stop =>
    rintro D c pre W hD hpre ⟨rfl, ⟨pre', x, rfl, e2, e3, e4⟩, i2, i4⟩ hK
    have HN := hide (FIN.out pre' x hpre e2 e3)
    have HI4 := hide i4
    have HI1 := hide e4
    have HI2 := hide i2
    have HD := hide hD
    have HK := hide hK
    clear i2 i4 hK e2 e3 e4 hpre hD
    gi_wp2
    refine ⟨by simp, .inl ⟨_, _, rfl, run_takeDeferred HK.out, ?_⟩⟩
    have hg := grownBy_putObj' W D (.deferred none)
    have hD2 : w.heap.size + 4 ≤ D := by have := HD.out; rw [hs4] at this; exact this
    have q1 := HI1.out.kept hg (by simp; omega)
    have q2 := HI2.out.kept hg (by simp; omega)
    have p0 := q1.cell (i := 0) (v := .int .i64 x.1.vlan) rfl
    have p1 := q1.cell (i := 1) (v := .string x.1.mac) rfl
    have p2 := q2.cell (i := 0) (v := .bool true) rfl
    refine ⟨.tuple #[.agg #[.int .i64 x.1.vlan, .string x.1.mac], .bool true], ?_, by rw [HN.out]; rfl, HI4.out.grown hg HI4.out.size (fun x hx => by cases hx; omega)⟩
    simp [results, Tryz.results60, go_sem, p0, p1, p2]

theorem pmap_self {K : List Rt} (hL : ∀ e ∈ K, LenOk e) : (K.pmap (fun e h => (⟨e, h⟩ : { e : Rt // LenOk e })) hL).map (·.1) = K := by
  induction K with
  | nil => rfl
  | cons e t ih =>
    rw [List.pmap_cons, List.map_cons, ih fun x hx => hL x (List.mem_cons_of_mem _ hx)]
/-- Find of the routes. -/
theorem rFind_any (rb hb : Nat) (sv : Value) (K : List Rt) (a : Nat) (w : World) (h0 : w.cell? ⟨rb, 0, none⟩ = some (.pointer (some ⟨hb, 0, none⟩))) (hM : MapHq w hb sv K) (hL : ∀ e ∈ K, LenOk e) (ha : a < 4294967296) :
    Calls Tryz.prog 60 #[.pointer (some ⟨rb, 0, none⟩), .int .i64 a] w fun e w' => e = .returned (.tuple #[hopV (findR K a), .bool (findR K a).isSome]) ∧ Below w.heap.size w w' := by
  have h := hops_walk rb hb sv a w (K.pmap (fun e h => ⟨e, h⟩) hL) (by rw [List.length_pmap]; exact hM.1.2.2.2.2) ha h0 hM.1.2.1 (by rw [pmap_self hL]; exact hM.row (Nat.le_refl _))
  rw [pmap_self hL] at h
  exact h
end Go.Proofs.YtaejpejfmpbinaaGreatDoor
