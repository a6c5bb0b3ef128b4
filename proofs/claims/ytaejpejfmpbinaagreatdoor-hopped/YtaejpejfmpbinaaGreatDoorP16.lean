import Derived.Test.YtaejpejfmpbinaaGreatDoorP15
import Derived.Deep.RegionHeld3
import Derived.RangeFuncNested
import Derived.RangeFuncBound
import Derived.RangeFuncCalls
import Derived.RangeFuncLeaves
import Derived.RangeFuncBox
import Derived.Shelf.Abstract
import Derived.Shelf.RegionOpen
import Derived.OwnWalkIn
import Derived.TacticsInMore
import Derived.LoopNIn
import Derived.LoopIn
import Derived.Maps.AppendAt
namespace Go.Proofs.YtaejpejfmpbinaaGreatDoor
open Go.RowKit
open Go.Sort (grow)

/-- What PutWithin leaves. -/
def PutW (m : Nat) (sv : Value) (K : List Mc) (e0 : Mc) (ok : Bool) (w w3 : World) : Prop :=
  if ok = true then PutQ m sv K e0 w w3 else Below w.heap.size w w3

theorem known_at {K : List Mc} {x : Int} {b : ByteArray} {i : Nat} (hL : ∀ j, j < i → cmpM (kAt K j) x b < 0) (hR : ∀ j, i ≤ j → j < K.length → 0 ≤ cmpM (kAt K j) x b) (hs : SortedP K) :
    (decide (i < K.length) && (cmpM (kAt K i) x b == 0)) = (known K x b).isSome := by
  rw [known_get hL hR hs]
  by_cases h : i < K.length ∧ cmpM (kAt K i) x b = 0
  · rw [dif_pos h]
    simp [h.1, h.2]
  · rw [dif_neg h]
    simp only [Option.isSome_none]
    rw [← Bool.not_eq_true, Bool.and_eq_true, decide_eq_true_eq, beq_iff_eq]
    exact h

theorem putQ_from {m : Nat} {sv : Value} {K : List Mc} {e0 : Mc} {w W w3 : World} (hB : Below w.heap.size w W) (hP : PutQ m sv K e0 W w3) : PutQ m sv K e0 w w3 := by
  obtain ⟨sv', K', h1, h2, h3, h4, h5, h6⟩ := hP
  exact ⟨sv', K', h1, h2, h3, h4, fun b hb => (h5 b hb).imp id fun h' => Nat.le_trans hB.size h', (Chg.of_below hB).trans h6⟩

set_option maxRecDepth 100000 in
set_option maxHeartbeats 1000000 in
theorem putWP_any (m : Nat) (sv : Value) (K : List Mc) (e0 : Mc) (most : Int) (w : World) (hm : MapQ w m sv K) (hs : SortedP K) (hn : K.length ≤ 199) :
    Calls Tryz.prog 97 #[.pointer (some ⟨m, 0, none⟩), .int .i64 most, .agg #[.int .i64 e0.vlan, .string e0.mac], .agg #[.int .i64 e0.port, .int .i64 e0.age]] w fun e w' => ∃ ok : Bool, ok = ((known K e0.vlan e0.mac).isSome || decide ((K.length : Int) < most)) ∧ e = .returned (.bool ok) ∧ PutW m sv K e0 ok w w' := by
  have hmlt : m < w.heap.size := block_lt_of_cell hm.1.1
  obtain ⟨w0, hw0⟩ : ∃ w0, w0 = (w.alloc (.cells #[.int .i64 e0.vlan, .string e0.mac] 129)).alloc (.cells #[.int .i64 e0.port, .int .i64 e0.age] 131) := ⟨_, rfl⟩
  have hb0 : Below w.heap.size w w0 := by rw [hw0]; exact ((Below.refl _ w).alloc (Nat.le_refl _) _).alloc (by rw [alloc_size]; omega) _
  have hs0 : w0.heap.size = w.heap.size + 2 := by rw [hw0, alloc_size, alloc_size]
  have hm0 : MapQ w0 m sv K := hm.below hb0
  have b0 : w0.heap[w.heap.size]? = some (.cells #[.int .i64 e0.vlan, .string e0.mac] 129 (0, 0)) := by
    rw [hw0]; exact (((Below.refl _ (w.alloc (.cells #[.int .i64 e0.vlan, .string e0.mac] 129))).alloc (Nat.le_refl _) _).block _ (by rw [alloc_size]; omega)).trans (alloc_new _ _)
  have b1 : w0.heap[w.heap.size + 1]? = some (.cells #[.int .i64 e0.port, .int .i64 e0.age] 131 (0, 0)) := by
    rw [hw0, ← alloc_size w (.cells #[.int .i64 e0.vlan, .string e0.mac] 129)]; exact alloc_new _ _
  have c0 : w0.cell? ⟨w.heap.size, 0, none⟩ = some (.int .i64 e0.vlan) := cell_in_row b0 rfl
  have c1 : w0.cell? ⟨w.heap.size, 1, none⟩ = some (.string e0.mac) := cell_in_row b0 rfl
  have c2 : w0.cell? ⟨w.heap.size + 1, 0, none⟩ = some (.int .i64 e0.port) := cell_in_row b1 rfl
  have c3 : w0.cell? ⟨w.heap.size + 1, 1, none⟩ = some (.int .i64 e0.age) := cell_in_row b1 rfl
  have CP := hide (placeP_any m sv K e0.vlan e0.mac w0 hm0.1 hs)
  have h1 := hm0.1.2.1
  have HB0 := hide hb0
  have HW0 := hide hw0
  have HM := hide hm
  clear hm hm0 hb0 b0 b1
  go_enter Tryz.func97, Tryz.ntmps97
  go_wp2_with fail
  rw [← HW0.out]
  refine CP.out.mono ?_
  rintro e w1 ⟨i, hi, hL, hR, rfl, hb⟩
  rw [known_at hL hR hs]
  have kb0 := cell_later hb c0
  have kb1 := cell_later hb c1
  have kb2 := cell_later hb c2
  have kb3 := cell_later hb c3
  have hsz := hb.size
  have hB1 : Hid (Below w.heap.size w w1) := hide (HB0.out.trans (hb.mono (by omega)))
  have CQ := hide fun (W : World) (h : Below w.heap.size w W) => putP_any m sv K e0 W (HM.out.below h) hs hn
  obtain ⟨a0, cap, g, rfl, hcs⟩ := rowP_cells HM.out.1.2.2.1
  have CLn := hide (lenP_any m a0 K.length cap w1 (HM.out.below hB1.out).1.2.1)
  clear hcs hL hR hb h1 c0 c1 c2 c3 HW0 HB0 CP
  cases hk : (known K e0.vlan e0.mac).isSome with
  | true =>
    have HK := hide hk
    clear hk
    go_wp2_with fail
    refine (CQ.out _ hB1.out).mono ?_
    rintro e w2 ⟨rfl, hp⟩
    have HP := hide (putQ_from hB1.out hp)
    clear hp
    go_wp2_with fail
    go_ret
    exact ⟨true, by rw [HK.out]; rfl, rfl, HP.out⟩
  | false =>
    have HK := hide hk
    clear hk
    go_wp2_with fail
    refine CLn.out.mono ?_
    rintro e w2 ⟨rfl, rfl⟩
    by_cases hlen : (K.length : Int) < most
    · have hle : ¬ most ≤ (K.length : Int) := by omega
      have HLE := hide hlen
      clear hlen
      go_wp2_with fail
      refine (CQ.out _ hB1.out).mono ?_
      rintro e w3 ⟨rfl, hp⟩
      have HP := hide (putQ_from hB1.out hp)
      clear hp
      go_wp2_with fail
      go_ret
      exact ⟨true, by rw [HK.out]; exact (decide_eq_true HLE.out).symm, rfl, HP.out⟩
    · have hle : most ≤ (K.length : Int) := by omega
      have HLE := hide hlen
      clear hlen
      go_wp2_with fail
      go_ret
      exact ⟨false, by rw [HK.out]; exact (decide_eq_false (Int.not_lt.2 HLE.out)).symm, rfl, hB1.out⟩

/-- What Learn leaves. -/
def LearnQ (k m : Nat) (sv : Value) (K : List Mc) (e0 : Mc) (w w3 : World) : Prop :=
  ∃ sv' K', KnownAt w3 k m sv' K' ∧ (if (known K e0.vlan e0.mac).isSome || decide (K.length < 64) then (∀ q, q ∈ K' ↔ q = e0 ∨ (q ∈ K ∧ cmpM q e0.vlan e0.mac ≠ 0)) ∧ K'.length = (if (known K e0.vlan e0.mac).isSome then K.length else K.length + 1) else K' = K) ∧ (∀ b, sv'.ownBlock = some b → sv.ownBlock = some b ∨ w.heap.size ≤ b) ∧ Chg (fun b => b = m ∨ sv.ownBlock = some b) w w3

theorem learn_done {k m : Nat} {sv : Value} {K : List Mc} {e0 : Mc} {w W w3 : World} (h : KnownAt w k m sv K) (hB : Below w.heap.size w W) (ho : ((known K e0.vlan e0.mac).isSome || decide (K.length < 64)) = true) (hP : PutQ m sv K e0 W w3) : LearnQ k m sv K e0 w w3 := by
  obtain ⟨sv', K', h1, h2, h3, h4, h5, h6⟩ := hP
  have hk : k < w.heap.size := block_lt_of_cell h.1
  have hkm : k ≠ m := by
    rintro rfl
    have := h.1
    rw [h.2.2.1.1.1] at this
    cases this
  have hkg : ∀ g, sv.ownBlock = some g → k ≠ g := by
    rintro g hg rfl
    obtain ⟨v, hv⟩ := (h.2.2.1.head hg).1
    have := h.1
    rw [hv] at this
    cases this
  have hnx : ¬ (k = m ∨ sv.ownBlock = some k) := by
    rintro (e | e)
    · exact hkm e
    · exact hkg k e rfl
  have hKW := h.below hB
  have hblk := h6.block k (block_lt_of_cell hKW.1) hnx
  refine ⟨sv', K', ⟨h6.block.cell hnx hKW.1, fun j => (World.frozen?_of_block (a := ⟨k, j, none⟩) hblk).trans (hKW.2.1 j), h1, h2⟩, ?_, fun b hb => (h5 b hb).imp id fun h' => Nat.le_trans hB.size h', (Chg.of_below hB).trans h6⟩
  rw [if_pos ho]
  exact ⟨h3, h4⟩

theorem learn_within {k m : Nat} {sv : Value} {K : List Mc} {e0 : Mc} {w W w3 : World} {ok : Bool} (h : KnownAt w k m sv K) (hB : Below w.heap.size w W) (ho : ok = ((known K e0.vlan e0.mac).isSome || decide ((K.length : Int) < 64))) (hP : PutW m sv K e0 ok W w3) : LearnQ k m sv K e0 w w3 := by
  have e : decide ((K.length : Int) < 64) = decide (K.length < 64) := by
    rw [decide_eq_decide]; omega
  rw [e] at ho
  unfold PutW at hP
  by_cases hok : ok = true
  · rw [if_pos hok] at hP
    exact learn_done h hB (ho ▸ hok) hP
  · rw [if_neg hok] at hP
    have hB3 : Below w.heap.size w w3 := hB.trans (hP.mono hB.size)
    refine ⟨sv, K, h.below hB3, ?_, fun b hb => .inl hb, Chg.of_below hB3⟩
    rw [if_neg (by rw [← ho]; exact hok)]

set_option maxRecDepth 100000 in
set_option maxHeartbeats 1000000 in
theorem learn_any (k m : Nat) (sv : Value) (K : List Mc) (x : Int) (b : ByteArray) (p : Int) (w : World) (h : KnownAt w k m sv K) (hl : b.size ≤ 281474976710656) (hK : K.length ≤ 64) :
    Calls Tryz.prog 52 #[.pointer (some ⟨k, 0, none⟩), .int .i64 x, .string b, .int .i64 p] w fun e w' => e = .returned (.tuple #[]) ∧ LearnQ k m sv K ⟨x, b, p, 0⟩ w w' := by
  have CC := hide (clone_any b w hl)
  have CPut := hide fun (W : World) (hb : Below w.heap.size w W) => putWP_any m sv K ⟨x, b, p, 0⟩ 64 W (h.2.2.1.below hb) h.2.2.2 (by omega)
  have hD := hide fun (W w3 : World) (ok : Bool) (hb : Below w.heap.size w W) ho hp => learn_within (e0 := ⟨x, b, p, 0⟩) (w3 := w3) (ok := ok) h hb ho hp
  have h0 := h.1
  have hk : k < w.heap.size := block_lt_of_cell h0
  clear h
  go_enter Tryz.func52, Tryz.ntmps52
  go_wp2_with fail
  refine CC.out.mono ?_
  rintro e w1 ⟨rfl, hb1⟩
  have k1 := cell_later hb1 h0
  have hz1 := hb1.size
  have hk1 : k < w1.heap.size := by omega
  clear CC h0
  go_wp2_with fail
  generalize hW : w1.alloc _ = W
  have hBW : Below w.heap.size w W := by rw [← hW]; exact hb1.alloc hz1 _
  have b0 : W.heap[w1.heap.size]? = some (.cells #[.int .i64 x, .string b] 129 (0, 0)) := by rw [← hW]; exact alloc_new _ _
  have c0 : W.cell? ⟨w1.heap.size, 0, none⟩ = some (.int .i64 x) := cell_in_row b0 rfl
  have c1 : W.cell? ⟨w1.heap.size, 1, none⟩ = some (.string b) := cell_in_row b0 rfl
  have k2 : W.cell? ⟨k, 0, none⟩ = some (.pointer (some ⟨m, 0, none⟩)) := by rw [← hW]; exact cell_later ((Below.refl _ w1).alloc (Nat.le_refl _) _) k1
  clear hW b0 k1
  go_region_with (first | (go_at_call 97; refine (CPut.out _ ?_).mono ?_; (exact (by repeat (first | exact Below.refl _ _ | assumption | refine Below.drewN ?_ | refine Below.drew ?_ | refine Below.setCell ?_ (by first | exact Nat.le_refl _ | omega | (simp; done) | (simp; omega)) _ | refine Below.alloc ?_ (by first | exact Nat.le_refl _ | omega | (simp; done) | (simp; omega)) _))); rintro e w3 ⟨ok, hok, rfl, hp⟩; have HL := hide (hD.out _ _ _ (by repeat (first | exact Below.refl _ _ | assumption | refine Below.drewN ?_ | refine Below.drew ?_ | refine Below.setCell ?_ (by first | exact Nat.le_refl _ | omega | (simp; done) | (simp; omega)) _ | refine Below.alloc ?_ (by first | exact Nat.le_refl _ | omega | (simp; done) | (simp; omega)) _)) hok hp)))
  all_goals go_end0
  all_goals exact ⟨rfl, HL.out⟩
end Go.Proofs.YtaejpejfmpbinaaGreatDoor

namespace Go.Proofs.YtaejpejfmpbinaaGreatDoor
open Go.RowKit
open Go.Sort (grow)

set_option maxRecDepth 100000 in
theorem mNew_any (w : World) : Calls Tryz.prog 47 #[] w fun e w' => ∃ k m, e = .returned (.pointer (some ⟨k, 0, none⟩)) ∧ w.heap.size ≤ k ∧ w.heap.size ≤ m ∧ KnownAt w' k m (.slice none 0 0) [] ∧ Below w.heap.size w w' := by
  have C := hide fun (W : World) => noPlaces_any W
  go_enter Tryz.func47, Tryz.ntmps47
  go_wp2_with (first | (go_at_call 65; refine (C.out _).mono ?_; rintro e w1 ⟨rfl, rfl⟩))
  go_ret
  obtain ⟨W, hW⟩ : ∃ W, W = w.alloc (.cells #[.func (.func 111) #[] #[], .slice none 0 0] 200) := ⟨_, rfl⟩
  have hM := mapQ_new w
  have hB : Below w.heap.size w W := by rw [hW]; exact (Below.refl _ w).alloc (Nat.le_refl _) _
  have hs : W.heap.size = w.heap.size + 1 := by rw [hW]; exact alloc_size _ _
  rw [← hW] at hM ⊢
  refine ⟨w.heap.size + 1, w.heap.size, rfl, by omega, Nat.le_refl _, ?_, hB.alloc (by omega) _⟩
  rw [← hs]
  have hn := alloc_new W
  exact ⟨cell_in_row (hn _) rfl, fun j => frz_row (hn _) j, hM.below ((Below.refl _ W).alloc (Nat.le_refl _) _), List.Pairwise.nil⟩
end Go.Proofs.YtaejpejfmpbinaaGreatDoor

namespace Go.Proofs.YtaejpejfmpbinaaGreatDoor
open Go.RowKit Go.Shelf

attribute [local go_sem] Oper.semAt_some

/-- A slice of places, in a block below n₀. -/
def PlaceRow (n₀ : Nat) (W : World) (sv : Value) (L : List Mc) : Prop :=
  ∃ (a : Option Addr) (cap : Nat), sv = .slice a L.length cap ∧ ∀ j (h : j < L.length), ∃ g, a = some ⟨g, 0, none⟩ ∧ g < n₀ ∧ W.cell? ⟨g, j * 4, none⟩ = some (.int .i64 L[j].vlan) ∧ W.cell? ⟨g, j * 4 + 1, none⟩ = some (.string L[j].mac) ∧ W.cell? ⟨g, j * 4 + 2, none⟩ = some (.int .i64 L[j].port) ∧ W.cell? ⟨g, j * 4 + 3, none⟩ = some (.int .i64 L[j].age)
theorem PlaceRow.below {n₀ : Nat} {A B : World} (h : Below n₀ A B) {sv : Value} {L : List Mc} (hr : PlaceRow n₀ A sv L) : PlaceRow n₀ B sv L := by
  obtain ⟨a, cap, e, hc⟩ := hr
  refine ⟨a, cap, e, fun j hj => ?_⟩
  obtain ⟨g, ha, hg, c0, c1, c2, c3⟩ := hc j hj
  exact ⟨g, ha, hg, (h.cell (p := ⟨g, j * 4, none⟩) hg).trans c0, (h.cell (p := ⟨g, j * 4 + 1, none⟩) hg).trans c1, (h.cell (p := ⟨g, j * 4 + 2, none⟩) hg).trans c2, (h.cell (p := ⟨g, j * 4 + 3, none⟩) hg).trans c3⟩
theorem MapQ.row {w : World} {m : Nat} {sv : Value} {K : List Mc} (h : MapQ w m sv K) {n₀ : Nat} (hn : w.heap.size ≤ n₀) : PlaceRow n₀ w sv K := by
  obtain ⟨a, cap, g, rfl, hc⟩ := rowP_cells h.1.2.2.1
  refine ⟨a, cap, rfl, fun j hj => ?_⟩
  obtain ⟨ha, c0, c1, c2, c3⟩ := hc j hj
  rw [kAt_eq hj] at c0 c1 c2 c3
  exact ⟨g, ha, Nat.lt_of_lt_of_le (block_lt_of_cell c0) hn, c0, c1, c2, c3⟩

/-- What the iterator hands on. -/
def encP {Pr : Mc → Prop} (x : { e : Mc // Pr e }) : Array Value := #[.agg #[.int .i64 x.1.vlan, .string x.1.mac], .agg #[.int .i64 x.1.port, .int .i64 x.1.age]]

set_option maxRecDepth 100000 in
set_option maxHeartbeats 2000000 in
theorem allP1_in {Pr : Mc → Prop} (F : Fence) (n : Nat) (h49 : F.fn 112) (hro : F.round = none) (hn : 1 ≤ n) (l Bm m n₀ : Nat) (sv : Value) (L : List { e : Mc // Pr e }) (hlen : L.length ≤ 200) (J Jx : List { e : Mc // Pr e } → World → Prop) (B : Nat) (hJ : AbidesFrom B J)
    (hY : ∀ pre x W, J pre W → pre.length < L.length → YieldAt F (n - 1) Tryz.prog l (encP x) W fun e W' =>
      (e = .returned (.bool true) ∧ J (pre ++ [x]) W' ∧ Below n₀ W W') ∨ (e = .returned (.bool false) ∧ Jx (pre ++ [x]) W'))
    (W : World) (hn₀ : n₀ ≤ W.heap.size) (hBm : W.cell? ⟨Bm, 0, none⟩ = some (.pointer (some ⟨m, 0, none⟩))) (hm : W.cell? ⟨m, 1, none⟩ = some sv) (hrow : PlaceRow n₀ W sv (L.map (·.1))) (h0 : J [] W) :
    CallsIn F n Tryz.prog 112 #[.func (.yield l) #[] #[], .pointer (some ⟨Bm, 0, none⟩)] W fun e W' => (∃ v, e = .returned v) ∧
      ((∃ ys, ys = L ∧ J ys W') ∨ (∃ pre, pre <+: L ∧ Jx pre W')) := by
  obtain ⟨a, cap, rfl, hc⟩ := hrow
  simp only [List.length_map] at hc hm ⊢
  refine callsIn_of_wp Tryz.func112 rfl h49 ?_ hro
  simp only [Tryz.ntmps112, List.size_toArray, List.length_cons, List.length_nil, Nat.reduceAdd, Nat.reduceSub, Array.replicate_succ, Array.replicate_zero, List.push_toArray, List.append_toArray, List.nil_append, List.cons_append]
  gi_wp2
  gi_loopw [10] (fun i wr => ∃ k : Nat, k ≤ L.length ∧ i = .int .i64 k ∧ J (L.take k) wr ∧ Below n₀ W wr) (fun i _ => L.length - (intOf i).toNat)
  case atStart => exact ⟨0, Nat.zero_le _, rfl, by simpa using h0, Below.refl _ _⟩
  case round =>
    obtain ⟨k, hk, rfl, hJs, hnx⟩ := hrel
    by_cases hlt : k < L.length
    · obtain ⟨g, rfl, hg, c0, c1, c2, c3⟩ := hc k hlt
      rw [List.getElem_map] at c0 c1 c2 c3
      have d0 := (hnx.cell (p := ⟨g, k * 4, none⟩) hg).trans c0
      have d1 := (hnx.cell (p := ⟨g, k * 4 + 1, none⟩) hg).trans c1
      have d2 := (hnx.cell (p := ⟨g, k * 4 + 2, none⟩) hg).trans c2
      have d3 := (hnx.cell (p := ⟨g, k * 4 + 3, none⟩) hg).trans c3
      have hglt : g < wr.heap.size := Nat.lt_of_lt_of_le (Nat.lt_of_lt_of_le hg hn₀) hnx.size
      have hki : (k : Int) < L.length := by omega
      have hJ1 := hJ _ wr (wr.alloc (.cells #[.int .i64 L[k].1.vlan, .string L[k].1.mac, .int .i64 L[k].1.port, .int .i64 L[k].1.age] 202)) none hJs (World.grownBy_alloc _ _ _) (fun r e => by cases e)
      obtain ⟨fn, tmps, assign, body, hy, hR⟩ := hY _ L[k] _ hJ1 (by simp; omega)
      simp only [encP] at hy
      have HT : Hid (L.take (k + 1) = L.take k ++ [L[k]]) := by rw [List.take_succ_eq_append_getElem hlt]; exact rfl
      generalize hee : L[k] = ek at *
      clear hJ1 hc c0 c1 c2 c3 hee
      gi_wp2
      refine hR.mono ?_
      rintro e W3 (⟨rfl, hJ3, hk3⟩ | ⟨rfl, hJx3⟩)
      · gi_wp2
        go_roundw
        case rel => exact ⟨k + 1, by omega, by simp, by rw [HT.out]; exact hJ3, (hnx.alloc (Nat.le_trans hn₀ hnx.size) _).trans hk3⟩
        case measure => simp [intOf]; omega
      · gi_wp2
        refine bodyPost_ret (results_none rfl _ _ _) rfl ?_
        exact ⟨⟨_, rfl⟩, .inr ⟨_, by rw [← HT.out]; exact List.take_prefix _ _, hJx3⟩⟩
    · obtain rfl : k = L.length := by omega
      clear hc
      gi_wp2
      go_end0
      exact ⟨⟨_, rfl⟩, .inl ⟨_, rfl, by simpa using hJs⟩⟩

set_option maxHeartbeats 1000000 in
theorem allP_in (F : Fence) (n : Nat) (h29 : F.fn 66) (hro : F.round = none) (m : Nat) (w : World) :
    CallsIn F n Tryz.prog 66 #[.pointer (some ⟨m, 0, none⟩)] w fun e w' => e = .returned (.func (.func 112) #[] #[.pointer (some ⟨w.heap.size, 0, none⟩)]) ∧ w' = w.alloc (.cells #[.pointer (some ⟨m, 0, none⟩)] 121) := by
  refine callsIn_of_wp Tryz.func66 rfl h29 ?_ hro
  simp only [Tryz.ntmps66, List.size_toArray, List.length_cons, List.length_nil, Nat.reduceAdd, Nat.reduceSub, Array.replicate_succ, Array.replicate_zero, List.push_toArray, List.append_toArray, List.nil_append, List.cons_append]
  gi_wp2
  go_ret
  exact ⟨rfl, rfl⟩

theorem allP_stops {Pr : Mc → Prop} (F : Fence) (n : Nat) (h49 : F.fn 112) (hro : F.round = none) (hn : 1 ≤ n) (Bm m n₀ : Nat) (sv : Value) (L : List { e : Mc // Pr e }) (hlen : L.length ≤ 200) (w : World) (hBm : Bm < w.heap.size) (hmlt : m < n₀) (hn₀ : n₀ ≤ w.heap.size)
    (hc : w.cell? ⟨Bm, 0, none⟩ = some (.pointer (some ⟨m, 0, none⟩))) (hm : w.cell? ⟨m, 1, none⟩ = some sv) (hL : PlaceRow n₀ w sv (L.map (·.1))) :
    SeqStopsK F n Tryz.prog 112 #[.pointer (some ⟨Bm, 0, none⟩)] (encP (Pr := Pr)) (Below n₀) (fun ys => ys = L) (fun pre => pre <+: L) L.length w := fun l J Jx W hW hJ _ hY h0 =>
  allP1_in F n h49 hro hn l Bm m n₀ sv L hlen J Jx W.heap.size hJ hY W (Nat.le_trans hn₀ hW.size) ((hW.cell (p := ⟨Bm, 0, none⟩) hBm).trans hc) ((hW.cell (p := ⟨m, 1, none⟩) (Nat.lt_of_lt_of_le hmlt hn₀)).trans hm) (hL.below (hW.mono hn₀)) h0

end Go.Proofs.YtaejpejfmpbinaaGreatDoor

namespace Go.Proofs.YtaejpejfmpbinaaGreatDoor
open Go.RowKit

theorem cmpM_irrefl (a : Mc) : ¬ cmpM a a.vlan a.mac < 0 := by
  unfold cmpM
  rw [cmpPl_neg]
  simp [bytesLess_irrefl]
theorem cmpM_asymm {a b : Mc} (h : cmpM a b.vlan b.mac < 0) : ¬ cmpM b a.vlan a.mac < 0 := by
  unfold cmpM at *
  rw [cmpPl_neg] at *
  rintro (h1 | ⟨h1, h2⟩) <;> rcases h with h3 | ⟨h3, h4⟩
  · omega
  · omega
  · omega
  · exact absurd (bytesLess_trans h4 h2) (by rw [bytesLess_irrefl]; simp)

/-- Two lists in order with the same entries are one. -/
theorem sortedP_ext : ∀ {A B : List Mc}, SortedP A → SortedP B → (∀ x, x ∈ A ↔ x ∈ B) → A = B
  | [], [], _, _, _ => rfl
  | [], b :: B, _, _, h => absurd ((h b).2 (by simp)) (by simp)
  | a :: A, [], _, _, h => absurd ((h a).1 (by simp)) (by simp)
  | a :: A, b :: B, ha, hb, h => by
    have ha' := List.pairwise_cons.1 ha
    have hb' := List.pairwise_cons.1 hb
    have e : a = b := by
      rcases List.mem_cons.1 ((h a).1 (by simp)) with e | h1
      · exact e
      · rcases List.mem_cons.1 ((h b).2 (by simp)) with e | h2
        · exact e.symm
        · exact absurd (ha'.1 b h2) (cmpM_asymm (hb'.1 a h1))
    subst e
    congr 1
    refine sortedP_ext ha'.2 hb'.2 fun x => ⟨fun hx => ?_, fun hx => ?_⟩
    · rcases List.mem_cons.1 ((h x).1 (List.mem_cons_of_mem _ hx)) with e | h1
      · subst e
        exact absurd (ha'.1 x hx) (cmpM_irrefl x)
      · exact h1
    · rcases List.mem_cons.1 ((h x).2 (List.mem_cons_of_mem _ hx)) with e | h1
      · subst e
        exact absurd (hb'.1 x hx) (cmpM_irrefl x)
      · exact h1

/-- What is left when so many seconds have gone by. -/
def tickL (s : Int) (K : List Mc) : List Mc := (K.map fun e => { e with age := e.age + s }).filter fun e => decide (e.age ≤ 300)
theorem tickL_snoc (s : Int) (K : List Mc) (x : Mc) : tickL s (K ++ [x]) = tickL s K ++ if x.age + s ≤ 300 then [{ x with age := x.age + s }] else [] := by
  simp only [tickL, List.map_append, List.filter_append, List.map_cons, List.map_nil, List.filter_cons, List.filter_nil]
  split <;> simp_all
theorem tickL_sorted (s : Int) {K : List Mc} (h : SortedP K) : SortedP (tickL s K) := by
  refine List.Pairwise.filter _ (List.pairwise_map.2 ?_)
  exact h
theorem tickL_length (s : Int) (K : List Mc) : (tickL s K).length ≤ K.length := by
  have := List.length_filter_le (fun e : Mc => decide (e.age ≤ 300)) (K.map fun e => { e with age := e.age + s })
  rwa [List.length_map] at this
/-- Put behind all that is there. -/
theorem PutQ.last {m : Nat} {sv : Value} {K : List Mc} {e0 : Mc} {w w3 : World} (h : PutQ m sv K e0 w w3) (hs : SortedP K) (hl : ∀ q ∈ K, cmpM q e0.vlan e0.mac < 0) :
    ∃ sv', MapQ w3 m sv' (K ++ [e0]) ∧ SortedP (K ++ [e0]) ∧ (∀ b, sv'.ownBlock = some b → sv.ownBlock = some b ∨ w.heap.size ≤ b) ∧ Chg (fun b => b = m ∨ sv.ownBlock = some b) w w3 := by
  obtain ⟨sv', K', h1, h2, h3, _, h5, h6⟩ := h
  have hs' : SortedP (K ++ [e0]) := by
    refine List.pairwise_append.2 ⟨hs, List.pairwise_singleton _ _, fun a ha b hb => ?_⟩
    rw [List.mem_singleton.1 hb]
    exact hl a ha
  obtain rfl : K' = K ++ [e0] := sortedP_ext h2 hs' fun q => by
    rw [h3, List.mem_append, List.mem_singleton]
    constructor
    · rintro (e | e)
      · exact .inr e
      · exact .inl e.1
    · rintro (e | e)
      · exact .inr ⟨e, by have := hl q e; omega⟩
      · exact .inl e
  exact ⟨sv', h1, hs', h5, h6⟩
/-- What has aged stands ahead of what comes behind. -/
theorem tickL_ahead {s : Int} {K : List Mc} {x : Mc} (h : SortedP (K ++ [x])) (q : Mc) (hq : q ∈ tickL s K) : cmpM q x.vlan x.mac < 0 := by
  obtain ⟨e, he, rfl⟩ := List.mem_map.1 (List.mem_filter.1 hq).1
  exact (List.pairwise_append.1 h).2.2 e he x (by simp)
end Go.Proofs.YtaejpejfmpbinaaGreatDoor
