import Derived.Test.YtaejpejfmpbinaaGreatDoorP19
import Derived.Test.YtaejpejfmpbinaaGreatDoorShelf
import Derived.Deep.RegionHeld3
namespace Go.Proofs.YtaejpejfmpbinaaGreatDoor
open Go.RowKit
open Go.Sort (grow)

/-- Known holds a map of places. -/
def KnownAt (w : World) (k m : Nat) (sv : Value) (K : List Mc) : Prop := w.cell? ⟨k, 0, none⟩ = some (.pointer (some ⟨m, 0, none⟩)) ∧ (∀ j, w.frozen? ⟨k, j, none⟩ = false) ∧ MapQ w m sv K ∧ SortedP K
theorem KnownAt.below {w w' : World} {k m : Nat} {sv : Value} {K : List Mc} (h : KnownAt w k m sv K) (hb : Below w.heap.size w w') : KnownAt w' k m sv K :=
  ⟨cell_later hb h.1, fun j => (World.frozen?_of_block (a := ⟨k, j, none⟩) (hb.block k (block_lt_of_cell h.1))).trans (h.2.1 j), h.2.2.1.below hb, h.2.2.2⟩

theorem clone_any (s : ByteArray) (w : World) (hl : s.size ≤ 281474976710656) : Calls Tryz.prog 38 #[.string s] w fun e w' => e = .returned (.string s) ∧ Below w.heap.size w w' := by
  have C := hide (fun W => Tryz.stringslite_Clone s W hl)
  go_enter Tryz.func38, Tryz.ntmps38
  go_wp2_with fail
  refine (C.out _).mono ?_
  rintro e w1 ⟨rfl, hb⟩
  go_wp2_with fail
  go_ret
  exact ⟨rfl, hb⟩

/-- The port that is told of a place. -/
def portOf (o : Option Mc) : Int := match o with | some e => e.port | none => 0
set_option maxRecDepth 100000 in
theorem mPort_any (k m : Nat) (sv : Value) (K : List Mc) (x : Int) (b : ByteArray) (w : World) (h : KnownAt w k m sv K) :
    Calls Tryz.prog 64 #[.pointer (some ⟨k, 0, none⟩), .int .i64 x, .string b] w fun e w' => e = .returned (.tuple #[.int .i64 (portOf (known K x b)), .bool (known K x b).isSome]) ∧ Below w.heap.size w w' := by
  have C := hide (getP_any m sv K x b w h.2.2.1.1 h.2.2.2)
  have h0 := h.1
  obtain ⟨p, a, hv⟩ : ∃ p a, seenV (known K x b) = .agg #[.int .i64 p, .int .i64 a] ∧ p = portOf (known K x b) := by
    cases known K x b with
    | none => exact ⟨_, _, rfl, rfl⟩
    | some e => exact ⟨_, _, rfl, rfl⟩
  obtain ⟨hv, hp⟩ := hv
  rw [hv] at C
  rw [← hp]
  clear hv hp h
  go_enter Tryz.func64, Tryz.ntmps64
  go_wp2_with fail
  refine C.out.mono ?_
  rintro e w1 ⟨rfl, hb⟩
  go_wp2_with fail
  go_ret2
  exact ⟨rfl, hb.alloc hb.size _⟩

theorem noPlaces_any (w : World) : Calls Tryz.prog 65 #[] w fun e w' => e = .returned (.pointer (some ⟨w.heap.size, 0, none⟩)) ∧ w' = w.alloc (.cells #[.func (.func 111) #[] #[], .slice none 0 0] 200) := by
  have C := hide (newP_any w)
  go_enter Tryz.func65, Tryz.ntmps65
  go_wp2_with fail
  refine C.out.mono ?_
  rintro e w1 ⟨rfl, rfl⟩
  go_wp2_with fail
  go_ret
  exact ⟨rfl, rfl⟩

theorem frz_row {w : World} {b : Nat} {c : Array Value} {t : TypeId} (h : w.heap[b]? = some (.cells c t (0, 0))) (j : Nat) : w.frozen? ⟨b, j, none⟩ = false := by
  unfold World.frozen?; simp only [h]; rfl

theorem mapQ_new (w : World) : MapQ (w.alloc (.cells #[.func (.func 111) #[] #[], .slice none 0 0] 200)) w.heap.size (.slice none 0 0) [] := by
  have b := alloc_new w (.cells #[.func (.func 111) #[] #[], .slice none 0 0] 200)
  refine ⟨⟨cell_in_row b rfl, cell_in_row b rfl, ⟨rfl, .inl ⟨rfl, rfl⟩⟩, fun j => frz_row b j, by simp⟩, fun _ => rfl⟩

end Go.Proofs.YtaejpejfmpbinaaGreatDoor

namespace Go.Proofs.YtaejpejfmpbinaaGreatDoor
open Go.RowKit
open Go.Sort (grow)

/-- What PutWithin leaves. -/
def PutW (m : Nat) (sv : Value) (K : List Mc) (e0 : Mc) (ok : Bool) (w w3 : World) : Prop :=
  if ok = true then PutQ m sv K e0 w w3 else Below w.heap.size w w3

theorem known_at {K : List Mc} {x : Int} {b : ByteArray} {i : Nat} (hL : ∀ j, j < i → cmpM (kAt K j) x b < 0) (hR : ∀ j, i ≤ j → j < K.length → 0 ≤ cmpM (kAt K j) x b) (hs : SortedP K) :
    (decide (i < K.length) && (cmpM (kAt K i) x b == 0)) = (known K x b).isSome := by
  rw [known_get hL hR hs]
  by_cases h : i < K.length ∧ cmpM (kAt K i) x b = 0
  · rw [dif_pos h]
    simp [h.1, h.2]
  · rw [dif_neg h]
    simp only [Option.isSome_none]
    rw [← Bool.not_eq_true, Bool.and_eq_true, decide_eq_true_eq, beq_iff_eq]
    exact h

theorem putQ_from {m : Nat} {sv : Value} {K : List Mc} {e0 : Mc} {w W w3 : World} (hB : Below w.heap.size w W) (hP : PutQ m sv K e0 W w3) : PutQ m sv K e0 w w3 := by
  obtain ⟨sv', K', h1, h2, h3, h4, h5, h6⟩ := hP
  exact ⟨sv', K', h1, h2, h3, h4, fun b hb => (h5 b hb).imp id fun h' => Nat.le_trans hB.size h', (Chg.of_below hB).trans h6⟩

set_option maxRecDepth 100000 in
set_option maxHeartbeats 1000000 in
theorem putWP_any (m : Nat) (sv : Value) (K : List Mc) (e0 : Mc) (most : Int) (w : World) (hm : MapQ w m sv K) (hs : SortedP K) (hn : K.length ≤ 199) :
    Calls Tryz.prog 97 #[.pointer (some ⟨m, 0, none⟩), .int .i64 most, .agg #[.int .i64 e0.vlan, .string e0.mac], .agg #[.int .i64 e0.port, .int .i64 e0.age]] w fun e w' => ∃ ok : Bool, ok = ((known K e0.vlan e0.mac).isSome || decide ((K.length : Int) < most)) ∧ e = .returned (.bool ok) ∧ PutW m sv K e0 ok w w' := by
  have hmlt : m < w.heap.size := block_lt_of_cell hm.1.1
  obtain ⟨w0, hw0⟩ : ∃ w0, w0 = (w.alloc (.cells #[.int .i64 e0.vlan, .string e0.mac] 129)).alloc (.cells #[.int .i64 e0.port, .int .i64 e0.age] 131) := ⟨_, rfl⟩
  have hb0 : Below w.heap.size w w0 := by rw [hw0]; exact ((Below.refl _ w).alloc (Nat.le_refl _) _).alloc (by rw [alloc_size]; omega) _
  have hs0 : w0.heap.size = w.heap.size + 2 := by rw [hw0, alloc_size, alloc_size]
  have hm0 : MapQ w0 m sv K := hm.below hb0
  have b0 : w0.heap[w.heap.size]? = some (.cells #[.int .i64 e0.vlan, .string e0.mac] 129 (0, 0)) := by
    rw [hw0]; exact (((Below.refl _ (w.alloc (.cells #[.int .i64 e0.vlan, .string e0.mac] 129))).alloc (Nat.le_refl _) _).block _ (by rw [alloc_size]; omega)).trans (alloc_new _ _)
  have b1 : w0.heap[w.heap.size + 1]? = some (.cells #[.int .i64 e0.port, .int .i64 e0.age] 131 (0, 0)) := by
    rw [hw0, ← alloc_size w (.cells #[.int .i64 e0.vlan, .string e0.mac] 129)]; exact alloc_new _ _
  have c0 : w0.cell? ⟨w.heap.size, 0, none⟩ = some (.int .i64 e0.vlan) := cell_in_row b0 rfl
  have c1 : w0.cell? ⟨w.heap.size, 1, none⟩ = some (.string e0.mac) := cell_in_row b0 rfl
  have c2 : w0.cell? ⟨w.heap.size + 1, 0, none⟩ = some (.int .i64 e0.port) := cell_in_row b1 rfl
  have c3 : w0.cell? ⟨w.heap.size + 1, 1, none⟩ = some (.int .i64 e0.age) := cell_in_row b1 rfl
  have CP := hide (placeP_any m sv K e0.vlan e0.mac w0 hm0.1 hs)
  have h1 := hm0.1.2.1
  have HB0 := hide hb0
  have HW0 := hide hw0
  have HM := hide hm
  clear hm hm0 hb0 b0 b1
  go_enter Tryz.func97, Tryz.ntmps97
  go_wp2_with fail
  rw [← HW0.out]
  refine CP.out.mono ?_
  rintro e w1 ⟨i, hi, hL, hR, rfl, hb⟩
  rw [known_at hL hR hs]
  have kb0 := cell_later hb c0
  have kb1 := cell_later hb c1
  have kb2 := cell_later hb c2
  have kb3 := cell_later hb c3
  have hsz := hb.size
  have hB1 : Hid (Below w.heap.size w w1) := hide (HB0.out.trans (hb.mono (by omega)))
  have CQ := hide fun (W : World) (h : Below w.heap.size w W) => putP_any m sv K e0 W (HM.out.below h) hs hn
  obtain ⟨a0, cap, g, rfl, hcs⟩ := rowP_cells HM.out.1.2.2.1
  have CLn := hide (lenP_any m a0 K.length cap w1 (HM.out.below hB1.out).1.2.1)
  clear hcs hL hR hb h1 c0 c1 c2 c3 HW0 HB0 CP
  cases hk : (known K e0.vlan e0.mac).isSome with
  | true =>
    have HK := hide hk
    clear hk
    go_wp2_with fail
    refine (CQ.out _ hB1.out).mono ?_
    rintro e w2 ⟨rfl, hp⟩
    have HP := hide (putQ_from hB1.out hp)
    clear hp
    go_wp2_with fail
    go_ret
    exact ⟨true, by rw [HK.out]; rfl, rfl, HP.out⟩
  | false =>
    have HK := hide hk
    clear hk
    go_wp2_with fail
    refine CLn.out.mono ?_
    rintro e w2 ⟨rfl, rfl⟩
    by_cases hlen : (K.length : Int) < most
    · have hle : ¬ most ≤ (K.length : Int) := by omega
      have HLE := hide hlen
      clear hlen
      go_wp2_with fail
      refine (CQ.out _ hB1.out).mono ?_
      rintro e w3 ⟨rfl, hp⟩
      have HP := hide (putQ_from hB1.out hp)
      clear hp
      go_wp2_with fail
      go_ret
      exact ⟨true, by rw [HK.out]; exact (decide_eq_true HLE.out).symm, rfl, HP.out⟩
    · have hle : most ≤ (K.length : Int) := by omega
      have HLE := hide hlen
      clear hlen
      go_wp2_with fail
      go_ret
      exact ⟨false, by rw [HK.out]; exact (decide_eq_false (Int.not_lt.2 HLE.out)).symm, rfl, hB1.out⟩

/-- What Learn leaves. -/
def LearnQ (k m : Nat) (sv : Value) (K : List Mc) (e0 : Mc) (w w3 : World) : Prop :=
  ∃ sv' K', KnownAt w3 k m sv' K' ∧ (if (known K e0.vlan e0.mac).isSome || decide (K.length < 64) then (∀ q, q ∈ K' ↔ q = e0 ∨ (q ∈ K ∧ cmpM q e0.vlan e0.mac ≠ 0)) ∧ K'.length = (if (known K e0.vlan e0.mac).isSome then K.length else K.length + 1) else K' = K) ∧ (∀ b, sv'.ownBlock = some b → sv.ownBlock = some b ∨ w.heap.size ≤ b) ∧ Chg (fun b => b = m ∨ sv.ownBlock = some b) w w3

theorem learn_done {k m : Nat} {sv : Value} {K : List Mc} {e0 : Mc} {w W w3 : World} (h : KnownAt w k m sv K) (hB : Below w.heap.size w W) (ho : ((known K e0.vlan e0.mac).isSome || decide (K.length < 64)) = true) (hP : PutQ m sv K e0 W w3) : LearnQ k m sv K e0 w w3 := by
  obtain ⟨sv', K', h1, h2, h3, h4, h5, h6⟩ := hP
  have hk : k < w.heap.size := block_lt_of_cell h.1
  have hkm : k ≠ m := by
    rintro rfl
    have := h.1
    rw [h.2.2.1.1.1] at this
    cases this
  have hkg : ∀ g, sv.ownBlock = some g → k ≠ g := by
    rintro g hg rfl
    obtain ⟨v, hv⟩ := (h.2.2.1.head hg).1
    have := h.1
    rw [hv] at this
    cases this
  have hnx : ¬ (k = m ∨ sv.ownBlock = some k) := by
    rintro (e | e)
    · exact hkm e
    · exact hkg k e rfl
  have hKW := h.below hB
  have hblk := h6.block k (block_lt_of_cell hKW.1) hnx
  refine ⟨sv', K', ⟨h6.block.cell hnx hKW.1, fun j => (World.frozen?_of_block (a := ⟨k, j, none⟩) hblk).trans (hKW.2.1 j), h1, h2⟩, ?_, fun b hb => (h5 b hb).imp id fun h' => Nat.le_trans hB.size h', (Chg.of_below hB).trans h6⟩
  rw [if_pos ho]
  exact ⟨h3, h4⟩

theorem learn_within {k m : Nat} {sv : Value} {K : List Mc} {e0 : Mc} {w W w3 : World} {ok : Bool} (h : KnownAt w k m sv K) (hB : Below w.heap.size w W) (ho : ok = ((known K e0.vlan e0.mac).isSome || decide ((K.length : Int) < 64))) (hP : PutW m sv K e0 ok W w3) : LearnQ k m sv K e0 w w3 := by
  have e : decide ((K.length : Int) < 64) = decide (K.length < 64) := by
    rw [decide_eq_decide]; omega
  rw [e] at ho
  unfold PutW at hP
  by_cases hok : ok = true
  · rw [if_pos hok] at hP
    exact learn_done h hB (ho ▸ hok) hP
  · rw [if_neg hok] at hP
    have hB3 : Below w.heap.size w w3 := hB.trans (hP.mono hB.size)
    refine ⟨sv, K, h.below hB3, ?_, fun b hb => .inl hb, Chg.of_below hB3⟩
    rw [if_neg (by rw [← ho]; exact hok)]

set_option maxRecDepth 100000 in
set_option maxHeartbeats 1000000 in
theorem learn_any (k m : Nat) (sv : Value) (K : List Mc) (x : Int) (b : ByteArray) (p : Int) (w : World) (h : KnownAt w k m sv K) (hl : b.size ≤ 281474976710656) (hK : K.length ≤ 64) :
    Calls Tryz.prog 52 #[.pointer (some ⟨k, 0, none⟩), .int .i64 x, .string b, .int .i64 p] w fun e w' => e = .returned (.tuple #[]) ∧ LearnQ k m sv K ⟨x, b, p, 0⟩ w w' := by
  have CC := hide (clone_any b w hl)
  have CPut := hide fun (W : World) (hb : Below w.heap.size w W) => putWP_any m sv K ⟨x, b, p, 0⟩ 64 W (h.2.2.1.below hb) h.2.2.2 (by omega)
  have hD := hide fun (W w3 : World) (ok : Bool) (hb : Below w.heap.size w W) ho hp => learn_within (e0 := ⟨x, b, p, 0⟩) (w3 := w3) (ok := ok) h hb ho hp
  have h0 := h.1
  have hk : k < w.heap.size := block_lt_of_cell h0
  clear h
  go_enter Tryz.func52, Tryz.ntmps52
  go_wp2_with fail
  refine CC.out.mono ?_
  rintro e w1 ⟨rfl, hb1⟩
  have k1 := cell_later hb1 h0
  have hz1 := hb1.size
  have hk1 : k < w1.heap.size := by omega
  clear CC h0
  go_wp2_with fail
  generalize hW : w1.alloc _ = W
  have hBW : Below w.heap.size w W := by rw [← hW]; exact hb1.alloc hz1 _
  have b0 : W.heap[w1.heap.size]? = some (.cells #[.int .i64 x, .string b] 129 (0, 0)) := by rw [← hW]; exact alloc_new _ _
  have c0 : W.cell? ⟨w1.heap.size, 0, none⟩ = some (.int .i64 x) := cell_in_row b0 rfl
  have c1 : W.cell? ⟨w1.heap.size, 1, none⟩ = some (.string b) := cell_in_row b0 rfl
  have k2 : W.cell? ⟨k, 0, none⟩ = some (.pointer (some ⟨m, 0, none⟩)) := by rw [← hW]; exact cell_later ((Below.refl _ w1).alloc (Nat.le_refl _) _) k1
  clear hW b0 k1
  go_region_with (first | (go_at_call 97; refine (CPut.out _ ?_).mono ?_; (exact (by repeat (first | exact Below.refl _ _ | assumption | refine Below.drewN ?_ | refine Below.drew ?_ | refine Below.setCell ?_ (by first | exact Nat.le_refl _ | omega | (simp; done) | (simp; omega)) _ | refine Below.alloc ?_ (by first | exact Nat.le_refl _ | omega | (simp; done) | (simp; omega)) _))); rintro e w3 ⟨ok, hok, rfl, hp⟩; have HL := hide (hD.out _ _ _ (by repeat (first | exact Below.refl _ _ | assumption | refine Below.drewN ?_ | refine Below.drew ?_ | refine Below.setCell ?_ (by first | exact Nat.le_refl _ | omega | (simp; done) | (simp; omega)) _ | refine Below.alloc ?_ (by first | exact Nat.le_refl _ | omega | (simp; done) | (simp; omega)) _)) hok hp)))
  all_goals go_end0
  all_goals exact ⟨rfl, HL.out⟩
end Go.Proofs.YtaejpejfmpbinaaGreatDoor

namespace Go.Proofs.YtaejpejfmpbinaaGreatDoor
open Go.RowKit
open Go.Sort (grow)

set_option maxRecDepth 100000 in
theorem mNew_any (w : World) : Calls Tryz.prog 47 #[] w fun e w' => ∃ k m, e = .returned (.pointer (some ⟨k, 0, none⟩)) ∧ w.heap.size ≤ k ∧ w.heap.size ≤ m ∧ KnownAt w' k m (.slice none 0 0) [] ∧ Below w.heap.size w w' := by
  have C := hide fun (W : World) => noPlaces_any W
  go_enter Tryz.func47, Tryz.ntmps47
  go_wp2_with (first | (go_at_call 65; refine (C.out _).mono ?_; rintro e w1 ⟨rfl, rfl⟩))
  go_ret
  obtain ⟨W, hW⟩ : ∃ W, W = w.alloc (.cells #[.func (.func 111) #[] #[], .slice none 0 0] 200) := ⟨_, rfl⟩
  have hM := mapQ_new w
  have hB : Below w.heap.size w W := by rw [hW]; exact (Below.refl _ w).alloc (Nat.le_refl _) _
  have hs : W.heap.size = w.heap.size + 1 := by rw [hW]; exact alloc_size _ _
  rw [← hW] at hM ⊢
  refine ⟨w.heap.size + 1, w.heap.size, rfl, by omega, Nat.le_refl _, ?_, hB.alloc (by omega) _⟩
  rw [← hs]
  have hn := alloc_new W
  exact ⟨cell_in_row (hn _) rfl, fun j => frz_row (hn _) j, hM.below ((Below.refl _ W).alloc (Nat.le_refl _) _), List.Pairwise.nil⟩
end Go.Proofs.YtaejpejfmpbinaaGreatDoor
