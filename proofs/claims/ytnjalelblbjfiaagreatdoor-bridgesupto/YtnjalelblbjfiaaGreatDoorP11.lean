import Derived.Test.YtnjalelblbjfiaaGreatDoorP10
namespace Go.Proofs.YtnjalelblbjfiaaGreatDoor
open Go.RowKit

theorem Laid.kept {X : Nat → Prop} {w w' : World} (hl : Laid w) (h : KeptBut X w w') (hX : ∀ x, X x → Foreign w x) : Laid w' := by
  have h0 : ¬ X 0 := by
    intro hx
    have c0 := hl.1
    have c1 := hl.2.1
    have c2 := hl.2.2.1
    rcases hX 0 hx with ⟨b2, q, fn, f, c, g0, g1, g2⟩ | ⟨fn, f, c, a, l, k, g0, g1⟩ | ⟨n, p, g0, g1⟩ | ⟨n, m, p, g0, g1, g2⟩ | ⟨o, ho, hco⟩ | ⟨hx0, cs, ct, cfr, ga, gb, gc, gd, gh, gs, g0, g1, g2, g3⟩
    · rw [g0] at c0; cases c0
    · rw [g0] at c0; cases c0
    · rw [g1] at c1; cases c1
    · rw [g2] at c2; cases c2
    · rw [noCell ho hco] at c0; cases c0
    · exact hx0 rfl
  have e : ∀ i, w'.cell? ⟨0, i, none⟩ = w.cell? ⟨0, i, none⟩ := fun i => World.cell?_of_block (a := ⟨0, i, none⟩) (h 0 hl.pos h0)
  simpa only [Laid, e] using hl

/-- A table: its block t, the maps' blocks b1 and b2, their slices, the entries by ID and by rank, what each tree was grown of. -/
structure Tab (w : World) (t b1 b2 : Nat) (sv1 sv2 : Value) (LI L : List Ent) (E : Nat → List Ent) : Prop where
  laid : Laid w
  c0 : w.cell? ⟨t, 0, none⟩ = some (.pointer (some ⟨b1, 0, none⟩))
  c1 : w.cell? ⟨t, 1, none⟩ = some (.pointer (some ⟨b2, 0, none⟩))
  tf : ∀ j, w.frozen? ⟨t, j, none⟩ = false
  mI : MapI w b1 sv1 LI
  sI : SortedI LI
  hI : HeadI w sv1
  mR : MapR w b2 sv2 L
  sR : Sorted L
  hR : HeadR w sv2
  ent : ∀ e ∈ L, EntAt w e.1 e.2 ∧ e.2.ok = true
  tree : ∀ h, h < 6 → ∃ tb, w.cell? ⟨t, 2 + h, none⟩ = some (.pointer (some ⟨tb, 0, none⟩)) ∧ TreeAt w 12 tb (E h)

/-- The blocks that a table's calls may change. -/
def Mine (t b1 b2 : Nat) (sv1 sv2 : Value) (x : Nat) : Prop := x = t ∨ (x = b1 ∨ sv1.ownBlock = some x) ∨ (x = b2 ∨ sv2.ownBlock = some x)

section
variable {w w' : World} {t b1 b2 : Nat} {sv1 sv2 : Value} {LI L : List Ent} {E : Nat → List Ent}

/-- Nothing that is the table's turned: it is as it was. -/
theorem Tab.kept {X : Nat → Prop} (h : Tab w t b1 b2 sv1 sv2 LI L E) (hb : Chg X w w') (hX : ∀ x, X x → Foreign w x) (hM : ∀ x, Mine t b1 b2 sv1 sv2 x → ¬ X x) : Tab w' t b1 b2 sv1 sv2 LI L E := by
  have ht := hM t (.inl rfl)
  refine ⟨h.laid.kept hb.block hX, hb.block.cell ht h.c0, hb.block.cell ht h.c1, fun j => (World.frozen?_of_block (a := ⟨t, j, none⟩) (hb.block t (block_lt_of_cell h.c0) ht)).trans (h.tf j), h.mI.chg h.hI hb (hM b1 (.inr (.inl (.inl rfl)))) (fun g hg => hM g (.inr (.inl (.inr hg)))), h.sI, h.hI.chg hb (fun g hg => hM g (.inr (.inl (.inr hg)))),
    h.mR.chg h.hR hb (hM b2 (.inr (.inr (.inl rfl)))) (fun g hg => hM g (.inr (.inr (.inr hg)))), h.sR, h.hR.chg hb (fun g hg => hM g (.inr (.inr (.inr hg)))), fun e he => ⟨(h.ent e he).1.kept hb.block hX, (h.ent e he).2⟩, fun k hk => ?_⟩
  obtain ⟨tb, c, T⟩ := h.tree k hk
  exact ⟨tb, hb.block.cell ht c, T.kept hb.block hX⟩
theorem Tab.below {B : Nat} (h : Tab w t b1 b2 sv1 sv2 LI L E) (hb : Below B w w') (hB : w.heap.size ≤ B) : Tab w' t b1 b2 sv1 sv2 LI L E :=
  h.kept (X := fun _ => False) (Chg.of_below (hb.mono hB)) (fun _ h => h.elim) fun _ _ h => h

end

end Go.Proofs.YtnjalelblbjfiaaGreatDoor

namespace Go.Proofs.YtnjalelblbjfiaaGreatDoor
open Go.RowKit

/-- A table with the rules L; F are the blocks that its calls may change. -/
def TabIs (w : World) (t : Nat) (F : Nat → Prop) (L : List Ent) : Prop :=
  ∃ b1 b2 sv1 sv2 LI, Tab w t b1 b2 sv1 sv2 LI L (fun h => flt h L) ∧ (∀ x, x ∈ LI ↔ x ∈ L) ∧ LI.length = L.length ∧ F = Mine t b1 b2 sv1 sv2

theorem homeStep_range {h m i n : Int} (hh : 0 ≤ h ∧ h < 6) (hi : 0 ≤ i ∧ i < 6) : 0 ≤ (homeStep h m i n).1 ∧ (homeStep h m i n).1 < 6 := by
  unfold homeStep
  split
  · exact hi
  · exact hh
theorem home_upTo (r : Rl) : ∀ n : Nat, n ≤ 5 → 0 ≤ (homeUpTo r n).1 ∧ (homeUpTo r n).1 < 6
  | 0, _ => by simp [homeUpTo]
  | n + 1, hn => homeStep_range (home_upTo r n (by omega)) ⟨by omega, by omega⟩
theorem home_nat (r : Rl) : ∃ k : Nat, k < 6 ∧ r.home = k := by
  have h := home_upTo r 5 (Nat.le_refl _)
  exact ⟨r.home.toNat, by unfold Rl.home; omega, by unfold Rl.home; omega⟩

end Go.Proofs.YtnjalelblbjfiaaGreatDoor

namespace Go.Proofs.YtnjalelblbjfiaaGreatDoor
open Go.RowKit
open Go.Sort (grow)

theorem TabIs.still {w w' : World} {t : Nat} {F : Nat → Prop} {L : List Ent} (h : TabIs w t F L) (hb : Below w.heap.size w w') : TabIs w' t F L := by
  obtain ⟨b1, b2, sv1, sv2, LI, T, hm, hlen, rfl⟩ := h
  exact ⟨b1, b2, sv1, sv2, LI, T.below hb (Nat.le_refl _), hm, hlen, rfl⟩
theorem rangeAt_below {w w' : World} {b o : Nat} {cs : List Value} (h : w.rangeAt b o cs) (hb : Below w.heap.size w w') : w'.rangeAt b o cs := fun j v hv => (hb.cell (p := ⟨b, o + j, none⟩) (block_lt_of_cell (h j v hv))).trans (h j v hv)

attribute [local go_sem] cell?_regrown

end Go.Proofs.YtnjalelblbjfiaaGreatDoor

namespace Go.Proofs.YtnjalelblbjfiaaGreatDoor
open Go.RowKit
open Go.Sort (grow)

set_option maxRecDepth 100000 in
set_option maxHeartbeats 1000000 in
theorem find_none (t : Nat) (x0 x1 x2 x3 x4 : Int) (w : World) (hl : Laid w) (hk : keyB x0 x1 x2 x3 x4 = false) :
    Calls Tryz.prog 16 #[.pointer (some ⟨t, 0, none⟩), .agg #[.int .i64 x0, .int .i64 x1, .int .i64 x2, .int .i64 x3, .int .i64 x4]] w fun e w' => e = .returned (.tuple #[.int .i64 0, .int .i64 4]) ∧ Below w.heap.size w w' := by
  go_enter Tryz.func16, Tryz.ntmps16
  go_wp2_with fail
  refine (isKey_any _ _ _ _ _ _ (hl.below ((Below.refl _ _).alloc (Nat.le_refl _) _) hl.pos)).mono ?_
  rintro e w1 ⟨rfl, hb1⟩
  rw [hk]
  go_wp2
  go_ret2
  exact ⟨rfl, Below.trans (by repeat (first | exact Below.refl _ _ | assumption | refine Below.drewN ?_ | refine Below.drew ?_ | refine Below.setCell ?_ (by first | exact Nat.le_refl _ | omega | (simp; done) | (simp; omega)) _ | refine Below.alloc ?_ (by first | exact Nat.le_refl _ | omega | (simp; done) | (simp; omega)) _)) (hb1.mono (by first | exact Nat.le_refl _ | omega | (simp; done) | (simp; omega)))⟩

/-- What Find answers: the rule's ID and 0; 0 and 7, if there is none; 0 and 4, if the key is none. -/
def FindIs (L : List Ent) (x0 x1 x2 x3 x4 : Int) (a b : Int) : Prop :=
  if keyB x0 x1 x2 x3 x4 = true then ∃ res, Foremost (fun e => e ∈ L) x0 x1 x2 x3 x4 res ∧ a = (match res with | some r => r.2.id | none => 0) ∧ b = (match res with | some _ => 0 | none => 7) else a = 0 ∧ b = 4

theorem tfind_any (t : Nat) (x0 x1 x2 x3 x4 : Int) (w : World) (F : Nat → Prop) (L : List Ent) (h : TabIs w t F L) :
    Calls Tryz.prog 16 #[.pointer (some ⟨t, 0, none⟩), .agg #[.int .i64 x0, .int .i64 x1, .int .i64 x2, .int .i64 x3, .int .i64 x4]] w fun e w' => ∃ a b, e = .returned (.tuple #[.int .i64 a, .int .i64 b]) ∧ FindIs L x0 x1 x2 x3 x4 a b ∧ Below w.heap.size w w' := by
  obtain ⟨b1, b2, sv1, sv2, LI, T, hm, hlen, rfl⟩ := h
  by_cases hk : keyB x0 x1 x2 x3 x4 = true
  · have hex : ∀ h : Nat, ∃ tb, h < 6 → w.cell? ⟨t, 2 + h, none⟩ = some (.pointer (some ⟨tb, 0, none⟩)) ∧ TreeAt w 12 tb (flt h L) := fun h => by
      by_cases hh : h < 6
      · obtain ⟨tb, c⟩ := T.tree h hh
        exact ⟨tb, fun _ => c⟩
      · exact ⟨0, fun h => absurd h hh⟩
    have := Classical.axiomOfChoice hex
    obtain ⟨tb, htb⟩ := this
    refine (find_key t x0 x1 x2 x3 x4 w T.laid hk tb (fun h => flt h L) (fun h hh => (htb h hh).1) (fun h hh => ⟨(htb h hh).2, T.sR.filter _, Nat.le_trans (List.length_filter_le _ _) T.mR.2.2.2.2, fun e he => T.ent e (List.mem_filter.1 he).1⟩)).mono ?_
    rintro e w' ⟨res, hf, rfl, hb⟩
    refine ⟨_, _, rfl, ?_, hb⟩
    unfold FindIs
    rw [if_pos hk]
    refine ⟨res, hf.congr fun e => ⟨fun ⟨h, _, he⟩ => (List.mem_filter.1 he).1, fun he => ?_⟩, rfl, rfl⟩
    obtain ⟨k, hk6, hk⟩ := home_nat e.2
    exact ⟨k, hk6, List.mem_filter.2 ⟨he, by simp [hk]⟩⟩
  · have hk' : keyB x0 x1 x2 x3 x4 = false := by simpa using hk
    refine (find_none t x0 x1 x2 x3 x4 w T.laid hk').mono ?_
    rintro e w' ⟨rfl, hb⟩
    refine ⟨0, 4, rfl, ?_, hb⟩
    unfold FindIs
    rw [if_neg hk]
    exact ⟨rfl, rfl⟩

/-- A table that is being made: k of its trees have been grown. -/
structure Pre (w : World) (t b1 b2 k : Nat) : Prop where
  laid : Laid w
  c0 : w.cell? ⟨t, 0, none⟩ = some (.pointer (some ⟨b1, 0, none⟩))
  c1 : w.cell? ⟨t, 1, none⟩ = some (.pointer (some ⟨b2, 0, none⟩))
  tf : ∀ j, w.frozen? ⟨t, j, none⟩ = false
  mI : MapI w b1 (.slice none 0 0) []
  mR : MapR w b2 (.slice none 0 0) []
  raw : ∀ h, h < 6 → ∃ p, w.cell? ⟨t, 2 + h, none⟩ = some (.pointer p)
  tree : ∀ h, h < k → ∃ tb, w.cell? ⟨t, 2 + h, none⟩ = some (.pointer (some ⟨tb, 0, none⟩)) ∧ TreeAt w 12 tb []

theorem headI_nil (w : World) : HeadI w (.slice none 0 0) := fun _ h => by cases h
theorem headR_nil (w : World) : HeadR w (.slice none 0 0) := fun _ h => by cases h

theorem Pre.regrow {w : World} {t b1 b2 k : Nat} (h : Pre w t b1 b2 k) (hk : k < 6) :
    Calls Tryz.prog 36 #[.pointer (some ⟨t, 0, none⟩), .int .i64 k] w fun e w' => e = .returned (.tuple #[]) ∧ Pre w' t b1 b2 (k + 1) ∧ Chg (fun x => x = t) w w' := by
  have hF : Foreign w t := .inl ⟨b1, _, _, _, _, h.c0, h.c1, h.mI.1⟩
  have hX : ∀ x, x = t → Foreign w x := fun x hx => hx ▸ hF
  have n1 : b1 ≠ t := by
    rintro rfl
    have := h.mI.1
    rw [h.c0] at this; cases this
  have n2 : b2 ≠ t := by
    rintro rfl
    have := h.mR.1
    rw [h.c0] at this; cases this
  refine (regrow_any t b2 k hk (.slice none 0 0) w h.laid [] (by simp) h.c1 h.mR.2.1 ⟨none, 0, rfl, fun j hj => by simp at hj⟩ (h.raw k hk) h.tf hF).mono ?_
  rintro e w' ⟨rfl, b, hT, hb, hc, hf⟩
  refine ⟨rfl, ⟨h.laid.kept hb.block hX, (hc 0).trans ((if_neg (by omega)).trans h.c0), (hc 1).trans ((if_neg (by omega)).trans h.c1), fun j => (hf j).trans (h.tf j), h.mI.chg (headI_nil w) hb n1 (fun g hg => by cases hg), h.mR.chg (headR_nil w) hb n2 (fun g hg => by cases hg), fun j hj => ?_, fun j hj => ?_⟩, hb⟩
  · by_cases hjk : j = k
    · exact ⟨_, (hc _).trans (if_pos (by omega))⟩
    · obtain ⟨p, c⟩ := h.raw j hj
      exact ⟨p, (hc _).trans ((if_neg (by omega)).trans c)⟩
  · by_cases hjk : j = k
    · exact ⟨b, (hc _).trans (if_pos (by omega)), hT⟩
    · obtain ⟨tb, c, T⟩ := h.tree j (by omega)
      exact ⟨tb, (hc _).trans ((if_neg (by omega)).trans c), T.kept hb.block hX⟩

theorem Pre.done {w : World} {t b1 b2 : Nat} (h : Pre w t b1 b2 6) : TabIs w t (Mine t b1 b2 (.slice none 0 0) (.slice none 0 0)) [] :=
  ⟨b1, b2, .slice none 0 0, .slice none 0 0, [], ⟨h.laid, h.c0, h.c1, h.tf, h.mI, List.Pairwise.nil, headI_nil w, h.mR, List.Pairwise.nil, headR_nil w, (fun e he => by cases he), h.tree⟩, fun _ => Iff.rfl, rfl, rfl⟩

theorem Pre.start (w : World) (hl : Laid w) (t1 t2 t3 : TypeId) : Pre (((w.alloc (.cells #[.func (.func 33) #[] #[], .slice none 0 0] t1)).alloc (.cells #[.func (.func 35) #[] #[], .slice none 0 0] t2)).alloc (.cells #[.pointer (some ⟨w.heap.size, 0, none⟩), .pointer (some ⟨w.heap.size + 1, 0, none⟩), .pointer none, .pointer none, .pointer none, .pointer none, .pointer none, .pointer none] t3)) (w.heap.size + 1 + 1) w.heap.size (w.heap.size + 1) 0 := by
  obtain ⟨W1, h1⟩ : ∃ W1, W1 = w.alloc (.cells #[.func (.func 33) #[] #[], .slice none 0 0] t1) := ⟨_, rfl⟩
  rw [← h1]
  have s1 : W1.heap.size = w.heap.size + 1 := by rw [h1]; exact alloc_size _ _
  have n1 : W1.heap[w.heap.size]? = some (.cells #[.func (.func 33) #[] #[], .slice none 0 0] t1 (0, 0)) := by rw [h1]; exact alloc_new _ _
  have b1 : Below w.heap.size w W1 := by rw [h1]; exact (Below.refl _ w).alloc (Nat.le_refl _) _
  obtain ⟨W2, h2⟩ : ∃ W2, W2 = W1.alloc (.cells #[.func (.func 35) #[] #[], .slice none 0 0] t2) := ⟨_, rfl⟩
  rw [← h2]
  have s2 : W2.heap.size = w.heap.size + 1 + 1 := by rw [h2, alloc_size, s1]
  have n2 : W2.heap[w.heap.size + 1]? = some (.cells #[.func (.func 35) #[] #[], .slice none 0 0] t2 (0, 0)) := by rw [h2, ← s1]; exact alloc_new _ _
  have b2 : Below W1.heap.size W1 W2 := by rw [h2]; exact (Below.refl _ W1).alloc (Nat.le_refl _) _
  obtain ⟨W3, h3⟩ : ∃ W3, W3 = W2.alloc (.cells #[.pointer (some ⟨w.heap.size, 0, none⟩), .pointer (some ⟨w.heap.size + 1, 0, none⟩), .pointer none, .pointer none, .pointer none, .pointer none, .pointer none, .pointer none] t3) := ⟨_, rfl⟩
  rw [← h3]
  have n3 : W3.heap[w.heap.size + 1 + 1]? = some (.cells #[.pointer (some ⟨w.heap.size, 0, none⟩), .pointer (some ⟨w.heap.size + 1, 0, none⟩), .pointer none, .pointer none, .pointer none, .pointer none, .pointer none, .pointer none] t3 (0, 0)) := by rw [h3, ← s2]; exact alloc_new _ _
  have b3 : Below W2.heap.size W2 W3 := by rw [h3]; exact (Below.refl _ W2).alloc (Nat.le_refl _) _
  have m1 : W3.heap[w.heap.size]? = some (.cells #[.func (.func 33) #[] #[], .slice none 0 0] t1 (0, 0)) := (b3.block _ (by omega)).trans ((b2.block _ (by omega)).trans n1)
  have m2 : W3.heap[w.heap.size + 1]? = some (.cells #[.func (.func 35) #[] #[], .slice none 0 0] t2 (0, 0)) := (b3.block _ (by omega)).trans n2
  have fr : ∀ {b : Nat} {cs : Array Value} {t : TypeId}, W3.heap[b]? = some (.cells cs t (0, 0)) → ∀ j, W3.frozen? ⟨b, j, none⟩ = false := fun h j => by simp [World.frozen?, h]
  refine ⟨((hl.below b1 hl.pos).below b2 (by omega)).below b3 (by omega), cell_in_row n3 rfl, cell_in_row n3 rfl, fr n3, ⟨cell_in_row m1 rfl, cell_in_row m1 rfl, ⟨rfl, .inl ⟨rfl, rfl⟩⟩, fr m1, by simp⟩, ⟨cell_in_row m2 rfl, cell_in_row m2 rfl, ⟨rfl, .inl ⟨rfl, rfl⟩⟩, fr m2, by simp⟩, fun h hh => ?_, fun h hh => absurd hh (by omega)⟩
  match h, hh with
  | 0, _ => exact ⟨_, cell_in_row n3 rfl⟩
  | 1, _ => exact ⟨_, cell_in_row n3 rfl⟩
  | 2, _ => exact ⟨_, cell_in_row n3 rfl⟩
  | 3, _ => exact ⟨_, cell_in_row n3 rfl⟩
  | 4, _ => exact ⟨_, cell_in_row n3 rfl⟩
  | 5, _ => exact ⟨_, cell_in_row n3 rfl⟩
  | n + 6, h => exact absurd h (by omega)

set_option maxRecDepth 100000 in
set_option maxHeartbeats 1000000 in
theorem tnew_any (w : World) (hl : Laid w) :
    Calls Tryz.prog 14 #[] w fun e w' => ∃ t F, e = .returned (.pointer (some ⟨t, 0, none⟩)) ∧ TabIs w' t F [] ∧ (∀ x, F x → w.heap.size ≤ x) ∧ Below w.heap.size w w' := by
  have HP := hide (Pre.start w hl 169 172 106)
  clear hl
  go_enter Tryz.func14, Tryz.ntmps14
  go_wp2_with (first | (go_at_call 32; refine (newI_any _).mono ?_; rintro e w' ⟨rfl, rfl⟩) | (go_at_call 34; refine (newR_any _).mono ?_; rintro e w' ⟨rfl, rfl⟩))
  go_loopw [7] (fun i wr => ∃ k : Nat, k ≤ 6 ∧ i = .int .i64 k ∧ Below w.heap.size w wr ∧ Pre wr (w.heap.size + 1 + 1) w.heap.size (w.heap.size + 1) k) (fun i _ => 6 - (intOf i).toNat)
  case atStart => exact ⟨0, by omega, rfl, (by repeat (first | exact Below.refl _ _ | assumption | refine Below.drewN ?_ | refine Below.drew ?_ | refine Below.setCell ?_ (by first | exact Nat.le_refl _ | omega | (simp; done) | (simp; omega)) _ | refine Below.alloc ?_ (by first | exact Nat.le_refl _ | omega | (simp; done) | (simp; omega)) _)), HP.out⟩
  case round =>
    obtain ⟨k, hk, rfl, hb, hp⟩ := hrel
    by_cases hk6 : k < 6
    · have CR := hide (hp.regrow hk6)
      have hki : (k : Int) < 6 := by omega
      have HB := hide hb
      clear hb hp HP
      go_wp2_with (first | (go_at_call 36; refine CR.out.mono ?_; rintro e w2 ⟨rfl, hP2, hC2⟩; have P2 := hide hP2; have C2 := hide hC2; clear hP2 hC2))
      go_roundw
      case rel => exact ⟨k + 1, by omega, by go_num, HB.out.trans (C2.out.below HB.out.size (fun x hx => by omega)), P2.out⟩
      case measure => simp [intOf]; omega
    · obtain rfl : k = 6 := by omega
      have HPP := hide hp
      have HB := hide hb
      clear hb hp HP
      go_wp2
      go_ret
      refine ⟨_, _, rfl, HPP.out.done, ?_, HB.out⟩
      rintro x (h | (h | h) | (h | h))
      · omega
      · omega
      · cases h
      · omega
      · cases h

end Go.Proofs.YtnjalelblbjfiaaGreatDoor
