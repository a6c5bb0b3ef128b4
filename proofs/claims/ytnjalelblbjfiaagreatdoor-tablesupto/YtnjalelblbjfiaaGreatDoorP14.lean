import Derived.Test.YtnjalelblbjfiaaGreatDoorP13
namespace Go.Proofs.YtnjalelblbjfiaaGreatDoor
open Go.RowKit

theorem Laid.kept {X : Nat → Prop} {w w' : World} (hl : Laid w) (h : KeptBut X w w') (hX : ∀ x, X x → Foreign w x) : Laid w' := by
  have h0 : ¬ X 0 := by
    intro hx
    have c0 := hl.1
    have c1 := hl.2.1
    have c2 := hl.2.2.1
    rcases hX 0 hx with ⟨b2, q, fn, f, c, g0, g1, g2⟩ | ⟨fn, f, c, a, l, k, g0, g1⟩ | ⟨n, p, g0, g1⟩ | ⟨n, m, p, g0, g1, g2⟩ | ⟨o, ho, hco⟩ | ⟨hx0, cs, ct, cfr, ga, gb, gc, gd, gh, gs, g0, g1, g2, g3⟩
    · rw [g0] at c0; cases c0
    · rw [g0] at c0; cases c0
    · rw [g1] at c1; cases c1
    · rw [g2] at c2; cases c2
    · rw [noCell ho hco] at c0; cases c0
    · exact hx0 rfl
  have e : ∀ i, w'.cell? ⟨0, i, none⟩ = w.cell? ⟨0, i, none⟩ := fun i => World.cell?_of_block (a := ⟨0, i, none⟩) (h 0 hl.pos h0)
  simpa only [Laid, e] using hl

theorem sorted_ext : ∀ {A B : List Ent}, Sorted A → Sorted B → (∀ x, x ∈ A ↔ x ∈ B) → A = B
  | [], [], _, _, _ => rfl
  | [], b :: B, _, _, h => absurd ((h b).2 (by simp)) (by simp)
  | a :: A, [], _, _, h => absurd ((h a).1 (by simp)) (by simp)
  | a :: A, b :: B, ha, hb, h => by
    have ha' := List.pairwise_cons.1 ha
    have hb' := List.pairwise_cons.1 hb
    have e : a = b := by
      rcases List.mem_cons.1 ((h a).1 (by simp)) with e | h1
      · exact e
      · rcases List.mem_cons.1 ((h b).2 (by simp)) with e | h2
        · exact e.symm
        · have x1 := hb'.1 a h1
          have x2 := ha'.1 b h2
          rw [Rl.before_asymm x1] at x2
          cases x2
    subst e
    congr 1
    refine sorted_ext ha'.2 hb'.2 fun x => ⟨fun hx => ?_, fun hx => ?_⟩
    · rcases List.mem_cons.1 ((h x).1 (List.mem_cons_of_mem _ hx)) with e | h1
      · subst e
        have := ha'.1 x hx
        rw [Rl.before_irrefl] at this; cases this
      · exact h1
    · rcases List.mem_cons.1 ((h x).2 (List.mem_cons_of_mem _ hx)) with e | h1
      · subst e
        have := hb'.1 x hx
        rw [Rl.before_irrefl] at this; cases this
      · exact h1

/-- A table: its block t, the maps' blocks b1 and b2, their slices, the entries by ID and by rank, what each tree was grown of. -/
structure Tab (w : World) (t b1 b2 : Nat) (sv1 sv2 : Value) (LI L : List Ent) (E : Nat → List Ent) : Prop where
  laid : Laid w
  c0 : w.cell? ⟨t, 0, none⟩ = some (.pointer (some ⟨b1, 0, none⟩))
  c1 : w.cell? ⟨t, 1, none⟩ = some (.pointer (some ⟨b2, 0, none⟩))
  tf : ∀ j, w.frozen? ⟨t, j, none⟩ = false
  mI : MapI w b1 sv1 LI
  sI : SortedI LI
  hI : HeadI w sv1
  mR : MapR w b2 sv2 L
  sR : Sorted L
  hR : HeadR w sv2
  ent : ∀ e ∈ L, EntAt w e.1 e.2 ∧ e.2.ok = true
  tree : ∀ h, h < 6 → ∃ tb, w.cell? ⟨t, 2 + h, none⟩ = some (.pointer (some ⟨tb, 0, none⟩)) ∧ TreeAt w 12 tb (E h)

/-- The blocks that a table's calls may change. -/
def Mine (t b1 b2 : Nat) (sv1 sv2 : Value) (x : Nat) : Prop := x = t ∨ (x = b1 ∨ sv1.ownBlock = some x) ∨ (x = b2 ∨ sv2.ownBlock = some x)

section
variable {w w' : World} {t b1 b2 : Nat} {sv1 sv2 : Value} {LI L : List Ent} {E : Nat → List Ent}

theorem Tab.slice1 (h : Tab w t b1 b2 sv1 sv2 LI L E) : ∃ a n k, sv1 = .slice a n k := by
  rcases h.mI.2.2.1.2 with ⟨e, _⟩ | ⟨g, c, cur, e, _⟩ <;> exact ⟨_, _, _, e⟩
theorem Tab.slice2 (h : Tab w t b1 b2 sv1 sv2 LI L E) : ∃ a n k, sv2 = .slice a n k := by
  rcases h.mR.2.2.1.2 with ⟨e, _⟩ | ⟨g, c, cur, e, _⟩ <;> exact ⟨_, _, _, e⟩
theorem Tab.foreignT (h : Tab w t b1 b2 sv1 sv2 LI L E) : Foreign w t := .inl ⟨b1, _, _, _, _, h.c0, h.c1, h.mI.1⟩
theorem Tab.foreign1 (h : Tab w t b1 b2 sv1 sv2 LI L E) {x : Nat} (hx : x = b1 ∨ sv1.ownBlock = some x) : Foreign w x := by
  rcases hx with rfl | hx
  · obtain ⟨a, n, k, e⟩ := h.slice1
    have := h.mI.2.1
    rw [e] at this
    exact .inr (.inl ⟨_, _, _, _, _, _, h.mI.1, this⟩)
  · exact h.hI.foreign hx
theorem Tab.foreign2 (h : Tab w t b1 b2 sv1 sv2 LI L E) {x : Nat} (hx : x = b2 ∨ sv2.ownBlock = some x) : Foreign w x := by
  rcases hx with rfl | hx
  · obtain ⟨a, n, k, e⟩ := h.slice2
    have := h.mR.2.1
    rw [e] at this
    exact .inr (.inl ⟨_, _, _, _, _, _, h.mR.1, this⟩)
  · exact h.hR.foreign hx
theorem Tab.foreign (h : Tab w t b1 b2 sv1 sv2 LI L E) {x : Nat} (hx : Mine t b1 b2 sv1 sv2 x) : Foreign w x := by
  rcases hx with rfl | hx | hx
  · exact h.foreignT
  · exact h.foreign1 hx
  · exact h.foreign2 hx
/-- The first map's blocks are none of the second's, nor the table's. -/
theorem Tab.apart12 (h : Tab w t b1 b2 sv1 sv2 LI L E) {x : Nat} (hx : x = b1 ∨ sv1.ownBlock = some x) : ¬ (x = b2 ∨ sv2.ownBlock = some x) := by
  have m1 := h.mI.1
  have m2 := h.mR.1
  rintro (hy | hy)
  · subst hy
    rcases hx with hx | hx
    · rw [hx, m1] at m2; cases m2
    · obtain ⟨n, p, c0, _⟩ := h.hI _ hx; rw [m2] at c0; cases c0
  · obtain ⟨n, n', p, c0, c1, _⟩ := h.hR _ hy
    rcases hx with hx | hx
    · rw [hx, m1] at c0; cases c0
    · obtain ⟨k, q, d0, d1⟩ := h.hI _ hx; rw [c1] at d1; cases d1
theorem Tab.apart1t (h : Tab w t b1 b2 sv1 sv2 LI L E) {x : Nat} (hx : x = b1 ∨ sv1.ownBlock = some x) : x ≠ t := by
  rintro rfl
  have m1 := h.mI.1
  have c0 := h.c0
  rcases hx with hx | hx
  · rw [← hx, c0] at m1; cases m1
  · obtain ⟨n, p, d0, _⟩ := h.hI _ hx; rw [c0] at d0; cases d0
theorem Tab.apart2t (h : Tab w t b1 b2 sv1 sv2 LI L E) {x : Nat} (hx : x = b2 ∨ sv2.ownBlock = some x) : x ≠ t := by
  rintro rfl
  have m1 := h.mR.1
  have c0 := h.c0
  rcases hx with hx | hx
  · rw [← hx, c0] at m1; cases m1
  · obtain ⟨n, n', p, d0, _⟩ := h.hR _ hx; rw [c0] at d0; cases d0

/-- Nothing that is the table's turned: it is as it was. -/
theorem Tab.kept {X : Nat → Prop} (h : Tab w t b1 b2 sv1 sv2 LI L E) (hb : Chg X w w') (hX : ∀ x, X x → Foreign w x) (hM : ∀ x, Mine t b1 b2 sv1 sv2 x → ¬ X x) : Tab w' t b1 b2 sv1 sv2 LI L E := by
  have ht := hM t (.inl rfl)
  refine ⟨h.laid.kept hb.block hX, hb.block.cell ht h.c0, hb.block.cell ht h.c1, fun j => (World.frozen?_of_block (a := ⟨t, j, none⟩) (hb.block t (block_lt_of_cell h.c0) ht)).trans (h.tf j), h.mI.chg h.hI hb (hM b1 (.inr (.inl (.inl rfl)))) (fun g hg => hM g (.inr (.inl (.inr hg)))), h.sI, h.hI.chg hb (fun g hg => hM g (.inr (.inl (.inr hg)))),
    h.mR.chg h.hR hb (hM b2 (.inr (.inr (.inl rfl)))) (fun g hg => hM g (.inr (.inr (.inr hg)))), h.sR, h.hR.chg hb (fun g hg => hM g (.inr (.inr (.inr hg)))), fun e he => ⟨(h.ent e he).1.kept hb.block hX, (h.ent e he).2⟩, fun k hk => ?_⟩
  obtain ⟨tb, c, T⟩ := h.tree k hk
  exact ⟨tb, hb.block.cell ht c, T.kept hb.block hX⟩
theorem Tab.below {B : Nat} (h : Tab w t b1 b2 sv1 sv2 LI L E) (hb : Below B w w') (hB : w.heap.size ≤ B) : Tab w' t b1 b2 sv1 sv2 LI L E :=
  h.kept (X := fun _ => False) (Chg.of_below (hb.mono hB)) (fun _ h => h.elim) fun _ _ h => h

/-- The first map has turned. -/
theorem Tab.set1 (h : Tab w t b1 b2 sv1 sv2 LI L E) {sv1' : Value} {LI' : List Ent} (hb : Chg (fun x => x = b1 ∨ sv1.ownBlock = some x) w w') (hm : MapI w' b1 sv1' LI') (hs : SortedI LI') (hh : HeadI w' sv1') : Tab w' t b1 b2 sv1' sv2 LI' L E := by
  have hX : ∀ x, (x = b1 ∨ sv1.ownBlock = some x) → Foreign w x := fun x hx => h.foreign1 hx
  have ht : ¬ (t = b1 ∨ sv1.ownBlock = some t) := fun hx => h.apart1t hx rfl
  have h2 : ∀ x, (x = b2 ∨ sv2.ownBlock = some x) → ¬ (x = b1 ∨ sv1.ownBlock = some x) := fun x hx hy => h.apart12 hy hx
  refine ⟨h.laid.kept hb.block hX, hb.block.cell ht h.c0, hb.block.cell ht h.c1, fun j => (World.frozen?_of_block (a := ⟨t, j, none⟩) (hb.block t (block_lt_of_cell h.c0) ht)).trans (h.tf j), hm, hs, hh,
    h.mR.chg h.hR hb (h2 b2 (.inl rfl)) (fun g hg => h2 g (.inr hg)), h.sR, h.hR.chg hb (fun g hg => h2 g (.inr hg)), fun e he => ⟨(h.ent e he).1.kept hb.block hX, (h.ent e he).2⟩, fun k hk => ?_⟩
  obtain ⟨tb, c, T⟩ := h.tree k hk
  exact ⟨tb, hb.block.cell ht c, T.kept hb.block hX⟩

/-- The second map has turned. -/
theorem Tab.set2 (h : Tab w t b1 b2 sv1 sv2 LI L E) {sv2' : Value} {L' : List Ent} (hb : Chg (fun x => x = b2 ∨ sv2.ownBlock = some x) w w') (hm : MapR w' b2 sv2' L') (hs : Sorted L') (hh : HeadR w' sv2') (he : ∀ e ∈ L', EntAt w e.1 e.2 ∧ e.2.ok = true) : Tab w' t b1 b2 sv1 sv2' LI L' E := by
  have hX : ∀ x, (x = b2 ∨ sv2.ownBlock = some x) → Foreign w x := fun x hx => h.foreign2 hx
  have ht : ¬ (t = b2 ∨ sv2.ownBlock = some t) := fun hx => h.apart2t hx rfl
  have h1 : ∀ x, (x = b1 ∨ sv1.ownBlock = some x) → ¬ (x = b2 ∨ sv2.ownBlock = some x) := fun x hx => h.apart12 hx
  refine ⟨h.laid.kept hb.block hX, hb.block.cell ht h.c0, hb.block.cell ht h.c1, fun j => (World.frozen?_of_block (a := ⟨t, j, none⟩) (hb.block t (block_lt_of_cell h.c0) ht)).trans (h.tf j),
    h.mI.chg h.hI hb (h1 b1 (.inl rfl)) (fun g hg => h1 g (.inr hg)), h.sI, h.hI.chg hb (fun g hg => h1 g (.inr hg)), hm, hs, hh, fun e hm => ⟨(he e hm).1.kept hb.block hX, (he e hm).2⟩, fun k hk => ?_⟩
  obtain ⟨tb, c, T⟩ := h.tree k hk
  exact ⟨tb, hb.block.cell ht c, T.kept hb.block hX⟩

/-- A tree has been grown anew. -/
theorem Tab.setT (h : Tab w t b1 b2 sv1 sv2 LI L E) {k b : Nat} {es : List Ent} (hb : Chg (fun x => x = t) w w') (hT : TreeAt w' 12 b es) (hc : ∀ j, w'.cell? ⟨t, j, none⟩ = if j = 2 + k then some (.pointer (some ⟨b, 0, none⟩)) else w.cell? ⟨t, j, none⟩) (hf : ∀ j, w'.frozen? ⟨t, j, none⟩ = w.frozen? ⟨t, j, none⟩) :
    Tab w' t b1 b2 sv1 sv2 LI L (fun j => if j = k then es else E j) := by
  have hX : ∀ x, x = t → Foreign w x := fun x hx => hx ▸ h.foreignT
  refine ⟨h.laid.kept hb.block hX, (hc 0).trans ((if_neg (by omega)).trans h.c0), (hc 1).trans ((if_neg (by omega)).trans h.c1), fun j => (hf j).trans (h.tf j),
    h.mI.chg h.hI hb (fun e => h.apart1t (.inl rfl) e) (fun g hg e => h.apart1t (.inr hg) e), h.sI, h.hI.chg hb (fun g hg e => h.apart1t (.inr hg) e), h.mR.chg h.hR hb (fun e => h.apart2t (.inl rfl) e) (fun g hg e => h.apart2t (.inr hg) e), h.sR, h.hR.chg hb (fun g hg e => h.apart2t (.inr hg) e),
    fun e he => ⟨(h.ent e he).1.kept hb.block hX, (h.ent e he).2⟩, fun j hj => ?_⟩
  by_cases hjk : j = k
  · refine ⟨b, (hc _).trans (if_pos (by omega)), ?_⟩
    simpa only [if_pos hjk] using hT
  · obtain ⟨tb, c, T⟩ := h.tree j hj
    refine ⟨tb, (hc _).trans ((if_neg (by omega)).trans c), ?_⟩
    simpa only [if_neg hjk] using T.kept hb.block hX
end

/-- regrow over a table. -/
theorem Tab.regrow {w : World} {t b1 b2 : Nat} {sv1 sv2 : Value} {LI L : List Ent} {E : Nat → List Ent} (h : Tab w t b1 b2 sv1 sv2 LI L E) (k : Nat) (hk : k < 6) :
    Calls Tryz.prog 36 #[.pointer (some ⟨t, 0, none⟩), .int .i64 k] w fun e w' => e = .returned (.tuple #[]) ∧ Tab w' t b1 b2 sv1 sv2 LI L (fun j => if j = k then flt k L else E j) ∧ Chg (fun x => x = t) w w' := by
  let Ls : List { e : Ent // EntAt w e.1 e.2 ∧ e.2.ok = true } := L.attach.map fun e => ⟨e.1, h.ent e.1 e.2⟩
  have eL : Ls.map (·.1) = L := by simp only [Ls, List.map_map, Function.comp_def]; exact List.attach_map_subtype_val L
  have hrow : RankRow w.heap.size w sv2 (Ls.map (·.1)) := by
    rw [eL]
    obtain ⟨a, cap, g, e, hc⟩ := rowR_cells h.mR.2.2.1
    exact ⟨a, cap, e, fun j hj => ⟨g, (hc j hj).1, block_lt_of_cell (hc j hj).2.1, (hc j hj).2⟩⟩
  obtain ⟨tb, ct, _⟩ := h.tree k hk
  refine (regrow_any t b2 k hk sv2 w h.laid Ls (by have := congrArg List.length eL; rw [List.length_map] at this; rw [this]; exact h.mR.2.2.2.2) h.c1 h.mR.2.1 hrow ⟨_, ct⟩ h.tf h.foreignT).mono ?_
  rintro e w' ⟨rfl, b, hT, hch, hc, hf⟩
  rw [eL] at hT
  exact ⟨rfl, h.setT hch hT hc hf, hch⟩

end Go.Proofs.YtnjalelblbjfiaaGreatDoor

namespace Go.Proofs.YtnjalelblbjfiaaGreatDoor
open Go.RowKit

/-- A table with the rules L; F are the blocks that its calls may change. -/
def TabIs (w : World) (t : Nat) (F : Nat → Prop) (L : List Ent) : Prop :=
  ∃ b1 b2 sv1 sv2 LI, Tab w t b1 b2 sv1 sv2 LI L (fun h => flt h L) ∧ (∀ x, x ∈ LI ↔ x ∈ L) ∧ LI.length = L.length ∧ F = Mine t b1 b2 sv1 sv2

theorem homeStep_range {h m i n : Int} (hh : 0 ≤ h ∧ h < 6) (hi : 0 ≤ i ∧ i < 6) : 0 ≤ (homeStep h m i n).1 ∧ (homeStep h m i n).1 < 6 := by
  unfold homeStep
  split
  · exact hi
  · exact hh
theorem home_upTo (r : Rl) : ∀ n : Nat, n ≤ 5 → 0 ≤ (homeUpTo r n).1 ∧ (homeUpTo r n).1 < 6
  | 0, _ => by simp [homeUpTo]
  | n + 1, hn => homeStep_range (home_upTo r n (by omega)) ⟨by omega, by omega⟩
theorem home_nat (r : Rl) : ∃ k : Nat, k < 6 ∧ r.home = k := by
  have h := home_upTo r 5 (Nat.le_refl _)
  exact ⟨r.home.toNat, by unfold Rl.home; omega, by unfold Rl.home; omega⟩

theorem flt_same {L L' : List Ent} {e : Ent} {k : Nat} {j : Nat} (hs : Sorted L) (hs' : Sorted L') (hm : ∀ x, x ≠ e → (x ∈ L' ↔ x ∈ L)) (hk : e.2.home = k) (hj : j ≠ k) : flt j L' = flt j L := by
  refine sorted_ext (hs'.filter _) (hs.filter _) fun x => ?_
  rw [flt, flt, List.mem_filter, List.mem_filter]
  by_cases hx : x = e
  · subst hx
    have : (x.2.home == (j : Int)) = false := by rw [hk]; simp; omega
    rw [this]; simp
  · rw [hm x hx]

/-- Entries of one ID are one, where all stand in order of their IDs. -/
theorem one_id {LI : List Ent} (hs : SortedI LI) {a b : Ent} (ha : a ∈ LI) (hb : b ∈ LI) (h : a.2.id = b.2.id) : a = b := by
  obtain ⟨i, hi, rfl⟩ := List.getElem_of_mem ha
  obtain ⟨j, hj, rfl⟩ := List.getElem_of_mem hb
  rcases Nat.lt_trichotomy i j with hlt | rfl | hlt
  · have := List.pairwise_iff_getElem.1 hs i j hi hj hlt; omega
  · rfl
  · have := List.pairwise_iff_getElem.1 hs j i hj hi hlt; omega
theorem lenI_cut {LI : List Ent} (hs : SortedI LI) {e : Ent} (he : e ∈ LI) : (LI.filter fun a => a.2.id != e.2.id).length + 1 = LI.length := by
  obtain ⟨i, hi, rfl⟩ := List.getElem_of_mem he
  rw [← cutI hs hi (idAt_eq hi)]
  simp only [List.length_append, List.length_take, List.length_drop]; omega
theorem lenR_cut {L : List Ent} (hs : Sorted L) {e : Ent} (he : e ∈ L) : (L.filter fun a => !(a.2.pr == e.2.pr && a.2.id == e.2.id)).length + 1 = L.length := by
  obtain ⟨i, hi, rfl⟩ := List.getElem_of_mem he
  rw [← cutR hs hi (by unfold cAt; rw [cmpR_zero, prAt_eq hi, idAt_eq hi]; exact ⟨rfl, rfl⟩)]
  simp only [List.length_append, List.length_take, List.length_drop]; omega

theorem byId_some {L : List Ent} {x : Int} {e : Ent} (h : byId L x = some e) : e ∈ L ∧ e.2.id = x := by
  unfold byId at h
  exact ⟨List.mem_of_find?_eq_some h, by simpa using List.find?_some h⟩
theorem byId_none {L : List Ent} {x : Int} (h : byId L x = none) : ∀ e ∈ L, e.2.id ≠ x := by
  unfold byId at h
  intro e he hx
  simpa [hx] using List.find?_eq_none.1 h e he

/-- What is left of a table when the entry e has gone out of both maps. -/
theorem tab_del {w : World} {t b1 b2 : Nat} {sv1 sv2 sv1' sv2' : Value} {LI L : List Ent} {e1 : Ent} {x : Int} {k : Nat} (hm : ∀ a, a ∈ LI ↔ a ∈ L) (hlen : LI.length = L.length) (hs : SortedI LI) (hsR : Sorted L) (h1 : e1 ∈ LI) (hx : e1.2.id = x) (hk : e1.2.home = k) (o1 : sv1'.ownBlock = sv1.ownBlock) (o2 : sv2'.ownBlock = sv2.ownBlock)
    (T : Tab w t b1 b2 sv1' sv2' (LI.filter fun a => a.2.id != x) (L.filter fun a => !(a.2.pr == e1.2.pr && a.2.id == e1.2.id)) (fun j => if j = k then flt k (L.filter fun a => !(a.2.pr == e1.2.pr && a.2.id == e1.2.id)) else flt j L)) :
    TabIs w t (Mine t b1 b2 sv1 sv2) (L.filter fun a => a.2.id != x) := by
  have eL : (L.filter fun a => !(a.2.pr == e1.2.pr && a.2.id == e1.2.id)) = L.filter fun a => a.2.id != x := by
    refine List.filter_congr fun a ha => ?_
    by_cases hax : a.2.id = x
    · have := one_id hs ((hm a).2 ha) h1 (hax.trans hx.symm)
      subst this
      simp [hax]
    · have h2 : (a.2.id == e1.2.id) = false := by simpa using fun h => hax (h.trans hx)
      have h3 : (a.2.id != x) = true := by simpa using hax
      rw [h2, h3, Bool.and_false]; rfl
  have hlenL := lenR_cut hsR ((hm e1).1 h1)
  have hlenI := lenI_cut hs h1
  rw [eL] at T hlenL
  rw [hx] at hlenI
  have eE : (fun j => if j = k then flt k (L.filter fun a => a.2.id != x) else flt j L) = fun (j : Nat) => flt j (L.filter fun a => a.2.id != x) := by
    funext j
    by_cases hj : j = k
    · rw [if_pos hj, hj]
    · rw [if_neg hj]
      refine (flt_same (e := e1) hsR (hsR.filter _) (fun a ha => ?_) hk hj).symm
      rw [List.mem_filter]
      refine ⟨fun h => h.1, fun h => ⟨h, ?_⟩⟩
      rw [bne_iff_ne]
      exact fun hax => ha (one_id hs ((hm a).2 h) h1 (hax.trans hx.symm))
  rw [eE] at T
  refine ⟨b1, b2, sv1', sv2', _, T, fun a => ?_, by omega, ?_⟩
  · rw [List.mem_filter, List.mem_filter, hm]
  · funext b
    unfold Mine
    rw [o1, o2]

set_option maxRecDepth 100000 in
set_option maxHeartbeats 1000000 in
theorem tdel_any (t : Nat) (x : Int) (w : World) (F : Nat → Prop) (L : List Ent) (h : TabIs w t F L) :
    Calls Tryz.prog 17 #[.pointer (some ⟨t, 0, none⟩), .int .i64 x] w fun e w' => e = .returned (.int .i64 (if (L.any fun a => a.2.id == x) then 0 else 7)) ∧ TabIs w' t F (L.filter fun a => a.2.id != x) ∧ Chg F w w' := by
  obtain ⟨b1, b2, sv1, sv2, LI, T, hm, hlen, rfl⟩ := h
  obtain ⟨res, hres⟩ : ∃ res : Int, res = if (L.any fun a => a.2.id == x) then 0 else 7 := ⟨_, rfl⟩
  rw [← hres]
  have HRES := hide hres
  clear hres
  have CG := hide (getI_any b1 sv1 LI x w T.mI T.sI)
  have HT := hide T
  have HM := hide hm
  have HL := hide hlen
  have c0 := T.c0
  clear T hm hlen
  go_enter Tryz.func17, Tryz.ntmps17
  go_wp2_with fail
  refine CG.out.mono ?_
  rintro e w1 ⟨rfl, hb⟩
  have T1 := hide (HT.out.below hb (Nat.le_refl _))
  have HB := hide hb
  have d0 := T1.out.c0
  clear CG hb c0
  cases hf : byId LI x with
  | none =>
    rw [ptrO_none]
    have hno := byId_none hf
    have hany : (L.any fun a => a.2.id == x) = false := by
      rw [List.any_eq_false]
      intro a ha
      simpa using hno a ((HM.out a).2 ha)
    have HA := hide hany
    have hfil : L.filter (fun a => a.2.id != x) = L := List.filter_eq_self.2 fun a ha => by simpa using hno a ((HM.out a).2 ha)
    have HFI := hide hfil
    clear hany hfil hno hf
    go_wp2
    go_ret
    rw [HFI.out]
    have hr := HRES.out
    rw [HA.out] at hr
    exact ⟨by rw [hr]; rfl, ⟨b1, b2, sv1, sv2, LI, T1.out, HM.out, HL.out, rfl⟩, Chg.of_below HB.out⟩
  | some e1 =>
    rw [ptrO_some]
    obtain ⟨h1, hx⟩ := byId_some hf
    obtain ⟨k, hk6, hk⟩ := home_nat e1.2
    have hany : (L.any fun a => a.2.id == x) = true := List.any_eq_true.2 ⟨e1, (HM.out e1).1 h1, by simpa using hx⟩
    have HA := hide hany
    have CD1 := hide (delI_any b1 sv1 LI x w1 T1.out.mI T1.out.sI T1.out.hI ⟨e1, h1, hx⟩)
    have H1 := hide h1
    have HX := hide hx
    have HK := hide hk
    clear hany h1 hx hk hf
    go_wp2_with fail
    refine CD1.out.mono ?_
    rintro e w2 ⟨rfl, sv1', m1, hh1, o1, ch1⟩
    have T2 := hide (T1.out.set1 ch1 m1 (T1.out.sI.filter _) hh1)
    have C2 : Hid (Chg (Mine t b1 b2 sv1 sv2) w w2) := hide ((Chg.of_below HB.out).trans (ch1.mono fun b _ hb => .inr (.inl hb)))
    have O1 := hide o1
    have hs2 := Chg.size ch1
    have g1 := T2.out.c1
    have hE2 : EntAt w2 e1.1 e1.2 := (T2.out.ent e1 ((HM.out e1).1 H1.out)).1
    have hok := (T2.out.ent e1 ((HM.out e1).1 H1.out)).2
    have CR := hide fun (W : World) (hb : Below w2.heap.size w2 W) => rank_any e1.1 e1.2 W (hE2.below hb hE2.lt)
    have CD := hide fun (W : World) (hb : Below w2.heap.size w2 W) => (delR_any b2 sv2 L e1.2.pr e1.2.id W (T2.out.below hb (Nat.le_refl _)).mR (T2.out.below hb (Nat.le_refl _)).sR (T2.out.below hb (Nat.le_refl _)).hR ⟨e1, (HM.out e1).1 H1.out, rfl, rfl⟩).mono
      (R' := fun e w' => e = .returned (.bool true) ∧ w'.cell? ⟨t, 1, none⟩ = some (.pointer (some ⟨b2, 0, none⟩)) ∧ EntAt w' e1.1 e1.2 ∧ Chg (Mine t b1 b2 sv1 sv2) w w' ∧ ∃ sv2', Tab w' t b1 b2 sv1' sv2' (LI.filter fun a => a.2.id != x) (L.filter fun a => !(a.2.pr == e1.2.pr && a.2.id == e1.2.id)) (fun j => flt j L) ∧ sv2'.ownBlock = sv2.ownBlock) (by
        rintro e w' ⟨rfl, sv2', m2, hh2, o2, ch2⟩
        have TW := T2.out.below hb (Nat.le_refl _)
        have T3 := TW.set2 ch2 m2 (TW.sR.filter _) hh2 (fun a ha => TW.ent a (List.mem_filter.1 ha).1)
        exact ⟨rfl, T3.c1, (hE2.below hb hE2.lt).kept ch2.block (fun y hy => TW.foreign2 hy), C2.out.trans ((Chg.of_below hb).trans (ch2.mono fun b _ hb => .inr (.inr hb))), sv2', T3, o2⟩)
    have HOK := hide hok
    clear CD1 m1 hh1 o1 ch1 hE2 hok T1 HB
    go_wp2_with fail
    go_region_held3 (fun w' => w'.cell? ⟨t, 1, none⟩ = some (.pointer (some ⟨b2, 0, none⟩))) (go_keep)
      (first
        | (go_at_call 43; refine (CR.out _ ?_).mono ?_; (exact (Below.refl _ w2).drew); rintro e w3 ⟨rfl, hb3⟩; have k3 := cell_later hb3 g1; have B3 := hide hb3; clear hb3)
        | (go_at_call 49; refine (CD.out _ ?_).mono ?_; (exact ((Below.refl _ w2).drew).trans B3.out); rintro e w4 ⟨rfl, k4, hE4, hC4, sv2', hT4, ho4⟩; have E4 := hide hE4; have C4 := hide hC4; have T4 := hide hT4; have O4 := hide ho4; clear hE4 hC4 hT4 ho4))
    have CH := home_any e1.1 e1.2 w4 T4.out.laid E4.out HOK.out
    rw [HK.out] at CH
    have CHH := hide CH
    clear CH k4 k3 g1
    go_wp2_with fail
    refine CHH.out.mono ?_
    rintro e w5 ⟨rfl, hb5⟩
    have T5 := hide (T4.out.below hb5 (Nat.le_refl _))
    have B5 := hide hb5
    clear hb5
    go_wp2_with fail
    refine (T5.out.regrow k hk6).mono ?_
    rintro e w6 ⟨rfl, hT6, hC6⟩
    have T6 := hide hT6
    have C6 := hide hC6
    clear hT6 hC6
    go_wp2
    go_ret
    have hr := HRES.out
    rw [HA.out] at hr
    exact ⟨by rw [hr]; rfl, tab_del HM.out HL.out HT.out.sI HT.out.sR H1.out HX.out HK.out O1.out O4.out T6.out, C4.out.trans ((Chg.of_below B5.out).trans (C6.out.mono fun b _ hb => .inl hb))⟩

end Go.Proofs.YtnjalelblbjfiaaGreatDoor

namespace Go.Proofs.YtnjalelblbjfiaaGreatDoor
open Go.RowKit
open Go.Sort (grow)

/-- What Insert answers. -/
def insCode (L : List Ent) (r : Rl) : Int := if r.ok then (if (L.any fun a => a.2.id == r.id) then 5 else if 200 ≤ L.length then 6 else 0) else 4
/-- What Insert leaves. -/
def InsTab (w w' : World) (t : Nat) (F : Nat → Prop) (L : List Ent) (r : Rl) : Prop :=
  ∃ F' L', TabIs w' t F' L' ∧ (∀ x, F' x → F x ∨ w.heap.size ≤ x) ∧ Chg F w w' ∧ (if insCode L r = 0 then ∃ b, (∀ x, x ∈ L' ↔ x = (b, r) ∨ x ∈ L) ∧ L'.length = L.length + 1 else L' = L)

theorem TabIs.still {w w' : World} {t : Nat} {F : Nat → Prop} {L : List Ent} (h : TabIs w t F L) (hb : Below w.heap.size w w') : TabIs w' t F L := by
  obtain ⟨b1, b2, sv1, sv2, LI, T, hm, hlen, rfl⟩ := h
  exact ⟨b1, b2, sv1, sv2, LI, T.below hb (Nat.le_refl _), hm, hlen, rfl⟩
theorem InsTab.still {w w' : World} {t : Nat} {F : Nat → Prop} {L : List Ent} {r : Rl} (h : TabIs w t F L) (hb : Below w.heap.size w w') (hc : insCode L r ≠ 0) : InsTab w w' t F L r :=
  ⟨F, L, h.still hb, fun _ hx => .inl hx, Chg.of_below hb, by rw [if_neg hc]⟩
theorem rangeAt_below {w w' : World} {b o : Nat} {cs : List Value} (h : w.rangeAt b o cs) (hb : Below w.heap.size w w') : w'.rangeAt b o cs := fun j v hv => (hb.cell (p := ⟨b, o + j, none⟩) (block_lt_of_cell (h j v hv))).trans (h j v hv)

theorem tab_ins {w0 w : World} {t b1 b2 : Nat} {sv1 sv2 sv1' sv2' : Value} {LI L LI' L' : List Ent} {eb : Nat} {r : Rl} {k : Nat} (hm : ∀ a, a ∈ LI ↔ a ∈ L) (hlen : LI.length = L.length) (hsR : Sorted L) (hk : r.home = k) (m1 : ∀ a, a ∈ LI' ↔ a = (eb, r) ∨ a ∈ LI) (l1 : LI'.length = LI.length + 1) (m2 : ∀ a, a ∈ L' ↔ a = (eb, r) ∨ a ∈ L) (l2 : L'.length = L.length + 1)
    (o1 : ∀ b, sv1'.ownBlock = some b → sv1.ownBlock = some b ∨ w0.heap.size ≤ b) (o2 : ∀ b, sv2'.ownBlock = some b → sv2.ownBlock = some b ∨ w0.heap.size ≤ b) (hch : Chg (Mine t b1 b2 sv1 sv2) w0 w) (hcode : insCode L r = 0)
    (T : Tab w t b1 b2 sv1' sv2' LI' L' (fun j => if j = k then flt k L' else flt j L)) : InsTab w0 w t (Mine t b1 b2 sv1 sv2) L r := by
  have eE : (fun j => if j = k then flt k L' else flt j L) = fun (j : Nat) => flt j L' := by
    funext j
    by_cases hj : j = k
    · rw [if_pos hj, hj]
    · rw [if_neg hj]
      exact (flt_same (e := (eb, r)) hsR T.sR (fun a ha => by rw [m2]; exact ⟨fun h => h.resolve_left ha, .inr⟩) hk hj).symm
  rw [eE] at T
  refine ⟨Mine t b1 b2 sv1' sv2', L', ⟨b1, b2, sv1', sv2', LI', T, fun a => by rw [m1, m2, hm], by omega, rfl⟩, ?_, hch, ?_⟩
  · rintro x (h | (h | h) | (h | h))
    · exact .inl (.inl h)
    · exact .inl (.inr (.inl (.inl h)))
    · exact (o1 x h).imp (fun h => .inr (.inl (.inr h))) id
    · exact .inl (.inr (.inr (.inl h)))
    · exact (o2 x h).imp (fun h => .inr (.inr (.inr h))) id
  · rw [if_pos hcode]
    exact ⟨eb, m2, l2⟩

attribute [local go_sem] cell?_regrown

set_option maxRecDepth 100000 in
set_option maxHeartbeats 2000000 in
theorem tins_any (t : Nat) (r : Rl) (w : World) (F : Nat → Prop) (L : List Ent) (h : TabIs w t F L) :
    Calls Tryz.prog 15 #[.pointer (some ⟨t, 0, none⟩), .agg #[.int .i64 r.id, .int .i64 r.pr, .int .i64 r.k0, .int .i64 r.v0, .int .i64 r.m0, .int .i64 r.k1, .int .i64 r.v1, .int .i64 r.m1, .int .i64 r.k2, .int .i64 r.v2, .int .i64 r.m2, .int .i64 r.k3, .int .i64 r.v3, .int .i64 r.m3, .int .i64 r.k4, .int .i64 r.v4, .int .i64 r.m4, .int .i64 r.ac, .int .i64 r.po]] w fun e w' => e = .returned (.int .i64 (insCode L r)) ∧ InsTab w w' t F L r := by
  obtain ⟨dr, hur, hdr⟩ := underRule
  have HTI := hide h
  obtain ⟨b1, b2, sv1, sv2, LI, T, hm, hlen, rfl⟩ := h
  obtain ⟨res, hres⟩ : ∃ res : Int, res = insCode L r := ⟨_, rfl⟩
  have HRES := hide hres
  rw [← hres]
  clear hres
  obtain ⟨w0, hw0⟩ : ∃ w0, w0 = w.alloc (.cells #[.int .i64 r.id, .int .i64 r.pr, .int .i64 r.k0, .int .i64 r.v0, .int .i64 r.m0, .int .i64 r.k1, .int .i64 r.v1, .int .i64 r.m1, .int .i64 r.k2, .int .i64 r.v2, .int .i64 r.m2, .int .i64 r.k3, .int .i64 r.v3, .int .i64 r.m3, .int .i64 r.k4, .int .i64 r.v4, .int .i64 r.m4, .int .i64 r.ac, .int .i64 r.po] 37) := ⟨_, rfl⟩
  have hb0 : Below w.heap.size w w0 := by rw [hw0]; exact (Below.refl _ w).alloc (Nat.le_refl _) _
  have hs0 : w0.heap.size = w.heap.size + 1 := by rw [hw0]; exact alloc_size _ _
  have hr0 : w0.rangeAt w.heap.size 0 [.int .i64 r.id, .int .i64 r.pr, .int .i64 r.k0, .int .i64 r.v0, .int .i64 r.m0, .int .i64 r.k1, .int .i64 r.v1, .int .i64 r.m1, .int .i64 r.k2, .int .i64 r.v2, .int .i64 r.m2, .int .i64 r.k3, .int .i64 r.v3, .int .i64 r.m3, .int .i64 r.k4, .int .i64 r.v4, .int .i64 r.m4, .int .i64 r.ac, .int .i64 r.po] := by rw [hw0]; exact range_new _ _ _
  have T0 := T.below hb0 (Nat.le_refl _)
  have CI := hide (isRule_any r.id r.pr r.k0 r.v0 r.m0 r.k1 r.v1 r.m1 r.k2 r.v2 r.m2 r.k3 r.v3 r.m3 r.k4 r.v4 r.m4 r.ac r.po w0 T0.laid)
  have HT := hide T
  have HT0 := hide T0
  have HM := hide hm
  have HL := hide hlen
  have HW0 := hide hw0
  have HB0 := hide hb0
  have HR0 := hide hr0
  have htlt : t < w.heap.size := block_lt_of_cell T.c0
  clear T T0 hm hlen hw0 hb0 hr0
  go_enter Tryz.func15, Tryz.ntmps15
  go_wp2_with (first | (refine wpList_load_mid rfl 37 _ rfl w.heap.size 0 rfl [.int .i64 r.id, .int .i64 r.pr, .int .i64 r.k0, .int .i64 r.v0, .int .i64 r.m0, .int .i64 r.k1, .int .i64 r.v1, .int .i64 r.m1, .int .i64 r.k2, .int .i64 r.v2, .int .i64 r.m2, .int .i64 r.k3, .int .i64 r.v3, .int .i64 r.m3, .int .i64 r.k4, .int .i64 r.v4, .int .i64 r.m4, .int .i64 r.ac, .int .i64 r.po] dr (range_new _ _ _) hur hdr sizeRule ?_))
  rw [← HW0.out]
  refine CI.out.mono ?_
  rintro e w1 ⟨rfl, hb1⟩
  have hok : ruleB r.id r.pr r.k0 r.v0 r.m0 r.k1 r.v1 r.m1 r.k2 r.v2 r.m2 r.k3 r.v3 r.m3 r.k4 r.v4 r.m4 r.ac r.po = r.ok := rfl
  rw [hok]
  have B1 := hide (HB0.out.trans (hb1.mono (by omega)))
  have T1 := hide (HT0.out.below hb1 (Nat.le_refl _))
  have R1 := hide (rangeAt_below HR0.out hb1)
  have hs1 := hb1.size
  clear CI hb1 hok HR0 HT0 HW0 HB0
  cases hro : r.ok with
  | false =>
    go_wp2
    go_ret
    have hr := HRES.out
    have hc : insCode L r = 4 := by unfold insCode; rw [hro]; rfl
    rw [hc] at hr
    exact ⟨by rw [hr]; rfl, InsTab.still HTI.out B1.out (by rw [hc]; decide)⟩
  | true =>
    have CG := hide (fun d os => getI_any b1 sv1 LI r.id (grow (redrawn w1 d) os) (T1.out.below (below_regrown w1 d os) (Nat.le_refl _)).mI T1.out.sI)
    have d0 := T1.out.c0
    have i0 : w1.cell? ⟨w.heap.size, 0, none⟩ = some (.int .i64 r.id) := R1.out 0 _ rfl
    have ht1 : t < w1.heap.size := by omega
    have hx1 : w.heap.size < w1.heap.size := by omega
    go_wp2_with fail
    refine wp_region_quiet_below (by kernel_rfl) (by kernel_rfl) ?_
    repeat (quiet_step (exact Calls.regrown_of (CG.out _ _)))
    refine wpQuiet_nil ?_; intro wq hwq; replace hwq := below_of_regrown hwq; obtain ⟨hcq, hfq⟩ := bcell hwq; have hzq := hwq.size
    have T2 := hide (T1.out.below hwq (Nat.le_refl _))
    have B2 := hide (B1.out.trans (hwq.mono B1.out.size))
    have R2 := hide (rangeAt_below R1.out hwq)
    clear CG d0 i0 hcq hfq hwq T1 B1 R1
    cases hf : byId LI r.id with
    | some e1 =>
      rw [ptrO_some]
      obtain ⟨h1, hx⟩ := byId_some hf
      have hc : insCode L r = 5 := by
        unfold insCode
        rw [hro, if_pos rfl, if_pos (List.any_eq_true.2 ⟨e1, (HM.out e1).1 h1, by simpa using hx⟩)]
      have HC := hide hc
      clear hc h1 hx
      go_wp2
      go_ret
      have hr := HRES.out
      rw [HC.out] at hr
      exact ⟨by rw [hr]; rfl, InsTab.still HTI.out B2.out (by rw [HC.out]; decide)⟩
    | none =>
      rw [ptrO_none]
      have hno := byId_none hf
      have hany : (L.any fun a => a.2.id == r.id) = false := by
        rw [List.any_eq_false]
        intro a ha
        simpa using hno a ((HM.out a).2 ha)
      have HNO := hide hno
      have HF := hide hf
      have HANY := hide hany
      clear hno hf hany
      have e0 := T2.out.c0
      have f1 := T2.out.mI.2.1
      obtain ⟨sa, scap, sg, hsv, hsc⟩ := rowI_cells T2.out.mI.2.2.1
      clear hsc
      subst hsv
      by_cases hfull : 200 ≤ LI.length
      · have hc : insCode L r = 6 := by
          unfold insCode
          rw [hro, if_pos rfl, HANY.out, if_neg (by decide), if_pos (by rw [← HL.out]; exact hfull)]
        have HC := hide hc
        have hfi : (200 : Int) ≤ LI.length := by omega
        clear hc
        go_wp2_with (first | (go_at_call 39; refine (lenI_any b1 sa LI.length scap _ f1).mono ?_; rintro e w' ⟨rfl, hww⟩; rw [hww]; clear hww))
        go_ret
        have hr := HRES.out
        rw [HC.out] at hr
        exact ⟨by rw [hr]; rfl, InsTab.still HTI.out B2.out (by rw [HC.out]; decide)⟩
      · have hc : insCode L r = 0 := by
          unfold insCode
          rw [hro, if_pos rfl, HANY.out, if_neg (by decide), if_neg (by rw [← HL.out]; exact hfull)]
        have HC := hide hc
        have hfi : ¬ ((200 : Int) ≤ LI.length) := by omega
        have hfj : (LI.length : Int) < 200 := by omega
        have CE := hide (entryOf_walk r wq T2.out.laid)
        clear hc
        go_wp2_with (first | (go_at_call 39; refine (lenI_any b1 sa LI.length scap _ f1).mono ?_; rintro e w' ⟨rfl, hww⟩; rw [hww]; clear hww) | (refine wpList_load_mid rfl 37 _ rfl w.heap.size 0 rfl [.int .i64 r.id, .int .i64 r.pr, .int .i64 r.k0, .int .i64 r.v0, .int .i64 r.m0, .int .i64 r.k1, .int .i64 r.v1, .int .i64 r.m1, .int .i64 r.k2, .int .i64 r.v2, .int .i64 r.m2, .int .i64 r.k3, .int .i64 r.v3, .int .i64 r.m3, .int .i64 r.k4, .int .i64 r.v4, .int .i64 r.m4, .int .i64 r.ac, .int .i64 r.po] dr R2.out hur hdr sizeRule ?_) | (go_at_call 40; refine CE.out.mono ?_; rintro e w3 ⟨rfl, hE3, hb3⟩; have E3 := hide hE3; have B3 := hide hb3; clear hE3 hb3))
        obtain ⟨eb, heb⟩ : ∃ eb, eb = wq.heap.size + 1 := ⟨_, rfl⟩
        rw [← heb] at E3 ⊢
        obtain ⟨S1, hS1⟩ : ∃ S1, S1 = Value.slice sa LI.length scap := ⟨_, rfl⟩
        rw [← hS1] at HTI HT T2
        have HS1 := hide hS1
        have T3 := hide (T2.out.below B3.out (Nat.le_refl _))
        have BW3 := hide (B2.out.trans (B3.out.mono B2.out.size))
        have i3 : w3.cell? ⟨w.heap.size, 0, none⟩ = some (.int .i64 r.id) := (rangeAt_below R2.out B3.out) 0 _ rfl
        have j0 := T3.out.c0
        obtain ⟨k, hk6, hk⟩ := home_nat r
        have HK := hide hk
        have CP1 := hide fun (W : World) (hb : Below w3.heap.size w3 W) => (putI_any b1 S1 LI (eb, r) W (T3.out.below hb (Nat.le_refl _)).mI T3.out.sI (T3.out.below hb (Nat.le_refl _)).hI HF.out (by omega)).mono
          (R' := fun e w' => e = .returned (.tuple #[]) ∧ w'.cell? ⟨t, 0, none⟩ = some (.pointer (some ⟨b1, 0, none⟩)) ∧ w'.cell? ⟨w.heap.size, 0, none⟩ = some (.int .i64 r.id) ∧ ∃ sv1' LI', Tab w' t b1 b2 sv1' sv2 LI' L (fun h => flt h L) ∧ EntAt w' eb r ∧ Chg (Mine t b1 b2 S1 sv2) w w' ∧ (∀ a, a ∈ LI' ↔ a = (eb, r) ∨ a ∈ LI) ∧ LI'.length = LI.length + 1 ∧ ∀ b, sv1'.ownBlock = some b → S1.ownBlock = some b ∨ w.heap.size ≤ b) (by
            rintro e w' ⟨rfl, sv1', LI', m1, s1, hh1, mm1, l1, o1, ch1⟩
            have TW := T3.out.below hb (Nat.le_refl _)
            have hsz := BW3.out.size
            have hszW := hb.size
            have T4 := TW.set1 ch1 m1 s1 hh1
            refine ⟨rfl, T4.c0, ?_, sv1', LI', T4, (E3.out.below hb E3.out.lt).kept ch1.block (fun y hy => TW.foreign1 hy), (Chg.of_below (BW3.out.trans (hb.mono hsz))).trans (ch1.mono fun b _ hb => .inr (.inl hb)), mm1, l1, fun b hb' => (o1 b hb').imp id (fun h => by omega)⟩
            refine ch1.block.cell ?_ ((hb.cell (p := ⟨w.heap.size, 0, none⟩) (block_lt_of_cell i3)).trans i3)
            rintro (hy | hy)
            · have : b1 < w.heap.size := block_lt_of_cell HT.out.mI.1
              omega
            · have := HT.out.hI.lt hy
              omega)
        clear CE f1 heb hS1 hk R2 e0
        go_wp2_with fail
        go_region_held3 (fun w' => w'.cell? ⟨t, 0, none⟩ = some (.pointer (some ⟨b1, 0, none⟩)) ∧ w'.cell? ⟨w.heap.size, 0, none⟩ = some (.int .i64 r.id)) (go_keep)
          (first | (go_at_call 41; refine (CP1.out _ ?_).mono ?_; (exact (Below.refl _ w3).drew); rintro e w4 ⟨rfl, k0, k1, sv1', LI', hT4, hE4, hC4, hm4, hl4, ho4⟩; have T4 := hide hT4; have E4 := hide hE4; have C4 := hide hC4; have M4 := hide hm4; have L4 := hide hl4; have O4 := hide ho4; clear hT4 hE4 hC4 hm4 hl4 ho4))
        have hsz4 := C4.out.size
        have g1 := T4.out.c1
        have CR := hide fun (W : World) (hb : Below w4.heap.size w4 W) => rank_any eb r W (E4.out.below hb E4.out.lt)
        have CP2 := hide fun (W : World) (hb : Below w4.heap.size w4 W) => (putR_any b2 sv2 L (eb, r) W (T4.out.below hb (Nat.le_refl _)).mR T4.out.sR (T4.out.below hb (Nat.le_refl _)).hR (fun a ha hx => HNO.out a ((HM.out a).2 ha) hx.2) (by have := HL.out; omega)).mono
          (R' := fun e w' => e = .returned (.tuple #[]) ∧ w'.cell? ⟨t, 1, none⟩ = some (.pointer (some ⟨b2, 0, none⟩)) ∧ ∃ sv2' L', Tab w' t b1 b2 sv1' sv2' LI' L' (fun h => flt h L) ∧ EntAt w' eb r ∧ Chg (Mine t b1 b2 S1 sv2) w w' ∧ (∀ a, a ∈ L' ↔ a = (eb, r) ∨ a ∈ L) ∧ L'.length = L.length + 1 ∧ ∀ b, sv2'.ownBlock = some b → sv2.ownBlock = some b ∨ w.heap.size ≤ b) (by
            rintro e w' ⟨rfl, sv2', L', m2, s2, hh2, mm2, l2, o2, ch2⟩
            have TW := T4.out.below hb (Nat.le_refl _)
            have hszW := hb.size
            have EW := E4.out.below hb E4.out.lt
            have T5 := TW.set2 ch2 m2 s2 hh2 (fun a ha => by
              rcases (mm2 a).1 ha with rfl | ha'
              · exact ⟨EW, hro⟩
              · exact TW.ent a ha')
            exact ⟨rfl, T5.c1, sv2', L', T5, EW.kept ch2.block (fun y hy => TW.foreign2 hy), C4.out.trans ((Chg.of_below hb).trans (ch2.mono fun b _ hb => .inr (.inr hb))), mm2, l2, fun b hb' => (o2 b hb').imp id (fun h => by omega)⟩)
        clear CP1 T3 k0 k1
        go_wp2_with fail
        go_region_held3 (fun w' => w'.cell? ⟨t, 1, none⟩ = some (.pointer (some ⟨b2, 0, none⟩))) (go_keep)
          (first
            | (go_at_call 43; refine (CR.out _ ?_).mono ?_; (exact (Below.refl _ w4).drew); rintro e w5 ⟨rfl, hb5⟩; have k5 := cell_later hb5 g1; have B5 := hide hb5; clear hb5)
            | (go_at_call 42; refine (CP2.out _ ?_).mono ?_; (exact ((Below.refl _ w4).drew).trans B5.out); rintro e w6 ⟨rfl, k6, sv2', L', hT6, hE6, hC6, hm6, hl6, ho6⟩; have T6 := hide hT6; have E6 := hide hE6; have C6 := hide hC6; have M6 := hide hm6; have L6 := hide hl6; have O6 := hide ho6; clear hT6 hE6 hC6 hm6 hl6 ho6))
        have CH := home_any eb r w6 T6.out.laid E6.out hro
        rw [HK.out] at CH
        have CHH := hide CH
        clear CH k6 k5 g1 CR CP2
        go_wp2_with fail
        refine CHH.out.mono ?_
        rintro e w7 ⟨rfl, hb7⟩
        have T7 := hide (T6.out.below hb7 (Nat.le_refl _))
        have B7 := hide hb7
        clear hb7
        go_wp2_with fail
        refine (T7.out.regrow k hk6).mono ?_
        rintro e w8 ⟨rfl, hT8, hC8⟩
        have T8 := hide hT8
        have C8 := hide hC8
        clear hT8 hC8
        go_wp2
        go_ret
        have hr := HRES.out
        rw [HC.out] at hr
        have hS := HS1.out
        subst hS
        exact ⟨by rw [hr]; rfl, tab_ins HM.out HL.out HT.out.sR HK.out M4.out L4.out M6.out L6.out O4.out O6.out (C6.out.trans ((Chg.of_below B7.out).trans (C8.out.mono fun b _ hb => .inl hb))) HC.out T8.out⟩

end Go.Proofs.YtnjalelblbjfiaaGreatDoor

namespace Go.Proofs.YtnjalelblbjfiaaGreatDoor
open Go.RowKit
open Go.Sort (grow)

set_option maxRecDepth 100000 in
set_option maxHeartbeats 1000000 in
theorem find_none (t : Nat) (x0 x1 x2 x3 x4 : Int) (w : World) (hl : Laid w) (hk : keyB x0 x1 x2 x3 x4 = false) :
    Calls Tryz.prog 16 #[.pointer (some ⟨t, 0, none⟩), .agg #[.int .i64 x0, .int .i64 x1, .int .i64 x2, .int .i64 x3, .int .i64 x4]] w fun e w' => e = .returned (.tuple #[.int .i64 0, .int .i64 4]) ∧ Below w.heap.size w w' := by
  go_enter Tryz.func16, Tryz.ntmps16
  go_wp2_with fail
  refine (isKey_any _ _ _ _ _ _ (hl.below ((Below.refl _ _).alloc (Nat.le_refl _) _) hl.pos)).mono ?_
  rintro e w1 ⟨rfl, hb1⟩
  rw [hk]
  go_wp2
  go_ret2
  exact ⟨rfl, Below.trans (by repeat (first | exact Below.refl _ _ | assumption | refine Below.drewN ?_ | refine Below.drew ?_ | refine Below.setCell ?_ (by first | exact Nat.le_refl _ | omega | (simp; done) | (simp; omega)) _ | refine Below.alloc ?_ (by first | exact Nat.le_refl _ | omega | (simp; done) | (simp; omega)) _)) (hb1.mono (by first | exact Nat.le_refl _ | omega | (simp; done) | (simp; omega)))⟩

/-- What Find answers: the rule's ID and 0; 0 and 7, if there is none; 0 and 4, if the key is none. -/
def FindIs (L : List Ent) (x0 x1 x2 x3 x4 : Int) (a b : Int) : Prop :=
  if keyB x0 x1 x2 x3 x4 = true then ∃ res, Foremost (fun e => e ∈ L) x0 x1 x2 x3 x4 res ∧ a = (match res with | some r => r.2.id | none => 0) ∧ b = (match res with | some _ => 0 | none => 7) else a = 0 ∧ b = 4

theorem tfind_any (t : Nat) (x0 x1 x2 x3 x4 : Int) (w : World) (F : Nat → Prop) (L : List Ent) (h : TabIs w t F L) :
    Calls Tryz.prog 16 #[.pointer (some ⟨t, 0, none⟩), .agg #[.int .i64 x0, .int .i64 x1, .int .i64 x2, .int .i64 x3, .int .i64 x4]] w fun e w' => ∃ a b, e = .returned (.tuple #[.int .i64 a, .int .i64 b]) ∧ FindIs L x0 x1 x2 x3 x4 a b ∧ Below w.heap.size w w' := by
  obtain ⟨b1, b2, sv1, sv2, LI, T, hm, hlen, rfl⟩ := h
  by_cases hk : keyB x0 x1 x2 x3 x4 = true
  · have hex : ∀ h : Nat, ∃ tb, h < 6 → w.cell? ⟨t, 2 + h, none⟩ = some (.pointer (some ⟨tb, 0, none⟩)) ∧ TreeAt w 12 tb (flt h L) := fun h => by
      by_cases hh : h < 6
      · obtain ⟨tb, c⟩ := T.tree h hh
        exact ⟨tb, fun _ => c⟩
      · exact ⟨0, fun h => absurd h hh⟩
    have := Classical.axiomOfChoice hex
    obtain ⟨tb, htb⟩ := this
    refine (find_key t x0 x1 x2 x3 x4 w T.laid hk tb (fun h => flt h L) (fun h hh => (htb h hh).1) (fun h hh => ⟨(htb h hh).2, T.sR.filter _, Nat.le_trans (List.length_filter_le _ _) T.mR.2.2.2.2, fun e he => T.ent e (List.mem_filter.1 he).1⟩)).mono ?_
    rintro e w' ⟨res, hf, rfl, hb⟩
    refine ⟨_, _, rfl, ?_, hb⟩
    unfold FindIs
    rw [if_pos hk]
    refine ⟨res, hf.congr fun e => ⟨fun ⟨h, _, he⟩ => (List.mem_filter.1 he).1, fun he => ?_⟩, rfl, rfl⟩
    obtain ⟨k, hk6, hk⟩ := home_nat e.2
    exact ⟨k, hk6, List.mem_filter.2 ⟨he, by simp [hk]⟩⟩
  · have hk' : keyB x0 x1 x2 x3 x4 = false := by simpa using hk
    refine (find_none t x0 x1 x2 x3 x4 w T.laid hk').mono ?_
    rintro e w' ⟨rfl, hb⟩
    refine ⟨0, 4, rfl, ?_, hb⟩
    unfold FindIs
    rw [if_neg hk]
    exact ⟨rfl, rfl⟩

/-- A table that is being made: k of its trees have been grown. -/
structure Pre (w : World) (t b1 b2 k : Nat) : Prop where
  laid : Laid w
  c0 : w.cell? ⟨t, 0, none⟩ = some (.pointer (some ⟨b1, 0, none⟩))
  c1 : w.cell? ⟨t, 1, none⟩ = some (.pointer (some ⟨b2, 0, none⟩))
  tf : ∀ j, w.frozen? ⟨t, j, none⟩ = false
  mI : MapI w b1 (.slice none 0 0) []
  mR : MapR w b2 (.slice none 0 0) []
  raw : ∀ h, h < 6 → ∃ p, w.cell? ⟨t, 2 + h, none⟩ = some (.pointer p)
  tree : ∀ h, h < k → ∃ tb, w.cell? ⟨t, 2 + h, none⟩ = some (.pointer (some ⟨tb, 0, none⟩)) ∧ TreeAt w 12 tb []

theorem headI_nil (w : World) : HeadI w (.slice none 0 0) := fun _ h => by cases h
theorem headR_nil (w : World) : HeadR w (.slice none 0 0) := fun _ h => by cases h

theorem Pre.regrow {w : World} {t b1 b2 k : Nat} (h : Pre w t b1 b2 k) (hk : k < 6) :
    Calls Tryz.prog 36 #[.pointer (some ⟨t, 0, none⟩), .int .i64 k] w fun e w' => e = .returned (.tuple #[]) ∧ Pre w' t b1 b2 (k + 1) ∧ Chg (fun x => x = t) w w' := by
  have hF : Foreign w t := .inl ⟨b1, _, _, _, _, h.c0, h.c1, h.mI.1⟩
  have hX : ∀ x, x = t → Foreign w x := fun x hx => hx ▸ hF
  have n1 : b1 ≠ t := by
    rintro rfl
    have := h.mI.1
    rw [h.c0] at this; cases this
  have n2 : b2 ≠ t := by
    rintro rfl
    have := h.mR.1
    rw [h.c0] at this; cases this
  refine (regrow_any t b2 k hk (.slice none 0 0) w h.laid [] (by simp) h.c1 h.mR.2.1 ⟨none, 0, rfl, fun j hj => by simp at hj⟩ (h.raw k hk) h.tf hF).mono ?_
  rintro e w' ⟨rfl, b, hT, hb, hc, hf⟩
  refine ⟨rfl, ⟨h.laid.kept hb.block hX, (hc 0).trans ((if_neg (by omega)).trans h.c0), (hc 1).trans ((if_neg (by omega)).trans h.c1), fun j => (hf j).trans (h.tf j), h.mI.chg (headI_nil w) hb n1 (fun g hg => by cases hg), h.mR.chg (headR_nil w) hb n2 (fun g hg => by cases hg), fun j hj => ?_, fun j hj => ?_⟩, hb⟩
  · by_cases hjk : j = k
    · exact ⟨_, (hc _).trans (if_pos (by omega))⟩
    · obtain ⟨p, c⟩ := h.raw j hj
      exact ⟨p, (hc _).trans ((if_neg (by omega)).trans c)⟩
  · by_cases hjk : j = k
    · exact ⟨b, (hc _).trans (if_pos (by omega)), hT⟩
    · obtain ⟨tb, c, T⟩ := h.tree j (by omega)
      exact ⟨tb, (hc _).trans ((if_neg (by omega)).trans c), T.kept hb.block hX⟩

theorem Pre.done {w : World} {t b1 b2 : Nat} (h : Pre w t b1 b2 6) : TabIs w t (Mine t b1 b2 (.slice none 0 0) (.slice none 0 0)) [] :=
  ⟨b1, b2, .slice none 0 0, .slice none 0 0, [], ⟨h.laid, h.c0, h.c1, h.tf, h.mI, List.Pairwise.nil, headI_nil w, h.mR, List.Pairwise.nil, headR_nil w, (fun e he => by cases he), h.tree⟩, fun _ => Iff.rfl, rfl, rfl⟩

theorem Pre.start (w : World) (hl : Laid w) (t1 t2 t3 : TypeId) : Pre (((w.alloc (.cells #[.func (.func 33) #[] #[], .slice none 0 0] t1)).alloc (.cells #[.func (.func 35) #[] #[], .slice none 0 0] t2)).alloc (.cells #[.pointer (some ⟨w.heap.size, 0, none⟩), .pointer (some ⟨w.heap.size + 1, 0, none⟩), .pointer none, .pointer none, .pointer none, .pointer none, .pointer none, .pointer none] t3)) (w.heap.size + 1 + 1) w.heap.size (w.heap.size + 1) 0 := by
  obtain ⟨W1, h1⟩ : ∃ W1, W1 = w.alloc (.cells #[.func (.func 33) #[] #[], .slice none 0 0] t1) := ⟨_, rfl⟩
  rw [← h1]
  have s1 : W1.heap.size = w.heap.size + 1 := by rw [h1]; exact alloc_size _ _
  have n1 : W1.heap[w.heap.size]? = some (.cells #[.func (.func 33) #[] #[], .slice none 0 0] t1 (0, 0)) := by rw [h1]; exact alloc_new _ _
  have b1 : Below w.heap.size w W1 := by rw [h1]; exact (Below.refl _ w).alloc (Nat.le_refl _) _
  obtain ⟨W2, h2⟩ : ∃ W2, W2 = W1.alloc (.cells #[.func (.func 35) #[] #[], .slice none 0 0] t2) := ⟨_, rfl⟩
  rw [← h2]
  have s2 : W2.heap.size = w.heap.size + 1 + 1 := by rw [h2, alloc_size, s1]
  have n2 : W2.heap[w.heap.size + 1]? = some (.cells #[.func (.func 35) #[] #[], .slice none 0 0] t2 (0, 0)) := by rw [h2, ← s1]; exact alloc_new _ _
  have b2 : Below W1.heap.size W1 W2 := by rw [h2]; exact (Below.refl _ W1).alloc (Nat.le_refl _) _
  obtain ⟨W3, h3⟩ : ∃ W3, W3 = W2.alloc (.cells #[.pointer (some ⟨w.heap.size, 0, none⟩), .pointer (some ⟨w.heap.size + 1, 0, none⟩), .pointer none, .pointer none, .pointer none, .pointer none, .pointer none, .pointer none] t3) := ⟨_, rfl⟩
  rw [← h3]
  have n3 : W3.heap[w.heap.size + 1 + 1]? = some (.cells #[.pointer (some ⟨w.heap.size, 0, none⟩), .pointer (some ⟨w.heap.size + 1, 0, none⟩), .pointer none, .pointer none, .pointer none, .pointer none, .pointer none, .pointer none] t3 (0, 0)) := by rw [h3, ← s2]; exact alloc_new _ _
  have b3 : Below W2.heap.size W2 W3 := by rw [h3]; exact (Below.refl _ W2).alloc (Nat.le_refl _) _
  have m1 : W3.heap[w.heap.size]? = some (.cells #[.func (.func 33) #[] #[], .slice none 0 0] t1 (0, 0)) := (b3.block _ (by omega)).trans ((b2.block _ (by omega)).trans n1)
  have m2 : W3.heap[w.heap.size + 1]? = some (.cells #[.func (.func 35) #[] #[], .slice none 0 0] t2 (0, 0)) := (b3.block _ (by omega)).trans n2
  have fr : ∀ {b : Nat} {cs : Array Value} {t : TypeId}, W3.heap[b]? = some (.cells cs t (0, 0)) → ∀ j, W3.frozen? ⟨b, j, none⟩ = false := fun h j => by simp [World.frozen?, h]
  refine ⟨((hl.below b1 hl.pos).below b2 (by omega)).below b3 (by omega), cell_in_row n3 rfl, cell_in_row n3 rfl, fr n3, ⟨cell_in_row m1 rfl, cell_in_row m1 rfl, ⟨rfl, .inl ⟨rfl, rfl⟩⟩, fr m1, by simp⟩, ⟨cell_in_row m2 rfl, cell_in_row m2 rfl, ⟨rfl, .inl ⟨rfl, rfl⟩⟩, fr m2, by simp⟩, fun h hh => ?_, fun h hh => absurd hh (by omega)⟩
  match h, hh with
  | 0, _ => exact ⟨_, cell_in_row n3 rfl⟩
  | 1, _ => exact ⟨_, cell_in_row n3 rfl⟩
  | 2, _ => exact ⟨_, cell_in_row n3 rfl⟩
  | 3, _ => exact ⟨_, cell_in_row n3 rfl⟩
  | 4, _ => exact ⟨_, cell_in_row n3 rfl⟩
  | 5, _ => exact ⟨_, cell_in_row n3 rfl⟩
  | n + 6, h => exact absurd h (by omega)

set_option maxRecDepth 100000 in
set_option maxHeartbeats 1000000 in
theorem tnew_any (w : World) (hl : Laid w) :
    Calls Tryz.prog 14 #[] w fun e w' => ∃ t F, e = .returned (.pointer (some ⟨t, 0, none⟩)) ∧ TabIs w' t F [] ∧ (∀ x, F x → w.heap.size ≤ x) ∧ Below w.heap.size w w' := by
  have HP := hide (Pre.start w hl 169 172 106)
  clear hl
  go_enter Tryz.func14, Tryz.ntmps14
  go_wp2_with (first | (go_at_call 32; refine (newI_any _).mono ?_; rintro e w' ⟨rfl, rfl⟩) | (go_at_call 34; refine (newR_any _).mono ?_; rintro e w' ⟨rfl, rfl⟩))
  go_loopw [7] (fun i wr => ∃ k : Nat, k ≤ 6 ∧ i = .int .i64 k ∧ Below w.heap.size w wr ∧ Pre wr (w.heap.size + 1 + 1) w.heap.size (w.heap.size + 1) k) (fun i _ => 6 - (intOf i).toNat)
  case atStart => exact ⟨0, by omega, rfl, (by repeat (first | exact Below.refl _ _ | assumption | refine Below.drewN ?_ | refine Below.drew ?_ | refine Below.setCell ?_ (by first | exact Nat.le_refl _ | omega | (simp; done) | (simp; omega)) _ | refine Below.alloc ?_ (by first | exact Nat.le_refl _ | omega | (simp; done) | (simp; omega)) _)), HP.out⟩
  case round =>
    obtain ⟨k, hk, rfl, hb, hp⟩ := hrel
    by_cases hk6 : k < 6
    · have CR := hide (hp.regrow hk6)
      have hki : (k : Int) < 6 := by omega
      have HB := hide hb
      clear hb hp HP
      go_wp2_with (first | (go_at_call 36; refine CR.out.mono ?_; rintro e w2 ⟨rfl, hP2, hC2⟩; have P2 := hide hP2; have C2 := hide hC2; clear hP2 hC2))
      go_roundw
      case rel => exact ⟨k + 1, by omega, by go_num, HB.out.trans (C2.out.below HB.out.size (fun x hx => by omega)), P2.out⟩
      case measure => simp [intOf]; omega
    · obtain rfl : k = 6 := by omega
      have HPP := hide hp
      have HB := hide hb
      clear hb hp HP
      go_wp2
      go_ret
      refine ⟨_, _, rfl, HPP.out.done, ?_, HB.out⟩
      rintro x (h | (h | h) | (h | h))
      · omega
      · omega
      · cases h
      · omega
      · cases h

end Go.Proofs.YtnjalelblbjfiaaGreatDoor
