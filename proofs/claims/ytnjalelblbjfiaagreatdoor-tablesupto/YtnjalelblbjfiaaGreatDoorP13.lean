import Derived.Test.YtnjalelblbjfiaaGreatDoorP12
namespace Go.Proofs.YtnjalelblbjfiaaGreatDoor
open Go.RowKit

/-- The head of a map's array, if it has one. -/
def HeadI (w : World) (sv : Value) : Prop := ∀ g, sv.ownBlock = some g → ∃ n p, w.cell? ⟨g, 0, none⟩ = some (.int .i64 n) ∧ w.cell? ⟨g, 1, none⟩ = some (.pointer p)
def HeadR (w : World) (sv : Value) : Prop := ∀ g, sv.ownBlock = some g → ∃ n m p, w.cell? ⟨g, 0, none⟩ = some (.int .i64 n) ∧ w.cell? ⟨g, 1, none⟩ = some (.int .i64 m) ∧ w.cell? ⟨g, 2, none⟩ = some (.pointer p)
theorem HeadI.foreign {w : World} {sv : Value} {g : Nat} (h : HeadI w sv) (hg : sv.ownBlock = some g) : Foreign w g := by
  obtain ⟨n, p, h0, h1⟩ := h g hg
  exact .inr (.inr (.inl ⟨n, p, h0, h1⟩))
theorem HeadR.foreign {w : World} {sv : Value} {g : Nat} (h : HeadR w sv) (hg : sv.ownBlock = some g) : Foreign w g := by
  obtain ⟨n, m, p, h0, h1, h2⟩ := h g hg
  exact .inr (.inr (.inr (.inl ⟨n, m, p, h0, h1, h2⟩)))

theorem pw_ins {α : Type} {R : α → α → Prop} {L : List α} (i : Nat) (e : α) (hs : L.Pairwise R) (h1 : ∀ a ∈ L.take i, R a e) (h2 : ∀ a ∈ L.drop i, R e a) : (L.take i ++ e :: L.drop i).Pairwise R := by
  have hs' := hs
  rw [← List.take_append_drop i L, List.pairwise_append] at hs'
  rw [List.pairwise_append]
  refine ⟨hs'.1, List.pairwise_cons.2 ⟨h2, hs'.2.1⟩, fun a ha b hb => ?_⟩
  rcases List.mem_cons.1 hb with rfl | hb
  · exact h1 a ha
  · exact hs'.2.2 a ha b hb
theorem mem_ins {α : Type} {L : List α} (i : Nat) (e x : α) : x ∈ L.take i ++ e :: L.drop i ↔ x = e ∨ x ∈ L := by
  have : x ∈ L ↔ x ∈ L.take i ∨ x ∈ L.drop i := by rw [← List.mem_append, List.take_append_drop]
  rw [this, List.mem_append, List.mem_cons]
  constructor
  · rintro (h | h | h)
    · exact .inr (.inl h)
    · exact .inl h
    · exact .inr (.inr h)
  · rintro (h | h | h)
    · exact .inr (.inl h)
    · exact .inl h
    · exact .inr (.inr h)
theorem length_ins {α : Type} {L : List α} {i : Nat} (e : α) (h : i ≤ L.length) : (L.take i ++ e :: L.drop i).length = L.length + 1 := by
  simp only [List.length_append, List.length_take, List.length_cons, List.length_drop]; omega
theorem filter_cut {α : Type} {L : List α} {i : Nat} (p : α → Bool) (h : i < L.length) (h0 : p L[i] = false) (h1 : ∀ j (hj : j < L.length), j ≠ i → p L[j] = true) : L.take i ++ L.drop (i + 1) = L.filter p := by
  have e : L = L.take i ++ L[i] :: L.drop (i + 1) := by rw [← List.drop_eq_getElem_cons h, List.take_append_drop]
  conv => rhs; rw [e]
  rw [List.filter_append, List.filter_cons, h0]
  simp only [Bool.false_eq_true, if_false]
  rw [List.filter_eq_self.2, List.filter_eq_self.2]
  · intro a ha
    obtain ⟨j, hj, rfl⟩ := List.getElem_of_mem ha
    rw [List.getElem_drop]
    exact h1 _ _ (by omega)
  · intro a ha
    obtain ⟨j, hj, rfl⟩ := List.getElem_of_mem ha
    rw [List.getElem_take]
    rw [List.length_take] at hj
    exact h1 _ _ (by omega)

theorem rowI_append (L M : List Ent) : rowI (L ++ M) = rowI L ++ rowI M := by simp [rowI]
theorem rowR_append (L M : List Ent) : rowR (L ++ M) = rowR L ++ rowR M := by simp [rowR]
theorem rowI_take (L : List Ent) (i : Nat) : (rowI L).take (i * 2) = rowI (L.take i) := by
  rcases Nat.lt_or_ge L.length i with h | h
  · rw [List.take_of_length_le (by rw [rowI_length]; omega), List.take_of_length_le (by omega)]
  · have e := congrArg rowI (List.take_append_drop i L).symm
    rw [rowI_append] at e
    rw [e, List.take_append_of_le_length (by rw [rowI_length, List.length_take]; omega), List.take_of_length_le (by rw [rowI_length, List.length_take]; omega)]
theorem rowI_drop (L : List Ent) (i : Nat) : (rowI L).drop (i * 2) = rowI (L.drop i) := by
  rcases Nat.lt_or_ge L.length i with h | h
  · rw [List.drop_eq_nil_of_le (by rw [rowI_length]; omega), List.drop_eq_nil_of_le (by omega)]; rfl
  · have e := congrArg rowI (List.take_append_drop i L).symm
    rw [rowI_append] at e
    have l : (rowI (L.take i)).length = i * 2 := by rw [rowI_length, List.length_take]; omega
    rw [e, ← l, List.drop_left]
theorem rowR_take (L : List Ent) (i : Nat) : (rowR L).take (i * 3) = rowR (L.take i) := by
  rcases Nat.lt_or_ge L.length i with h | h
  · rw [List.take_of_length_le (by rw [rowR_length]; omega), List.take_of_length_le (by omega)]
  · have e := congrArg rowR (List.take_append_drop i L).symm
    rw [rowR_append] at e
    rw [e, List.take_append_of_le_length (by rw [rowR_length, List.length_take]; omega), List.take_of_length_le (by rw [rowR_length, List.length_take]; omega)]
theorem rowR_drop (L : List Ent) (i : Nat) : (rowR L).drop (i * 3) = rowR (L.drop i) := by
  rcases Nat.lt_or_ge L.length i with h | h
  · rw [List.drop_eq_nil_of_le (by rw [rowR_length]; omega), List.drop_eq_nil_of_le (by omega)]; rfl
  · have e := congrArg rowR (List.take_append_drop i L).symm
    rw [rowR_append] at e
    have l : (rowR (L.take i)).length = i * 3 := by rw [rowR_length, List.length_take]; omega
    rw [e, ← l, List.drop_left]
theorem rowI_one {L : List Ent} : ∀ u ∈ rowI L, u.oneCell' = true := by
  intro u hu
  obtain ⟨e, _, h⟩ := List.mem_flatMap.1 hu
  simp at h
  rcases h with rfl | rfl <;> rfl
theorem rowR_one {L : List Ent} : ∀ u ∈ rowR L, u.oneCell' = true := by
  intro u hu
  obtain ⟨e, _, h⟩ := List.mem_flatMap.1 hu
  simp at h
  rcases h with rfl | rfl | rfl <;> rfl

theorem ownsRow_same {w w' : World} {B : Nat} {t : TypeId} {s n : Nat} {sv : Value} {xs : List Value} (h : w.ownsRow B t s sv n xs) (hs : ∀ g, sv.ownBlock = some g → w'.heap[g]? = w.heap[g]?) : w'.ownsRow B t s sv n xs := by
  refine ⟨h.1, ?_⟩
  rcases h.2 with h | ⟨g, cap, cur, rfl, hb, hg, hr⟩
  · exact .inl h
  · exact .inr ⟨g, cap, cur, rfl, hb, (hs g rfl).trans hg, hr⟩

theorem Chg.setCell {X : Nat → Prop} {a b : World} {p : Addr} (h : Chg X a b) (hx : X p.block ∨ a.heap.size ≤ p.block) (v : Value) : Chg X a (b.setCell p v) :=
  ⟨h.os, h.tape, h.output, by rw [World.size_setCell]; exact h.size, fun k hk hX => (Below.heap_setCell _ _ _ _ (by intro e; rcases hx with hx | hx; exact hX (e ▸ hx); omega)).trans (h.block k hk hX)⟩

theorem HeadI.ne {w : World} {sv : Value} {m g : Nat} {fn : Fn} {f c : Array Value} (h : HeadI w sv) (hg : sv.ownBlock = some g) (hm : w.cell? ⟨m, 0, none⟩ = some (.func fn f c)) : m ≠ g := by
  rintro rfl
  obtain ⟨n, p, h0, _⟩ := h m hg
  rw [hm] at h0; cases h0

end Go.Proofs.YtnjalelblbjfiaaGreatDoor

namespace Go.Proofs.YtnjalelblbjfiaaGreatDoor
open Go.RowKit

theorem alloc_new (w : World) (o : Obj) : (w.alloc o).heap[w.heap.size]? = some o := by
  show (w.heap.push o)[w.heap.size]? = some o
  simp
theorem alloc_size (w : World) (o : Obj) : (w.alloc o).heap.size = w.heap.size + 1 := by
  show (w.heap.push o).size = _
  simp

theorem HeadI.of_row {w : World} {sv : Value} {L : List Ent} (h : w.ownsRow 0 184 2 sv L.length (rowI L)) (h0 : 0 < L.length) : HeadI w sv := by
  obtain ⟨a, cap, g, rfl, hc⟩ := rowI_cells h
  obtain ⟨rfl, c0, c1⟩ := hc 0 h0
  intro g' hg'
  obtain rfl : g = g' := by simpa [Value.ownBlock] using hg'
  exact ⟨_, _, c0, c1⟩

/-- What a map's block holds behind a store of its entries. -/
theorem mapI_stored {w w2 : World} {m : Nat} {sv sv' : Value} {L' : List Ent} (h0 : w2.cell? ⟨m, 0, none⟩ = some (.func (.func 33) #[] #[])) (h1 : w2.cell? ⟨m, 1, none⟩ = some sv) (hf : ∀ j, w2.frozen? ⟨m, j, none⟩ = false) (ho : w2.ownsRow 0 184 2 sv' L'.length (rowI L')) (hne : ∀ g, sv'.ownBlock = some g → m ≠ g) (hl : L'.length ≤ 200)
    (hw : w = w2.setCell ⟨m, 1, none⟩ sv') : MapI w m sv' L' := by
  subst hw
  refine ⟨?_, ?_, ownsRow_same ho fun g hg => Below.heap_setCell _ _ _ _ (hne g hg).symm, fun j => ?_, hl⟩
  · rw [World.cell?_setCell_other _ _ _ _ (by simp)]; exact h0
  · exact World.cell?_setCell_same _ _ _ h1
  · rw [World.frozen?_setCell]; exact hf j

set_option maxRecDepth 100000 in
set_option maxHeartbeats 1000000 in
theorem putI_any (m : Nat) (sv : Value) (L : List Ent) (e0 : Ent) (w : World) (hm : MapI w m sv L) (hs : SortedI L) (hh : HeadI w sv) (hno : byId L e0.2.id = none) (hn : L.length ≤ 199) :
    Calls Tryz.prog 41 #[.pointer (some ⟨m, 0, none⟩), .int .i64 e0.2.id, .pointer (some ⟨e0.1, 0, none⟩)] w fun e w' => e = .returned (.tuple #[]) ∧
      ∃ sv' L', MapI w' m sv' L' ∧ SortedI L' ∧ HeadI w' sv' ∧ (∀ x, x ∈ L' ↔ x = e0 ∨ x ∈ L) ∧ L'.length = L.length + 1 ∧ (∀ b, sv'.ownBlock = some b → sv.ownBlock = some b ∨ w.heap.size ≤ b) ∧ Chg (fun b => b = m ∨ sv.ownBlock = some b) w w' := by
  have CP := hide (placeI_any m sv L e0.2.id w hm hs)
  obtain ⟨h0, h1, h2, h3, h4⟩ := hm
  obtain ⟨a, cap, g, rfl, hc⟩ := rowI_cells h2
  have hmlt : m < w.heap.size := block_lt_of_cell h0
  have hne : ∀ b, (Value.slice a L.length cap).ownBlock = some b → m ≠ b := fun b hb => hh.ne hb h0
  have HO := hide h2
  have HS := hide hs
  have HH := hide hh
  have H3 := hide h3
  have HNE := hide hne
  clear h2 h3 hs hh hc hne
  go_enter Tryz.func41, Tryz.ntmps41
  go_wp2_with fail
  refine CP.out.mono ?_
  rintro e w1 ⟨i, hi, hL, hR, rfl, hb⟩
  have HF := hide (byId_place hL hR HS.out)
  have hx : (decide (i < L.length) && (idAt L i == e0.2.id)) = false := by
    rw [← Bool.not_eq_true, Bool.and_eq_true, decide_eq_true_eq, beq_iff_eq]
    intro h
    have := HF.out
    rw [dif_pos h, hno] at this
    cases this
  have HL := hide hL
  have HR := hide hR
  have k0 := cell_later hb h0
  have k1 := cell_later hb h1
  have HB := hide hb
  have hsz := hb.size
  have hm1 : m < w1.heap.size := by omega
  clear CP hL hR hb HF h0 h1
  go_wp2_with fail
  obtain ⟨W, hW⟩ : ∃ W, W = w1.alloc (.cells #[.int .i64 e0.2.id, .pointer (some ⟨e0.1, 0, none⟩)] 184) := ⟨_, rfl⟩
  have BW : Below w1.heap.size w1 W := by rw [hW]; exact (Below.refl _ w1).alloc (Nat.le_refl _) _
  have hWn : W.heap[w1.heap.size]? = some (.cells #[.int .i64 e0.2.id, .pointer (some ⟨e0.1, 0, none⟩)] 184 (0, 0)) := by rw [hW]; exact alloc_new _ _
  have hWs : W.heap.size = w1.heap.size + 1 := by rw [hW]; exact alloc_size _ _
  have oW : W.ownsRow 0 184 2 (.slice a L.length cap) L.length (rowI L) := ownsRow_same HO.out fun b hb => by
    have : b < w.heap.size := by obtain ⟨n, p, c0, _⟩ := HH.out b hb; exact block_lt_of_cell c0
    exact (BW.block b (by omega)).trans (HB.out.block b this)
  have CI := insI_any (.slice a L.length cap) L.length i (rowI L) w1.heap.size 184 2 [.int .i64 e0.2.id, .pointer (some ⟨e0.1, 0, none⟩)] W oW rowI_one hi hn rfl
    (fun j u hj => cell_in_row hWn hj) (by simp [Value.oneCell']) (fun hb => by obtain ⟨n, p, c0, _⟩ := HH.out w1.heap.size hb; have : w1.heap.size < w.heap.size := block_lt_of_cell c0; omega) (by simp [World.shape?, hWn]) (fun j => by simp [World.frozen?, hWn])
  rw [← hW]
  refine CI.mono ?_
  rintro e w2 ⟨g2, cap2, rfl, hown2, hat2, hch2⟩
  have hb2 : w2.heap[m]? = w.heap[m]? := (hch2.block m (by omega) fun h => HNE.out m h rfl).trans ((BW.block m hm1).trans (HB.out.block m hmlt))
  have hc2 : ∀ j, w2.cell? ⟨m, j, none⟩ = w.cell? ⟨m, j, none⟩ := fun j => World.cell?_of_block (a := ⟨m, j, none⟩) hb2
  have hf2 : ∀ j, w2.frozen? ⟨m, j, none⟩ = false := fun j => (World.frozen?_of_block (a := ⟨m, j, none⟩) hb2).trans (H3.out j)
  have d0 : w2.cell? ⟨m, 0, none⟩ = some (.func (.func 33) #[] #[]) := (hc2 0).trans ((HB.out.cell (p := ⟨m, 0, none⟩) hmlt).symm.trans k0)
  have d1 : w2.cell? ⟨m, 1, none⟩ = some (.slice a L.length cap) := (hc2 1).trans ((HB.out.cell (p := ⟨m, 1, none⟩) hmlt).symm.trans k1)
  have hf1 := hf2 1
  have hlen : (L.take i ++ e0 :: L.drop i).length = L.length + 1 := length_ins e0 hi
  have hrow : (rowI L).take (i * 2) ++ [.int .i64 e0.2.id, .pointer (some ⟨e0.1, 0, none⟩)] ++ (rowI L).drop (i * 2) = rowI (L.take i ++ e0 :: L.drop i) := by
    rw [rowI_take, rowI_drop, rowI_append]; simp [rowI]
  rw [hrow] at hown2
  have hgm : ∀ g, (Value.slice (some ⟨g2, 0, none⟩) (L.length + 1) cap2).ownBlock = some g → m ≠ g := fun g hg => by
    obtain rfl : g2 = g := by simpa [Value.ownBlock] using hg
    rcases hat2 with h | h
    · exact HNE.out _ h
    · omega
  have hnew : ∀ x, x ∈ L → x.2.id ≠ e0.2.id := fun x hx he => by
    have := List.find?_eq_none.1 hno x hx
    simp [he] at this
  have P := hide (show ∀ w3, w3 = w2.setCell ⟨m, 1, none⟩ (.slice (some ⟨g2, 0, none⟩) (L.length + 1) cap2) → ∃ sv' L', MapI w3 m sv' L' ∧ SortedI L' ∧ HeadI w3 sv' ∧ (∀ x, x ∈ L' ↔ x = e0 ∨ x ∈ L) ∧ L'.length = L.length + 1 ∧ (∀ b, sv'.ownBlock = some b → (Value.slice a L.length cap).ownBlock = some b ∨ w.heap.size ≤ b) ∧ Chg (fun b => b = m ∨ (Value.slice a L.length cap).ownBlock = some b) w w3 from by
    intro w3 hw3
    have hM : MapI w3 m (.slice (some ⟨g2, 0, none⟩) (L.length + 1) cap2) (L.take i ++ e0 :: L.drop i) := mapI_stored d0 d1 hf2 (by rw [hlen]; exact hown2) hgm (by omega) hw3
    refine ⟨_, _, hM, ?_, HeadI.of_row hM.2.2.1 (by omega), mem_ins i e0, hlen, ?_, ?_⟩
    · refine pw_ins i e0 HS.out (fun x hx => ?_) (fun x hx => ?_)
      · obtain ⟨j, hj, rfl⟩ := List.getElem_of_mem hx
        rw [List.length_take] at hj
        rw [List.getElem_take]
        have := HL.out j (by omega)
        rwa [idAt_eq (by omega)] at this
      · have hne := hnew x (List.mem_of_mem_drop hx)
        obtain ⟨j, hj, rfl⟩ := List.getElem_of_mem hx
        rw [List.length_drop] at hj
        rw [List.getElem_drop] at hne ⊢
        have := HR.out (i + j) (by omega) (by omega)
        rw [idAt_eq (by omega)] at this
        omega
    · intro b hb
      obtain rfl : g2 = b := by simpa [Value.ownBlock] using hb
      rcases hat2 with h | h
      · exact .inl h
      · exact .inr (by omega)
    · rw [hw3]
      refine Chg.setCell ?_ (.inl (.inl rfl)) _
      exact ((Chg.of_below HB.out).trans ((Chg.of_below BW).trans (hch2.mono fun x _ hx => .inr hx))))
  clear hown2 hat2 hch2 hb2 hc2 hf2 d0 hrow hgm hnew CI oW hWn hWs BW hW HL HR HO HH HNE HS HB hno H3 hlen
  go_wp2
  go_end0
  exact ⟨rfl, P.out _ rfl⟩

end Go.Proofs.YtnjalelblbjfiaaGreatDoor

namespace Go.Proofs.YtnjalelblbjfiaaGreatDoor
open Go.RowKit

theorem HeadR.of_row {w : World} {sv : Value} {L : List Ent} (h : w.ownsRow 0 189 3 sv L.length (rowR L)) (h0 : 0 < L.length) : HeadR w sv := by
  obtain ⟨a, cap, g, rfl, hc⟩ := rowR_cells h
  obtain ⟨rfl, c0, c1, c2⟩ := hc 0 h0
  intro g' hg'
  obtain rfl : g = g' := by simpa [Value.ownBlock] using hg'
  exact ⟨_, _, _, c0, c1, c2⟩

/-- What a map's block holds behind a store of its entries. -/
theorem mapR_stored {w w2 : World} {m : Nat} {sv sv' : Value} {L' : List Ent} (h0 : w2.cell? ⟨m, 0, none⟩ = some (.func (.func 35) #[] #[])) (h1 : w2.cell? ⟨m, 1, none⟩ = some sv) (hf : ∀ j, w2.frozen? ⟨m, j, none⟩ = false) (ho : w2.ownsRow 0 189 3 sv' L'.length (rowR L')) (hne : ∀ g, sv'.ownBlock = some g → m ≠ g) (hl : L'.length ≤ 200)
    (hw : w = w2.setCell ⟨m, 1, none⟩ sv') : MapR w m sv' L' := by
  subst hw
  refine ⟨?_, ?_, ownsRow_same ho fun g hg => Below.heap_setCell _ _ _ _ (hne g hg).symm, fun j => ?_, hl⟩
  · rw [World.cell?_setCell_other _ _ _ _ (by simp)]; exact h0
  · exact World.cell?_setCell_same _ _ _ h1
  · rw [World.frozen?_setCell]; exact hf j

theorem HeadR.ne {w : World} {sv : Value} {m g : Nat} {fn : Fn} {f c : Array Value} (h : HeadR w sv) (hg : sv.ownBlock = some g) (hm : w.cell? ⟨m, 0, none⟩ = some (.func fn f c)) : m ≠ g := by
  rintro rfl
  obtain ⟨n, n', p, h0, _⟩ := h m hg
  rw [hm] at h0; cases h0
theorem HeadR.lt {w : World} {sv : Value} {g : Nat} (h : HeadR w sv) (hg : sv.ownBlock = some g) : g < w.heap.size := by
  obtain ⟨n, n', p, h0, _⟩ := h g hg
  exact block_lt_of_cell h0
theorem HeadI.lt {w : World} {sv : Value} {g : Nat} (h : HeadI w sv) (hg : sv.ownBlock = some g) : g < w.heap.size := by
  obtain ⟨n, p, h0, _⟩ := h g hg
  exact block_lt_of_cell h0
theorem HeadR.chg {w w' : World} {sv : Value} {X : Nat → Prop} (h : HeadR w sv) (hb : Chg X w w') (hX : ∀ g, sv.ownBlock = some g → ¬ X g) : HeadR w' sv := by
  intro g hg
  obtain ⟨n, n', p, h0, h1, h2⟩ := h g hg
  exact ⟨n, n', p, hb.block.cell (hX g hg) h0, hb.block.cell (hX g hg) h1, hb.block.cell (hX g hg) h2⟩
theorem HeadI.chg {w w' : World} {sv : Value} {X : Nat → Prop} (h : HeadI w sv) (hb : Chg X w w') (hX : ∀ g, sv.ownBlock = some g → ¬ X g) : HeadI w' sv := by
  intro g hg
  obtain ⟨n, p, h0, h1⟩ := h g hg
  exact ⟨n, p, hb.block.cell (hX g hg) h0, hb.block.cell (hX g hg) h1⟩
theorem MapR.chg {w w' : World} {m : Nat} {sv : Value} {L : List Ent} {X : Nat → Prop} (h : MapR w m sv L) (hh : HeadR w sv) (hb : Chg X w w') (hm : ¬ X m) (hX : ∀ g, sv.ownBlock = some g → ¬ X g) : MapR w' m sv L := by
  obtain ⟨h0, h1, h2, h3, h4⟩ := h
  exact ⟨hb.block.cell hm h0, hb.block.cell hm h1, ownsRow_same h2 fun g hg => hb.block g (hh.lt hg) (hX g hg), fun j => (World.frozen?_of_block (a := ⟨m, j, none⟩) (hb.block m (block_lt_of_cell h0) hm)).trans (h3 j), h4⟩
theorem MapI.chg {w w' : World} {m : Nat} {sv : Value} {L : List Ent} {X : Nat → Prop} (h : MapI w m sv L) (hh : HeadI w sv) (hb : Chg X w w') (hm : ¬ X m) (hX : ∀ g, sv.ownBlock = some g → ¬ X g) : MapI w' m sv L := by
  obtain ⟨h0, h1, h2, h3, h4⟩ := h
  exact ⟨hb.block.cell hm h0, hb.block.cell hm h1, ownsRow_same h2 fun g hg => hb.block g (hh.lt hg) (hX g hg), fun j => (World.frozen?_of_block (a := ⟨m, j, none⟩) (hb.block m (block_lt_of_cell h0) hm)).trans (h3 j), h4⟩

/-- What Put leaves. -/
def PutR (m : Nat) (sv : Value) (L : List Ent) (e0 : Ent) (w w3 : World) : Prop :=
  ∃ sv' L', MapR w3 m sv' L' ∧ Sorted L' ∧ HeadR w3 sv' ∧ (∀ x, x ∈ L' ↔ x = e0 ∨ x ∈ L) ∧ L'.length = L.length + 1 ∧ (∀ b, sv'.ownBlock = some b → sv.ownBlock = some b ∨ w.heap.size ≤ b) ∧ Chg (fun b => b = m ∨ sv.ownBlock = some b) w w3

theorem putR_ins (m : Nat) (a : Option Addr) (cap i : Nat) (L : List Ent) (e0 : Ent) (w w1 W : World) (hM : MapR w m (.slice a L.length cap) L) (hs : Sorted L) (hh : HeadR w (.slice a L.length cap)) (hno : ∀ x ∈ L, ¬ (x.2.pr = e0.2.pr ∧ x.2.id = e0.2.id)) (hn : L.length ≤ 199) (hi : i ≤ L.length)
    (hL : ∀ j, j < i → cAt L e0.2.pr e0.2.id j < 0) (hR : ∀ j, i ≤ j → j < L.length → 0 ≤ cAt L e0.2.pr e0.2.id j) (hb : Below w.heap.size w w1) (BW : Below w1.heap.size w1 W) (hWn : W.heap[w1.heap.size]? = some (.cells #[.int .i64 e0.2.pr, .int .i64 e0.2.id, .pointer (some ⟨e0.1, 0, none⟩)] 189 (0, 0))) :
    Calls Tryz.prog 93 #[.slice a L.length cap, .int .i64 i, .slice (some ⟨w1.heap.size, 0, none⟩) 1 1] W fun e w2 => ∃ g2 cap2, e = .returned (.slice (some ⟨g2, 0, none⟩) (L.length + 1) cap2) ∧ w2.cell? ⟨m, 1, none⟩ = some (.slice a L.length cap) ∧ w2.frozen? ⟨m, 1, none⟩ = false ∧ (∀ b j v, w.heap.size ≤ b → w1.cell? ⟨b, j, none⟩ = some v → w2.cell? ⟨b, j, none⟩ = some v) ∧ PutR m (.slice a L.length cap) L e0 w (w2.setCell ⟨m, 1, none⟩ (.slice (some ⟨g2, 0, none⟩) (L.length + 1) cap2)) := by
  obtain ⟨h0, h1, h2, h3, h4⟩ := hM
  have hmlt : m < w.heap.size := block_lt_of_cell h0
  have hne : ∀ b, (Value.slice a L.length cap).ownBlock = some b → m ≠ b := fun b hb => hh.ne hb h0
  have hsz := hb.size
  have hm1 : m < w1.heap.size := by omega
  have hWs := BW.size
  have oW : W.ownsRow 0 189 3 (.slice a L.length cap) L.length (rowR L) := ownsRow_same h2 fun b hb' => (BW.block b (by have := hh.lt hb'; omega)).trans (hb.block b (hh.lt hb'))
  refine (insR_any (.slice a L.length cap) L.length i (rowR L) w1.heap.size 189 3 [.int .i64 e0.2.pr, .int .i64 e0.2.id, .pointer (some ⟨e0.1, 0, none⟩)] W oW rowR_one hi hn rfl
    (fun j u hj => cell_in_row hWn hj) (by simp [Value.oneCell']) (fun hb' => by have : w1.heap.size < w.heap.size := hh.lt hb'; omega) (by simp [World.shape?, hWn]) (fun j => by simp [World.frozen?, hWn])).mono ?_
  rintro e w2 ⟨g2, cap2, rfl, hown2, hat2, hch2⟩
  have hb2 : w2.heap[m]? = w.heap[m]? := (hch2.block m (by omega) fun h => hne m h rfl).trans ((BW.block m hm1).trans (hb.block m hmlt))
  have hc2 : ∀ j, w2.cell? ⟨m, j, none⟩ = w.cell? ⟨m, j, none⟩ := fun j => World.cell?_of_block (a := ⟨m, j, none⟩) hb2
  have hf2 : ∀ j, w2.frozen? ⟨m, j, none⟩ = false := fun j => (World.frozen?_of_block (a := ⟨m, j, none⟩) hb2).trans (h3 j)
  have hlen : (L.take i ++ e0 :: L.drop i).length = L.length + 1 := length_ins e0 hi
  have hrow : (rowR L).take (i * 3) ++ [.int .i64 e0.2.pr, .int .i64 e0.2.id, .pointer (some ⟨e0.1, 0, none⟩)] ++ (rowR L).drop (i * 3) = rowR (L.take i ++ e0 :: L.drop i) := by
    rw [rowR_take, rowR_drop, rowR_append]; simp [rowR]
  rw [hrow] at hown2
  have hgm : ∀ g, (Value.slice (some ⟨g2, 0, none⟩) (L.length + 1) cap2).ownBlock = some g → m ≠ g := fun g hg => by
    obtain rfl : g2 = g := by simpa [Value.ownBlock] using hg
    rcases hat2 with h | h
    · exact hne _ h
    · omega
  refine ⟨g2, cap2, rfl, (hc2 1).trans h1, hf2 1, fun b j v hb' hc => ?_, ?_⟩
  · have hlt : b < w1.heap.size := block_lt_of_cell hc
    exact (World.cell?_of_block (a := ⟨b, j, none⟩) ((hch2.block b (by omega) fun h => by have := hh.lt h; omega).trans (BW.block b hlt))).trans hc
  · have hM : MapR (w2.setCell ⟨m, 1, none⟩ (.slice (some ⟨g2, 0, none⟩) (L.length + 1) cap2)) m (.slice (some ⟨g2, 0, none⟩) (L.length + 1) cap2) (L.take i ++ e0 :: L.drop i) := mapR_stored ((hc2 0).trans h0) ((hc2 1).trans h1) hf2 (by rw [hlen]; exact hown2) hgm (by omega) rfl
    refine ⟨_, _, hM, ?_, HeadR.of_row hM.2.2.1 (by omega), mem_ins i e0, hlen, ?_, ?_⟩
    · refine pw_ins i e0 hs (fun x hx => ?_) (fun x hx => ?_)
      · obtain ⟨j, hj, rfl⟩ := List.getElem_of_mem hx
        rw [List.length_take] at hj
        rw [List.getElem_take]
        have := hL j (by omega)
        unfold cAt at this
        rw [prAt_eq (by omega), idAt_eq (by omega)] at this
        simpa only [Rl.before, decide_eq_true_eq] using this
      · have hne := hno x (List.mem_of_mem_drop hx)
        obtain ⟨j, hj, rfl⟩ := List.getElem_of_mem hx
        rw [List.length_drop] at hj
        rw [List.getElem_drop] at hne ⊢
        have := hR (i + j) (by omega) (by omega)
        unfold cAt at this
        rw [prAt_eq (by omega), idAt_eq (by omega)] at this
        have h2 : ¬ (L[i + j].2.before e0.2 = true) := by simp only [Rl.before, decide_eq_true_eq]; omega
        rw [Rl.before_iff] at h2 ⊢
        omega
    · intro b hb
      obtain rfl : g2 = b := by simpa [Value.ownBlock] using hb
      rcases hat2 with h | h
      · exact .inl h
      · exact .inr (by omega)
    · refine Chg.setCell ?_ (.inl (.inl rfl)) _
      exact ((Chg.of_below hb).trans ((Chg.of_below BW).trans (hch2.mono fun x _ hx => .inr hx)))

set_option maxRecDepth 100000 in
set_option maxHeartbeats 1000000 in
theorem putR_any (m : Nat) (sv : Value) (L : List Ent) (e0 : Ent) (w : World) (hm : MapR w m sv L) (hs : Sorted L) (hh : HeadR w sv) (hno : ∀ x ∈ L, ¬ (x.2.pr = e0.2.pr ∧ x.2.id = e0.2.id)) (hn : L.length ≤ 199) :
    Calls Tryz.prog 42 #[.pointer (some ⟨m, 0, none⟩), .agg #[.int .i64 e0.2.pr, .int .i64 e0.2.id], .pointer (some ⟨e0.1, 0, none⟩)] w fun e w' => e = .returned (.tuple #[]) ∧ PutR m sv L e0 w w' := by
  have hmlt : m < w.heap.size := block_lt_of_cell hm.1
  obtain ⟨w0, hw0⟩ : ∃ w0, w0 = w.alloc (.cells #[.int .i64 e0.2.pr, .int .i64 e0.2.id] 100) := ⟨_, rfl⟩
  have hb0 : Below w.heap.size w w0 := by rw [hw0]; exact (Below.refl _ w).alloc (Nat.le_refl _) _
  have hs0 : w0.heap.size = w.heap.size + 1 := by rw [hw0]; exact alloc_size _ _
  have hm0 : MapR w0 m sv L := hm.chg hh (Chg.of_below (X := fun _ => False) hb0) (fun h => h) fun _ _ h => h
  have b0 : w0.heap[w.heap.size]? = some (.cells #[.int .i64 e0.2.pr, .int .i64 e0.2.id] 100 (0, 0)) := by rw [hw0]; exact alloc_new _ _
  have c0 : w0.cell? ⟨w.heap.size, 0, none⟩ = some (.int .i64 e0.2.pr) := cell_in_row b0 rfl
  have c1 : w0.cell? ⟨w.heap.size, 1, none⟩ = some (.int .i64 e0.2.id) := cell_in_row b0 rfl
  have CP := hide (placeR_any m sv L e0.2.pr e0.2.id w0 hm0 hs)
  obtain ⟨a, cap, g, rfl, hc⟩ := rowR_cells hm.2.2.1
  have CI := hide fun i (hi : i ≤ L.length) hL hR w1 hb W => putR_ins m a cap i L e0 w w1 W hm hs hh hno hn hi hL hR hb
  have h1 := hm0.2.1
  have HB0 := hide hb0
  have HW0 := hide hw0
  clear hm hm0 hs hh hc hb0 b0
  go_enter Tryz.func42, Tryz.ntmps42
  go_wp2_with fail
  rw [← HW0.out]
  refine CP.out.mono ?_
  rintro e w1 ⟨i, hi, hL, hR, rfl, hb⟩
  have hx : (decide (i < L.length) && (cAt L e0.2.pr e0.2.id i == 0)) = false := by
    rw [← Bool.not_eq_true, Bool.and_eq_true, decide_eq_true_eq, beq_iff_eq]
    rintro ⟨h, hc⟩
    unfold cAt at hc
    rw [cmpR_zero, prAt_eq h, idAt_eq h] at hc
    exact hno _ (List.getElem_mem h) hc
  have k1 := cell_later hb h1
  have kb0 := cell_later hb c0
  have kb1 := cell_later hb c1
  have CJ := hide (CI.out i hi hL hR w1 (HB0.out.trans (hb.mono (by omega))))
  have hsz := hb.size
  clear CP hL hR hb h1 c0 c1 CI hno HW0 HB0
  have hmlt1 : m < w1.heap.size := by omega
  have hbx : w.heap.size < w1.heap.size := by omega
  have hmx : ¬ m = w.heap.size := by omega
  go_wp2_with fail
  go_region_with
    (first | (go_at_call 93; refine (CJ.out _ ?_ ?_).mono ?_; (first | exact ((Below.refl _ w1).alloc (Nat.le_refl _) _).drew | exact ((Below.refl _ w1).drew).alloc (Nat.le_refl _) _); (exact alloc_new w1 _); rintro e w2 ⟨g2, cap2, rfl, m1, mf, mb, hp⟩; have j0 := mb _ _ _ (Nat.le_refl _) kb0; have j1 := mb _ _ _ (Nat.le_refl _) kb1; have HP := hide hp; clear hp mb))
  all_goals go_end0
  all_goals exact ⟨rfl, HP.out⟩

end Go.Proofs.YtnjalelblbjfiaaGreatDoor

namespace Go.Proofs.YtnjalelblbjfiaaGreatDoor
open Go.RowKit

theorem ownBlock_slice {g n c : Nat} : (Value.slice (some ⟨g, 0, none⟩) n c).ownBlock = some g := rfl

/-- What Delete leaves. -/
def DelI (m : Nat) (sv : Value) (L : List Ent) (p : Ent → Bool) (w w3 : World) : Prop :=
  ∃ sv', MapI w3 m sv' (L.filter p) ∧ HeadI w3 sv' ∧ sv'.ownBlock = sv.ownBlock ∧ Chg (fun b => b = m ∨ sv.ownBlock = some b) w w3
def DelR (m : Nat) (sv : Value) (L : List Ent) (p : Ent → Bool) (w w3 : World) : Prop :=
  ∃ sv', MapR w3 m sv' (L.filter p) ∧ HeadR w3 sv' ∧ sv'.ownBlock = sv.ownBlock ∧ Chg (fun b => b = m ∨ sv.ownBlock = some b) w w3

set_option maxHeartbeats 1000000 in
theorem delI_cut (m g cap k i : Nat) (L : List Ent) (p : Ent → Bool) (w w1 : World) (hM : MapI w m (.slice (some ⟨g, 0, none⟩) L.length cap) L) (hh : HeadI w (.slice (some ⟨g, 0, none⟩) L.length cap)) (hk : L.length = k + 1) (hi : i ≤ k)
    (hcut : L.take i ++ L.drop (i + 1) = L.filter p) (hb : Below w.heap.size w w1) :
    Calls Tryz.prog 97 #[.slice (some ⟨g, 0, none⟩) L.length cap, .int .i64 i, .int .i64 ((i : Int) + 1)] w1 fun e w2 => e = .returned (.slice (some ⟨g, 0, none⟩) k cap) ∧ w2.cell? ⟨m, 1, none⟩ = some (.slice (some ⟨g, 0, none⟩) L.length cap) ∧ w2.frozen? ⟨m, 1, none⟩ = false ∧ DelI m (.slice (some ⟨g, 0, none⟩) L.length cap) L p w (w2.setCell ⟨m, 1, none⟩ (.slice (some ⟨g, 0, none⟩) k cap)) := by
  obtain ⟨h0, h1, h2, h3, h4⟩ := hM
  have hmlt : m < w.heap.size := block_lt_of_cell h0
  have hgm : m ≠ g := hh.ne rfl h0
  have hglt : g < w.heap.size := hh.lt rfl
  have o1 : w1.ownsRow 0 184 2 (.slice (some ⟨g, 0, none⟩) L.length cap) L.length (rowI L) := ownsRow_same h2 fun b hb' => by
    obtain rfl : g = b := by simpa [Value.ownBlock] using hb'
    exact hb.block g hglt
  have hsz := hb.size
  rw [hk] at o1
  have C := sdelI_any g k cap i (rowI L) w1 o1 rowI_one hi (by omega)
  rw [← hk] at C
  refine C.mono ?_
  rintro e w2 ⟨rfl, hown, hch, hz⟩
  have hb2 : w2.heap[m]? = w.heap[m]? := (hch.block m (by omega) hgm).trans (hb.block m hmlt)
  have hc2 : ∀ j, w2.cell? ⟨m, j, none⟩ = w.cell? ⟨m, j, none⟩ := fun j => World.cell?_of_block (a := ⟨m, j, none⟩) hb2
  have hf2 : ∀ j, w2.frozen? ⟨m, j, none⟩ = false := fun j => (World.frozen?_of_block (a := ⟨m, j, none⟩) hb2).trans (h3 j)
  have hrow : (rowI L).take (i * 2) ++ (rowI L).drop ((i + 1) * 2) = rowI (L.filter p) := by rw [rowI_take, rowI_drop, ← rowI_append, hcut]
  have hlen : (L.filter p).length = k := by rw [← hcut]; simp only [List.length_append, List.length_take, List.length_drop]; omega
  rw [hrow] at hown
  refine ⟨rfl, (hc2 1).trans h1, hf2 1, _, mapI_stored ((hc2 0).trans h0) ((hc2 1).trans h1) hf2 (by rw [hlen]; exact hown) (fun b hb' => by obtain rfl : g = b := (by simpa [Value.ownBlock] using hb'); exact hgm) (by omega) rfl, ?_, rfl, Chg.setCell ((Chg.of_below hb).trans (hch.mono fun x _ hx => .inr (by rw [hx]; rfl))) (.inl (.inl rfl)) _⟩
  intro b hb'
  obtain rfl : g = b := by simpa [Value.ownBlock] using hb'
  have hs : ∀ j, (w2.setCell ⟨m, 1, none⟩ (.slice (some ⟨g, 0, none⟩) k cap)).cell? ⟨g, j, none⟩ = w2.cell? ⟨g, j, none⟩ := fun j => World.cell?_of_block (a := ⟨g, j, none⟩) (Below.heap_setCell _ _ _ _ hgm.symm)
  rw [hs, hs]
  rcases Nat.eq_zero_or_pos k with rfl | hk0
  · have z0 := hz 0 _ rfl
    have z1 := hz 1 _ rfl
    simp only [Nat.zero_mul, Nat.zero_add] at z0 z1
    exact ⟨_, _, z0, z1⟩
  · have hH : HeadI w2 (.slice (some ⟨g, 0, none⟩) k cap) := HeadI.of_row (L := L.filter p) (by rw [hlen]; exact hown) (by omega)
    exact hH g rfl

set_option maxHeartbeats 1000000 in
theorem delR_cut (m g cap k i : Nat) (L : List Ent) (p : Ent → Bool) (w w1 : World) (hM : MapR w m (.slice (some ⟨g, 0, none⟩) L.length cap) L) (hh : HeadR w (.slice (some ⟨g, 0, none⟩) L.length cap)) (hk : L.length = k + 1) (hi : i ≤ k)
    (hcut : L.take i ++ L.drop (i + 1) = L.filter p) (hb : Below w.heap.size w w1) :
    Calls Tryz.prog 98 #[.slice (some ⟨g, 0, none⟩) L.length cap, .int .i64 i, .int .i64 ((i : Int) + 1)] w1 fun e w2 => e = .returned (.slice (some ⟨g, 0, none⟩) k cap) ∧ w2.cell? ⟨m, 1, none⟩ = some (.slice (some ⟨g, 0, none⟩) L.length cap) ∧ w2.frozen? ⟨m, 1, none⟩ = false ∧ DelR m (.slice (some ⟨g, 0, none⟩) L.length cap) L p w (w2.setCell ⟨m, 1, none⟩ (.slice (some ⟨g, 0, none⟩) k cap)) := by
  obtain ⟨h0, h1, h2, h3, h4⟩ := hM
  have hmlt : m < w.heap.size := block_lt_of_cell h0
  have hgm : m ≠ g := hh.ne rfl h0
  have hglt : g < w.heap.size := hh.lt rfl
  have o1 : w1.ownsRow 0 189 3 (.slice (some ⟨g, 0, none⟩) L.length cap) L.length (rowR L) := ownsRow_same h2 fun b hb' => by
    obtain rfl : g = b := by simpa [Value.ownBlock] using hb'
    exact hb.block g hglt
  have hsz := hb.size
  rw [hk] at o1
  have C := sdelR_any g k cap i (rowR L) w1 o1 rowR_one hi (by omega)
  rw [← hk] at C
  refine C.mono ?_
  rintro e w2 ⟨rfl, hown, hch, hz⟩
  have hb2 : w2.heap[m]? = w.heap[m]? := (hch.block m (by omega) hgm).trans (hb.block m hmlt)
  have hc2 : ∀ j, w2.cell? ⟨m, j, none⟩ = w.cell? ⟨m, j, none⟩ := fun j => World.cell?_of_block (a := ⟨m, j, none⟩) hb2
  have hf2 : ∀ j, w2.frozen? ⟨m, j, none⟩ = false := fun j => (World.frozen?_of_block (a := ⟨m, j, none⟩) hb2).trans (h3 j)
  have hrow : (rowR L).take (i * 3) ++ (rowR L).drop ((i + 1) * 3) = rowR (L.filter p) := by rw [rowR_take, rowR_drop, ← rowR_append, hcut]
  have hlen : (L.filter p).length = k := by rw [← hcut]; simp only [List.length_append, List.length_take, List.length_drop]; omega
  rw [hrow] at hown
  refine ⟨rfl, (hc2 1).trans h1, hf2 1, _, mapR_stored ((hc2 0).trans h0) ((hc2 1).trans h1) hf2 (by rw [hlen]; exact hown) (fun b hb' => by obtain rfl : g = b := (by simpa [Value.ownBlock] using hb'); exact hgm) (by omega) rfl, ?_, rfl, Chg.setCell ((Chg.of_below hb).trans (hch.mono fun x _ hx => .inr (by rw [hx]; rfl))) (.inl (.inl rfl)) _⟩
  intro b hb'
  obtain rfl : g = b := by simpa [Value.ownBlock] using hb'
  have hs : ∀ j, (w2.setCell ⟨m, 1, none⟩ (.slice (some ⟨g, 0, none⟩) k cap)).cell? ⟨g, j, none⟩ = w2.cell? ⟨g, j, none⟩ := fun j => World.cell?_of_block (a := ⟨g, j, none⟩) (Below.heap_setCell _ _ _ _ hgm.symm)
  rw [hs, hs, hs]
  rcases Nat.eq_zero_or_pos k with rfl | hk0
  · have z0 := hz 0 _ rfl
    have z1 := hz 1 _ rfl
    have z2 := hz 2 _ rfl
    simp only [Nat.zero_mul, Nat.zero_add] at z0 z1 z2
    exact ⟨_, _, _, z0, z1, z2⟩
  · have hH : HeadR w2 (.slice (some ⟨g, 0, none⟩) k cap) := HeadR.of_row (L := L.filter p) (by rw [hlen]; exact hown) (by omega)
    exact hH g rfl

/-- Where an entry with this ID stands, the cut is the filter. -/
theorem cutI {L : List Ent} {x : Int} {i : Nat} (hs : SortedI L) (h : i < L.length) (hx : idAt L i = x) : L.take i ++ L.drop (i + 1) = L.filter fun e => e.2.id != x := by
  rw [idAt_eq h] at hx
  refine filter_cut _ h (by simp [hx]) fun j hj hne => ?_
  rw [bne_iff_ne]
  intro hjx
  rcases Nat.lt_or_gt_of_ne hne with hlt | hlt
  · have := List.pairwise_iff_getElem.1 hs j i hj h hlt; omega
  · have := List.pairwise_iff_getElem.1 hs i j h hj hlt; omega
theorem cutR {L : List Ent} {p q : Int} {i : Nat} (hs : Sorted L) (h : i < L.length) (hx : cAt L p q i = 0) : L.take i ++ L.drop (i + 1) = L.filter fun e => !(e.2.pr == p && e.2.id == q) := by
  unfold cAt at hx
  rw [cmpR_zero, prAt_eq h, idAt_eq h] at hx
  refine filter_cut _ h (by simp [hx.1, hx.2]) fun j hj hne => ?_
  have hb : L[j].2.pr ≠ p ∨ L[j].2.id ≠ q := by
    rcases Nat.lt_or_gt_of_ne hne with hlt | hlt
    · have := List.pairwise_iff_getElem.1 hs j i hj h hlt; rw [Rl.before_iff] at this; omega
    · have := List.pairwise_iff_getElem.1 hs i j h hj hlt; rw [Rl.before_iff] at this; omega
  rcases hb with h | h <;> simp [h]

set_option maxRecDepth 100000 in
set_option maxHeartbeats 1000000 in
theorem delI_any (m : Nat) (sv : Value) (L : List Ent) (x : Int) (w : World) (hm : MapI w m sv L) (hs : SortedI L) (hh : HeadI w sv) (hin : ∃ e ∈ L, e.2.id = x) :
    Calls Tryz.prog 48 #[.pointer (some ⟨m, 0, none⟩), .int .i64 x] w fun e w' => e = .returned (.bool true) ∧ DelI m sv L (fun e => e.2.id != x) w w' := by
  have CP := hide (placeI_any m sv L x w hm hs)
  obtain ⟨a, cap, g, rfl, hc⟩ := rowI_cells hm.2.2.1
  obtain ⟨e1, he1, hx1⟩ := hin
  have hpos : 0 < L.length := List.length_pos_of_mem he1
  obtain ⟨k, hk⟩ : ∃ k, L.length = k + 1 := ⟨L.length - 1, by omega⟩
  obtain ⟨rfl, hc0⟩ := hc 0 hpos
  clear hc0
  have CI := hide fun i (hi : i ≤ k) hcut w1 hb => delI_cut m g cap k i L (fun e => e.2.id != x) w w1 hm hh hk hi hcut hb
  have h1 := hm.2.1
  have hl := hm.2.2.2.2
  have HE := hide hx1
  have HK := hide hk
  clear hm hh hc hx1 hk hpos
  go_enter Tryz.func48, Tryz.ntmps48
  go_wp2_with fail
  refine CP.out.mono ?_
  rintro e w1 ⟨i, hi, hL, hR, rfl, hb⟩
  have hix : i < L.length ∧ idAt L i = x := by
    obtain ⟨j, hj, rfl⟩ := List.getElem_of_mem he1
    have hj' := HE.out
    rw [← idAt_eq hj] at hj'
    have hij : i ≤ j := by
      rcases Nat.lt_or_ge j i with h | h
      · have := hL j h; omega
      · exact h
    refine ⟨by omega, ?_⟩
    have h1 := hR i (Nat.le_refl _) (by omega)
    rcases Nat.lt_or_eq_of_le hij with h | h
    · have := List.pairwise_iff_getElem.1 hs i j (by omega) hj h
      rw [← idAt_eq, ← idAt_eq] at this
      omega
    · rw [h]; exact hj'
  have hcut := cutI hs hix.1 hix.2
  have CJ := hide (CI.out i (by have := HK.out; omega) hcut w1 hb)
  have k1 := cell_later hb h1
  have hd : (decide (i < L.length) && (idAt L i == x)) = true := by simp [hix.1, hix.2]
  have hw1 : IntKind.i64.wrap ((i : Int) + 1) = (i : Int) + 1 := by rw [IntKind.wrap_i64]; omega
  clear CP hL hR hb h1 CI hcut hix hs he1 HE HK
  go_wp2_with fail
  refine CJ.out.mono ?_
  rintro e w2 ⟨rfl, m1, mf, hp⟩
  have HP := hide hp
  clear hp CJ
  go_wp2
  go_ret
  exact ⟨rfl, HP.out⟩

set_option maxRecDepth 100000 in
set_option maxHeartbeats 1000000 in
theorem delR_any (m : Nat) (sv : Value) (L : List Ent) (p q : Int) (w : World) (hm : MapR w m sv L) (hs : Sorted L) (hh : HeadR w sv) (hin : ∃ e ∈ L, e.2.pr = p ∧ e.2.id = q) :
    Calls Tryz.prog 49 #[.pointer (some ⟨m, 0, none⟩), .agg #[.int .i64 p, .int .i64 q]] w fun e w' => e = .returned (.bool true) ∧ DelR m sv L (fun e => !(e.2.pr == p && e.2.id == q)) w w' := by
  have hmlt : m < w.heap.size := block_lt_of_cell hm.1
  obtain ⟨w0, hw0⟩ : ∃ w0, w0 = w.alloc (.cells #[.int .i64 p, .int .i64 q] 100) := ⟨_, rfl⟩
  have hb0 : Below w.heap.size w w0 := by rw [hw0]; exact (Below.refl _ w).alloc (Nat.le_refl _) _
  have hs0 : w0.heap.size = w.heap.size + 1 := by rw [hw0]; exact alloc_size _ _
  have hm0 : MapR w0 m sv L := hm.chg hh (Chg.of_below (X := fun _ => False) hb0) (fun h => h) fun _ _ h => h
  have CP := hide (placeR_any m sv L p q w0 hm0 hs)
  obtain ⟨a, cap, g, rfl, hc⟩ := rowR_cells hm.2.2.1
  obtain ⟨e1, he1, hx1⟩ := hin
  have hpos : 0 < L.length := List.length_pos_of_mem he1
  obtain ⟨k, hk⟩ : ∃ k, L.length = k + 1 := ⟨L.length - 1, by omega⟩
  obtain ⟨rfl, hc0⟩ := hc 0 hpos
  clear hc0
  have CI := hide fun i (hi : i ≤ k) hcut w1 hb => delR_cut m g cap k i L (fun e => !(e.2.pr == p && e.2.id == q)) w w1 hm hh hk hi hcut hb
  have h1 := hm0.2.1
  have hl := hm.2.2.2.2
  have HE := hide hx1
  have HK := hide hk
  have HB0 := hide hb0
  have HW0 := hide hw0
  clear hm hm0 hh hc hx1 hk hpos hb0
  go_enter Tryz.func49, Tryz.ntmps49
  go_wp2_with fail
  rw [← HW0.out]
  refine CP.out.mono ?_
  rintro e w1 ⟨i, hi, hL, hR, rfl, hb⟩
  have hix : i < L.length ∧ cAt L p q i = 0 := by
    obtain ⟨j, hj, rfl⟩ := List.getElem_of_mem he1
    have hj' : cAt L p q j = 0 := by unfold cAt; rw [cmpR_zero, prAt_eq hj, idAt_eq hj]; exact HE.out
    have hij : i ≤ j := by
      rcases Nat.lt_or_ge j i with h | h
      · have := hL j h; omega
      · exact h
    refine ⟨by omega, ?_⟩
    have h1 := hR i (Nat.le_refl _) (by omega)
    rcases Nat.lt_or_eq_of_le hij with h | h
    · have hb := List.pairwise_iff_getElem.1 hs i j (by omega) hj h
      have hi' : ¬ (cAt L p q i < 0) := by omega
      unfold cAt at hi'
      rw [prAt_eq (by omega), idAt_eq (by omega)] at hi'
      obtain ⟨e1, e2⟩ := HE.out
      have : L[i].2.before L[j].2 = true ↔ cmpR L[i].2.pr L[i].2.id p q < 0 := by simp only [Rl.before, decide_eq_true_eq]; rw [e1, e2]
      exact absurd (this.1 hb) hi'
    · rw [h]; exact hj'
  have hcut := cutR hs hix.1 hix.2
  have CJ := hide (CI.out i (by have := HK.out; omega) hcut w1 (HB0.out.trans (hb.mono (by omega))))
  have k1 := cell_later hb h1
  have hd : (decide (i < L.length) && (cAt L p q i == 0)) = true := by simp [hix.1, hix.2]
  have hw1 : IntKind.i64.wrap ((i : Int) + 1) = (i : Int) + 1 := by rw [IntKind.wrap_i64]; omega
  clear CP hL hR hb h1 CI hcut hix hs he1 HE HK HB0 HW0
  go_wp2_with fail
  refine CJ.out.mono ?_
  rintro e w2 ⟨rfl, m1, mf, hp⟩
  have HP := hide hp
  clear hp CJ
  go_wp2
  go_ret
  exact ⟨rfl, HP.out⟩

end Go.Proofs.YtnjalelblbjfiaaGreatDoor
