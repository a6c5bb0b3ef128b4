import Derived.Test.YtaejpejfmpbinaaGreatDoorP14
import Derived.Test.YtaejpejfmpbinaaGreatDoorP13
import Derived.Test.YtaejpejfmpbinaaGreatDoorShelf
namespace Go.Proofs.YtaejpejfmpbinaaGreatDoor
open Go.RowKit

/-- The head of a map's array, if it has one. -/
def HeadI (w : World) (sv : Value) : Prop := ∀ g, sv.ownBlock = some g → ∃ n p, w.cell? ⟨g, 0, none⟩ = some (.int .i64 n) ∧ w.cell? ⟨g, 1, none⟩ = some (.pointer p)
def HeadR (w : World) (sv : Value) : Prop := ∀ g, sv.ownBlock = some g → ∃ n m p, w.cell? ⟨g, 0, none⟩ = some (.int .i64 n) ∧ w.cell? ⟨g, 1, none⟩ = some (.int .i64 m) ∧ w.cell? ⟨g, 2, none⟩ = some (.pointer p)
theorem HeadI.foreign {w : World} {sv : Value} {g : Nat} (h : HeadI w sv) (hg : sv.ownBlock = some g) : Foreign w g := by
  obtain ⟨n, p, h0, h1⟩ := h g hg
  exact .inr (.inr (.inl ⟨n, p, h0, h1⟩))
theorem HeadR.foreign {w : World} {sv : Value} {g : Nat} (h : HeadR w sv) (hg : sv.ownBlock = some g) : Foreign w g := by
  obtain ⟨n, m, p, h0, h1, h2⟩ := h g hg
  exact .inr (.inr (.inr (.inl ⟨n, m, p, h0, h1, h2⟩)))

theorem pw_ins {α : Type} {R : α → α → Prop} {L : List α} (i : Nat) (e : α) (hs : L.Pairwise R) (h1 : ∀ a ∈ L.take i, R a e) (h2 : ∀ a ∈ L.drop i, R e a) : (L.take i ++ e :: L.drop i).Pairwise R := by
  have hs' := hs
  rw [← List.take_append_drop i L, List.pairwise_append] at hs'
  rw [List.pairwise_append]
  refine ⟨hs'.1, List.pairwise_cons.2 ⟨h2, hs'.2.1⟩, fun a ha b hb => ?_⟩
  rcases List.mem_cons.1 hb with rfl | hb
  · exact h1 a ha
  · exact hs'.2.2 a ha b hb
theorem mem_ins {α : Type} {L : List α} (i : Nat) (e x : α) : x ∈ L.take i ++ e :: L.drop i ↔ x = e ∨ x ∈ L := by
  have : x ∈ L ↔ x ∈ L.take i ∨ x ∈ L.drop i := by rw [← List.mem_append, List.take_append_drop]
  rw [this, List.mem_append, List.mem_cons]
  constructor
  · rintro (h | h | h)
    · exact .inr (.inl h)
    · exact .inl h
    · exact .inr (.inr h)
  · rintro (h | h | h)
    · exact .inr (.inl h)
    · exact .inl h
    · exact .inr (.inr h)
theorem length_ins {α : Type} {L : List α} {i : Nat} (e : α) (h : i ≤ L.length) : (L.take i ++ e :: L.drop i).length = L.length + 1 := by
  simp only [List.length_append, List.length_take, List.length_cons, List.length_drop]; omega
theorem filter_cut {α : Type} {L : List α} {i : Nat} (p : α → Bool) (h : i < L.length) (h0 : p L[i] = false) (h1 : ∀ j (hj : j < L.length), j ≠ i → p L[j] = true) : L.take i ++ L.drop (i + 1) = L.filter p := by
  have e : L = L.take i ++ L[i] :: L.drop (i + 1) := by rw [← List.drop_eq_getElem_cons h, List.take_append_drop]
  conv => rhs; rw [e]
  rw [List.filter_append, List.filter_cons, h0]
  simp only [Bool.false_eq_true, if_false]
  rw [List.filter_eq_self.2, List.filter_eq_self.2]
  · intro a ha
    obtain ⟨j, hj, rfl⟩ := List.getElem_of_mem ha
    rw [List.getElem_drop]
    exact h1 _ _ (by omega)
  · intro a ha
    obtain ⟨j, hj, rfl⟩ := List.getElem_of_mem ha
    rw [List.getElem_take]
    rw [List.length_take] at hj
    exact h1 _ _ (by omega)

theorem rowI_append (L M : List Ent) : rowI (L ++ M) = rowI L ++ rowI M := by simp [rowI]
theorem rowR_append (L M : List Ent) : rowR (L ++ M) = rowR L ++ rowR M := by simp [rowR]
theorem rowI_take (L : List Ent) (i : Nat) : (rowI L).take (i * 2) = rowI (L.take i) := by
  rcases Nat.lt_or_ge L.length i with h | h
  · rw [List.take_of_length_le (by rw [rowI_length]; omega), List.take_of_length_le (by omega)]
  · have e := congrArg rowI (List.take_append_drop i L).symm
    rw [rowI_append] at e
    rw [e, List.take_append_of_le_length (by rw [rowI_length, List.length_take]; omega), List.take_of_length_le (by rw [rowI_length, List.length_take]; omega)]
theorem rowI_drop (L : List Ent) (i : Nat) : (rowI L).drop (i * 2) = rowI (L.drop i) := by
  rcases Nat.lt_or_ge L.length i with h | h
  · rw [List.drop_eq_nil_of_le (by rw [rowI_length]; omega), List.drop_eq_nil_of_le (by omega)]; rfl
  · have e := congrArg rowI (List.take_append_drop i L).symm
    rw [rowI_append] at e
    have l : (rowI (L.take i)).length = i * 2 := by rw [rowI_length, List.length_take]; omega
    rw [e, ← l, List.drop_left]
theorem rowR_take (L : List Ent) (i : Nat) : (rowR L).take (i * 3) = rowR (L.take i) := by
  rcases Nat.lt_or_ge L.length i with h | h
  · rw [List.take_of_length_le (by rw [rowR_length]; omega), List.take_of_length_le (by omega)]
  · have e := congrArg rowR (List.take_append_drop i L).symm
    rw [rowR_append] at e
    rw [e, List.take_append_of_le_length (by rw [rowR_length, List.length_take]; omega), List.take_of_length_le (by rw [rowR_length, List.length_take]; omega)]
theorem rowR_drop (L : List Ent) (i : Nat) : (rowR L).drop (i * 3) = rowR (L.drop i) := by
  rcases Nat.lt_or_ge L.length i with h | h
  · rw [List.drop_eq_nil_of_le (by rw [rowR_length]; omega), List.drop_eq_nil_of_le (by omega)]; rfl
  · have e := congrArg rowR (List.take_append_drop i L).symm
    rw [rowR_append] at e
    have l : (rowR (L.take i)).length = i * 3 := by rw [rowR_length, List.length_take]; omega
    rw [e, ← l, List.drop_left]
theorem rowI_one {L : List Ent} : ∀ u ∈ rowI L, u.oneCell' = true := by
  intro u hu
  obtain ⟨e, _, h⟩ := List.mem_flatMap.1 hu
  simp at h
  rcases h with rfl | rfl <;> rfl
theorem rowR_one {L : List Ent} : ∀ u ∈ rowR L, u.oneCell' = true := by
  intro u hu
  obtain ⟨e, _, h⟩ := List.mem_flatMap.1 hu
  simp at h
  rcases h with rfl | rfl | rfl <;> rfl

theorem ownsRow_same {w w' : World} {B : Nat} {t : TypeId} {s n : Nat} {sv : Value} {xs : List Value} (h : w.ownsRow B t s sv n xs) (hs : ∀ g, sv.ownBlock = some g → w'.heap[g]? = w.heap[g]?) : w'.ownsRow B t s sv n xs := by
  refine ⟨h.1, ?_⟩
  rcases h.2 with h | ⟨g, cap, cur, rfl, hb, hg, hr⟩
  · exact .inl h
  · exact .inr ⟨g, cap, cur, rfl, hb, (hs g rfl).trans hg, hr⟩

theorem Chg.setCell {X : Nat → Prop} {a b : World} {p : Addr} (h : Chg X a b) (hx : X p.block ∨ a.heap.size ≤ p.block) (v : Value) : Chg X a (b.setCell p v) :=
  ⟨h.os, h.tape, h.output, by rw [World.size_setCell]; exact h.size, fun k hk hX => (Below.heap_setCell _ _ _ _ (by intro e; rcases hx with hx | hx; exact hX (e ▸ hx); omega)).trans (h.block k hk hX)⟩

theorem HeadI.ne {w : World} {sv : Value} {m g : Nat} {fn : Fn} {f c : Array Value} (h : HeadI w sv) (hg : sv.ownBlock = some g) (hm : w.cell? ⟨m, 0, none⟩ = some (.func fn f c)) : m ≠ g := by
  rintro rfl
  obtain ⟨n, p, h0, _⟩ := h m hg
  rw [hm] at h0; cases h0

end Go.Proofs.YtaejpejfmpbinaaGreatDoor

namespace Go.Proofs.YtaejpejfmpbinaaGreatDoor
open Go.RowKit

theorem alloc_new (w : World) (o : Obj) : (w.alloc o).heap[w.heap.size]? = some o := by
  show (w.heap.push o)[w.heap.size]? = some o
  simp
theorem alloc_size (w : World) (o : Obj) : (w.alloc o).heap.size = w.heap.size + 1 := by
  show (w.heap.push o).size = _
  simp

theorem HeadI.of_row {w : World} {sv : Value} {L : List Ent} (h : w.ownsRow 0 216 2 sv L.length (rowI L)) (h0 : 0 < L.length) : HeadI w sv := by
  obtain ⟨a, cap, g, rfl, hc⟩ := rowI_cells h
  obtain ⟨rfl, c0, c1⟩ := hc 0 h0
  intro g' hg'
  obtain rfl : g = g' := by simpa [Value.ownBlock] using hg'
  exact ⟨_, _, c0, c1⟩

/-- What a map's block holds behind a store of its entries. -/
theorem mapI_stored {w w2 : World} {m : Nat} {sv sv' : Value} {L' : List Ent} (h0 : w2.cell? ⟨m, 0, none⟩ = some (.func (.func 44) #[] #[])) (h1 : w2.cell? ⟨m, 1, none⟩ = some sv) (hf : ∀ j, w2.frozen? ⟨m, j, none⟩ = false) (ho : w2.ownsRow 0 216 2 sv' L'.length (rowI L')) (hne : ∀ g, sv'.ownBlock = some g → m ≠ g) (hl : L'.length ≤ 200)
    (hw : w = w2.setCell ⟨m, 1, none⟩ sv') : MapI w m sv' L' := by
  subst hw
  refine ⟨?_, ?_, ownsRow_same ho fun g hg => Below.heap_setCell _ _ _ _ (hne g hg).symm, fun j => ?_, hl⟩
  · rw [World.cell?_setCell_other _ _ _ _ (by simp)]; exact h0
  · exact World.cell?_setCell_same _ _ _ h1
  · rw [World.frozen?_setCell]; exact hf j

set_option maxRecDepth 100000 in
set_option maxHeartbeats 1000000 in
theorem putI_any (m : Nat) (sv : Value) (L : List Ent) (e0 : Ent) (w : World) (hm : MapI w m sv L) (hs : SortedI L) (hh : HeadI w sv) (hno : byId L e0.2.id = none) (hn : L.length ≤ 199) :
    Calls Tryz.prog 84 #[.pointer (some ⟨m, 0, none⟩), .int .i64 e0.2.id, .pointer (some ⟨e0.1, 0, none⟩)] w fun e w' => e = .returned (.tuple #[]) ∧
      ∃ sv' L', MapI w' m sv' L' ∧ SortedI L' ∧ HeadI w' sv' ∧ (∀ x, x ∈ L' ↔ x = e0 ∨ x ∈ L) ∧ L'.length = L.length + 1 ∧ (∀ b, sv'.ownBlock = some b → sv.ownBlock = some b ∨ w.heap.size ≤ b) ∧ Chg (fun b => b = m ∨ sv.ownBlock = some b) w w' := by
  have CP := hide (placeI_any m sv L e0.2.id w hm hs)
  obtain ⟨h0, h1, h2, h3, h4⟩ := hm
  obtain ⟨a, cap, g, rfl, hc⟩ := rowI_cells h2
  have hmlt : m < w.heap.size := block_lt_of_cell h0
  have hne : ∀ b, (Value.slice a L.length cap).ownBlock = some b → m ≠ b := fun b hb => hh.ne hb h0
  have HO := hide h2
  have HS := hide hs
  have HH := hide hh
  have H3 := hide h3
  have HNE := hide hne
  clear h2 h3 hs hh hc hne
  go_enter Tryz.func84, Tryz.ntmps84
  go_wp2_with fail
  refine CP.out.mono ?_
  rintro e w1 ⟨i, hi, hL, hR, rfl, hb⟩
  have HF := hide (byId_place hL hR HS.out)
  have hx : (decide (i < L.length) && (idAt L i == e0.2.id)) = false := by
    rw [← Bool.not_eq_true, Bool.and_eq_true, decide_eq_true_eq, beq_iff_eq]
    intro h
    have := HF.out
    rw [dif_pos h, hno] at this
    cases this
  have HL := hide hL
  have HR := hide hR
  have k0 := cell_later hb h0
  have k1 := cell_later hb h1
  have HB := hide hb
  have hsz := hb.size
  have hm1 : m < w1.heap.size := by omega
  clear CP hL hR hb HF h0 h1
  go_wp2_with fail
  obtain ⟨W, hW⟩ : ∃ W, W = w1.alloc (.cells #[.int .i64 e0.2.id, .pointer (some ⟨e0.1, 0, none⟩)] 216) := ⟨_, rfl⟩
  have BW : Below w1.heap.size w1 W := by rw [hW]; exact (Below.refl _ w1).alloc (Nat.le_refl _) _
  have hWn : W.heap[w1.heap.size]? = some (.cells #[.int .i64 e0.2.id, .pointer (some ⟨e0.1, 0, none⟩)] 216 (0, 0)) := by rw [hW]; exact alloc_new _ _
  have hWs : W.heap.size = w1.heap.size + 1 := by rw [hW]; exact alloc_size _ _
  have oW : W.ownsRow 0 216 2 (.slice a L.length cap) L.length (rowI L) := ownsRow_same HO.out fun b hb => by
    have : b < w.heap.size := by obtain ⟨n, p, c0, _⟩ := HH.out b hb; exact block_lt_of_cell c0
    exact (BW.block b (by omega)).trans (HB.out.block b this)
  have CI := insI_any (.slice a L.length cap) L.length i (rowI L) w1.heap.size 216 2 [.int .i64 e0.2.id, .pointer (some ⟨e0.1, 0, none⟩)] W oW rowI_one hi hn rfl
    (fun j u hj => cell_in_row hWn hj) (by simp [Value.oneCell']) (fun hb => by obtain ⟨n, p, c0, _⟩ := HH.out w1.heap.size hb; have : w1.heap.size < w.heap.size := block_lt_of_cell c0; omega) (by simp [World.shape?, hWn]) (fun j => by simp [World.frozen?, hWn])
  rw [← hW]
  refine CI.mono ?_
  rintro e w2 ⟨g2, cap2, rfl, hown2, hat2, hch2⟩
  have hb2 : w2.heap[m]? = w.heap[m]? := (hch2.block m (by omega) fun h => HNE.out m h rfl).trans ((BW.block m hm1).trans (HB.out.block m hmlt))
  have hc2 : ∀ j, w2.cell? ⟨m, j, none⟩ = w.cell? ⟨m, j, none⟩ := fun j => World.cell?_of_block (a := ⟨m, j, none⟩) hb2
  have hf2 : ∀ j, w2.frozen? ⟨m, j, none⟩ = false := fun j => (World.frozen?_of_block (a := ⟨m, j, none⟩) hb2).trans (H3.out j)
  have d0 : w2.cell? ⟨m, 0, none⟩ = some (.func (.func 44) #[] #[]) := (hc2 0).trans ((HB.out.cell (p := ⟨m, 0, none⟩) hmlt).symm.trans k0)
  have d1 : w2.cell? ⟨m, 1, none⟩ = some (.slice a L.length cap) := (hc2 1).trans ((HB.out.cell (p := ⟨m, 1, none⟩) hmlt).symm.trans k1)
  have hf1 := hf2 1
  have hlen : (L.take i ++ e0 :: L.drop i).length = L.length + 1 := length_ins e0 hi
  have hrow : (rowI L).take (i * 2) ++ [.int .i64 e0.2.id, .pointer (some ⟨e0.1, 0, none⟩)] ++ (rowI L).drop (i * 2) = rowI (L.take i ++ e0 :: L.drop i) := by
    rw [rowI_take, rowI_drop, rowI_append]; simp [rowI]
  rw [hrow] at hown2
  have hgm : ∀ g, (Value.slice (some ⟨g2, 0, none⟩) (L.length + 1) cap2).ownBlock = some g → m ≠ g := fun g hg => by
    obtain rfl : g2 = g := by simpa [Value.ownBlock] using hg
    rcases hat2 with h | h
    · exact HNE.out _ h
    · omega
  have hnew : ∀ x, x ∈ L → x.2.id ≠ e0.2.id := fun x hx he => by
    have := List.find?_eq_none.1 hno x hx
    simp [he] at this
  have P := hide (show ∀ w3, w3 = w2.setCell ⟨m, 1, none⟩ (.slice (some ⟨g2, 0, none⟩) (L.length + 1) cap2) → ∃ sv' L', MapI w3 m sv' L' ∧ SortedI L' ∧ HeadI w3 sv' ∧ (∀ x, x ∈ L' ↔ x = e0 ∨ x ∈ L) ∧ L'.length = L.length + 1 ∧ (∀ b, sv'.ownBlock = some b → (Value.slice a L.length cap).ownBlock = some b ∨ w.heap.size ≤ b) ∧ Chg (fun b => b = m ∨ (Value.slice a L.length cap).ownBlock = some b) w w3 from by
    intro w3 hw3
    have hM : MapI w3 m (.slice (some ⟨g2, 0, none⟩) (L.length + 1) cap2) (L.take i ++ e0 :: L.drop i) := mapI_stored d0 d1 hf2 (by rw [hlen]; exact hown2) hgm (by omega) hw3
    refine ⟨_, _, hM, ?_, HeadI.of_row hM.2.2.1 (by omega), mem_ins i e0, hlen, ?_, ?_⟩
    · refine pw_ins i e0 HS.out (fun x hx => ?_) (fun x hx => ?_)
      · obtain ⟨j, hj, rfl⟩ := List.getElem_of_mem hx
        rw [List.length_take] at hj
        rw [List.getElem_take]
        have := HL.out j (by omega)
        rwa [idAt_eq (by omega)] at this
      · have hne := hnew x (List.mem_of_mem_drop hx)
        obtain ⟨j, hj, rfl⟩ := List.getElem_of_mem hx
        rw [List.length_drop] at hj
        rw [List.getElem_drop] at hne ⊢
        have := HR.out (i + j) (by omega) (by omega)
        rw [idAt_eq (by omega)] at this
        omega
    · intro b hb
      obtain rfl : g2 = b := by simpa [Value.ownBlock] using hb
      rcases hat2 with h | h
      · exact .inl h
      · exact .inr (by omega)
    · rw [hw3]
      refine Chg.setCell ?_ (.inl (.inl rfl)) _
      exact ((Chg.of_below HB.out).trans ((Chg.of_below BW).trans (hch2.mono fun x _ hx => .inr hx))))
  clear hown2 hat2 hch2 hb2 hc2 hf2 d0 hrow hgm hnew CI oW hWn hWs BW hW HL HR HO HH HNE HS HB hno H3 hlen
  go_wp2
  go_end0
  exact ⟨rfl, P.out _ rfl⟩

end Go.Proofs.YtaejpejfmpbinaaGreatDoor

namespace Go.Proofs.YtaejpejfmpbinaaGreatDoor
open Go.RowKit
open Go.Sort (grow)

/-- A map of places; without entries it has no array. -/
def MapQ (w : World) (m : Nat) (sv : Value) (K : List Mc) : Prop := MapP w m sv K ∧ (K = [] → sv = .slice none 0 0)
theorem MapQ.head {w : World} {m : Nat} {sv : Value} {K : List Mc} (h : MapQ w m sv K) {g : Nat} (hg : sv.ownBlock = some g) : (∃ v, w.cell? ⟨g, 0, none⟩ = some (.int .i64 v)) ∧ g < w.heap.size ∧ m ≠ g := by
  have h0 : 0 < K.length := by
    rcases Nat.eq_zero_or_pos K.length with e | e
    · rw [h.2 (List.eq_nil_of_length_eq_zero e)] at hg
      cases hg
    · exact e
  obtain ⟨a, cap, g', rfl, hc⟩ := rowP_cells h.1.2.2.1
  obtain ⟨rfl, c0, _⟩ := hc 0 h0
  obtain rfl : g' = g := by simpa [Value.ownBlock] using hg
  rw [Nat.zero_mul] at c0
  refine ⟨⟨_, c0⟩, block_lt_of_cell c0, ?_⟩
  rintro rfl
  have := h.1.1
  rw [c0] at this
  cases this
theorem MapQ.below {w w' : World} {m : Nat} {sv : Value} {K : List Mc} (h : MapQ w m sv K) (hb : Below w.heap.size w w') : MapQ w' m sv K := ⟨h.1.below hb, h.2⟩
theorem rowP_one (K : List Mc) : ∀ u ∈ rowP K, u.oneCell' = true := by
  intro u hu
  obtain ⟨r, _, h⟩ := List.mem_flatMap.1 hu
  simp only [List.mem_cons, List.not_mem_nil, or_false] at h
  rcases h with h | h | h | h <;> (rw [h]; rfl)
theorem rowP_take (K : List Mc) (k : Nat) (hk : k ≤ K.length) : (rowP K).take (k * 4) = rowP (K.take k) := by
  have h := rowP_append (K.take k) (K.drop k)
  rw [List.take_append_drop] at h
  have hl : (rowP (K.take k)).length = k * 4 := by rw [rowP_length, List.length_take, Nat.min_eq_left hk]
  rw [h, ← hl, List.take_left]
theorem rowP_drop (K : List Mc) (k : Nat) (hk : k ≤ K.length) : (rowP K).drop (k * 4) = rowP (K.drop k) := by
  have h := rowP_append (K.take k) (K.drop k)
  rw [List.take_append_drop] at h
  have hl : (rowP (K.take k)).length = k * 4 := by rw [rowP_length, List.length_take, Nat.min_eq_left hk]
  rw [h, ← hl, List.drop_left]

theorem ownsRow_set {w : World} {B : Nat} {t : TypeId} {s n g cap : Nat} {xs : List Value} (h : w.ownsRow B t s (.slice (some ⟨g, 0, none⟩) n cap) n xs) {j : Nat} (_hj : j < n * s) (v : Value) : (w.setCell ⟨g, j, none⟩ v).ownsRow B t s (.slice (some ⟨g, 0, none⟩) n cap) n (xs.set j v) := by
  refine ⟨by rw [List.length_set]; exact h.1, ?_⟩
  rcases h.2 with ⟨e, _⟩ | ⟨g', cap', cur, e, hb, hg, hc, hm, hsz, htk⟩
  · cases e
  · cases e
    refine .inr ⟨g, cap, cur.setIfInBounds j v, rfl, hb, heap_setCell_same w g j cur t v hg, hc, hm, by simpa using hsz, ?_⟩
    rw [Array.toList_setIfInBounds, ← htk, List.take_set]
theorem ownsRow_frozen {w : World} {B : Nat} {t : TypeId} {s n g cap : Nat} {xs : List Value} (h : w.ownsRow B t s (.slice (some ⟨g, 0, none⟩) n cap) n xs) (j : Nat) : w.frozen? ⟨g, j, none⟩ = false := by
  rcases h.2 with ⟨e, _⟩ | ⟨g', cap', cur, e, hb, hg, hc, hm, hsz, htk⟩
  · cases e
  · cases e
    simp [World.frozen?, hg]
theorem rowP_set : ∀ (K : List Mc) (i : Nat) (hi : i < K.length) (e : Mc), e.vlan = K[i].vlan → e.mac = K[i].mac → rowP (K.set i e) = ((rowP K).set (i * 4 + 2) (.int .i64 e.port)).set (i * 4 + 3) (.int .i64 e.age)
  | [], i, hi, _, _, _ => absurd hi (by simp)
  | p :: t, 0, _, e, h1, h2 => by
    have a : e.vlan = p.vlan := h1
    have b : e.mac = p.mac := h2
    simp [rowP, a, b]
  | p :: t, i + 1, hi, e, h1, h2 => by
    have ih := rowP_set t i (by simpa using hi) e h1 h2
    have e1 : (i + 1) * 4 + 2 = (i * 4 + 2) + 1 + 1 + 1 + 1 := by omega
    have e2 : (i + 1) * 4 + 3 = (i * 4 + 3) + 1 + 1 + 1 + 1 := by omega
    rw [e1, e2]
    show _ :: _ :: _ :: _ :: rowP (t.set i e) = _
    rw [ih]
    rfl

/-- What Put leaves. -/
def PutQ (m : Nat) (sv : Value) (K : List Mc) (e0 : Mc) (w w3 : World) : Prop :=
  ∃ sv' K', MapQ w3 m sv' K' ∧ SortedP K' ∧ (∀ q, q ∈ K' ↔ q = e0 ∨ (q ∈ K ∧ cmpM q e0.vlan e0.mac ≠ 0)) ∧ K'.length = (if (known K e0.vlan e0.mac).isSome then K.length else K.length + 1) ∧ (∀ b, sv'.ownBlock = some b → sv.ownBlock = some b ∨ w.heap.size ≤ b) ∧ Chg (fun b => b = m ∨ sv.ownBlock = some b) w w3

theorem PutQ.drew {m : Nat} {sv : Value} {K : List Mc} {e0 : Mc} {w w3 : World} (h : PutQ m sv K e0 w w3) : PutQ m sv K e0 w w3.drew := by
  obtain ⟨sv', K', h1, h2, h3, h4, h5, h6⟩ := h
  exact ⟨sv', K', h1, h2, h3, h4, h5, h6.drew⟩

theorem cmpM_flip {a b : Mc} (h : 0 < cmpM a b.vlan b.mac) : cmpM b a.vlan a.mac < 0 := by
  unfold cmpM at *
  rw [cmpPl_neg]
  have n1 : ¬ (cmpPl a.vlan a.mac.toList b.vlan b.mac.toList < 0) := by omega
  have n2 : ¬ (cmpPl a.vlan a.mac.toList b.vlan b.mac.toList = 0) := by omega
  rw [cmpPl_neg] at n1
  rw [cmpPl_zero] at n2
  rcases Int.lt_trichotomy a.vlan b.vlan with h1 | h1 | h1
  · exact absurd (.inl h1) n1
  · refine .inr ⟨h1.symm, ?_⟩
    rcases bytesLess_tri a.mac.toList b.mac.toList with h2 | h2 | h2
    · exact absurd (.inr ⟨h1, h2⟩) n1
    · exact absurd ⟨h1, h2⟩ n2
    · exact h2
  · exact .inl h1

theorem putP_ins (m : Nat) (a : Option Addr) (cap i : Nat) (K : List Mc) (e0 : Mc) (w w1 W : World) (hM : MapQ w m (.slice a K.length cap) K) (hs : SortedP K) (hn : K.length ≤ 199) (hi : i ≤ K.length)
    (hL : ∀ j, j < i → cmpM (kAt K j) e0.vlan e0.mac < 0) (hR : ∀ j, i ≤ j → j < K.length → 0 ≤ cmpM (kAt K j) e0.vlan e0.mac) (hno : ¬ (i < K.length ∧ cmpM (kAt K i) e0.vlan e0.mac = 0)) (hb : Below w.heap.size w w1) (BW : Below w1.heap.size w1 W) (hWn : W.heap[w1.heap.size]? = some (.cells #[.int .i64 e0.vlan, .string e0.mac, .int .i64 e0.port, .int .i64 e0.age] 202 (0, 0))) :
    Calls Tryz.prog 114 #[.slice a K.length cap, .int .i64 i, .slice (some ⟨w1.heap.size, 0, none⟩) 1 1] W fun e w2 => ∃ g2 cap2, e = .returned (.slice (some ⟨g2, 0, none⟩) (K.length + 1) cap2) ∧ w2.cell? ⟨m, 1, none⟩ = some (.slice a K.length cap) ∧ w2.frozen? ⟨m, 1, none⟩ = false ∧ (∀ b j v, w.heap.size ≤ b → w1.cell? ⟨b, j, none⟩ = some v → w2.cell? ⟨b, j, none⟩ = some v) ∧ PutQ m (.slice a K.length cap) K e0 w (w2.setCell ⟨m, 1, none⟩ (.slice (some ⟨g2, 0, none⟩) (K.length + 1) cap2)) := by
  have hhd := fun g hg => hM.head (g := g) hg
  have hpos := after_pos hR hs hno
  have hkn : known K e0.vlan e0.mac = none := by rw [known_get hL hR hs, dif_neg hno]
  obtain ⟨⟨h0, h1, h2, h3, h4⟩, _⟩ := hM
  have hmlt : m < w.heap.size := block_lt_of_cell h0
  have hne : ∀ b, (Value.slice a K.length cap).ownBlock = some b → m ≠ b := fun b hb => (hhd b hb).2.2
  have hlt : ∀ b, (Value.slice a K.length cap).ownBlock = some b → b < w.heap.size := fun b hb => (hhd b hb).2.1
  have hsz := hb.size
  have hm1 : m < w1.heap.size := by omega
  have hWs := BW.size
  have oW : W.ownsRow 0 202 4 (.slice a K.length cap) K.length (rowP K) := ownsRow_keep h2 fun b hb' => (BW.block b (by have := hlt b hb'; omega)).trans (hb.block b (hlt b hb'))
  refine (insP_any (.slice a K.length cap) K.length i (rowP K) w1.heap.size 202 4 [.int .i64 e0.vlan, .string e0.mac, .int .i64 e0.port, .int .i64 e0.age] W oW (rowP_one K) hi hn rfl
    (fun j u hj => cell_in_row hWn hj) (by simp [Value.oneCell']) (fun hb' => by have : w1.heap.size < w.heap.size := hlt _ hb'; omega) (by simp [World.shape?, hWn]) (fun j => by simp [World.frozen?, hWn])).mono ?_
  rintro e w2 ⟨g2, cap2, rfl, hown2, hat2, hch2⟩
  have hb2 : w2.heap[m]? = w.heap[m]? := (hch2.block m (by omega) fun h => hne m h rfl).trans ((BW.block m hm1).trans (hb.block m hmlt))
  have hc2 : ∀ j, w2.cell? ⟨m, j, none⟩ = w.cell? ⟨m, j, none⟩ := fun j => World.cell?_of_block (a := ⟨m, j, none⟩) hb2
  have hf2 : ∀ j, w2.frozen? ⟨m, j, none⟩ = false := fun j => (World.frozen?_of_block (a := ⟨m, j, none⟩) hb2).trans (h3 j)
  have hlen : (K.take i ++ e0 :: K.drop i).length = K.length + 1 := length_ins e0 hi
  have hrow : (rowP K).take (i * 4) ++ [.int .i64 e0.vlan, .string e0.mac, .int .i64 e0.port, .int .i64 e0.age] ++ (rowP K).drop (i * 4) = rowP (K.take i ++ e0 :: K.drop i) := by
    rw [rowP_take K i hi, rowP_drop K i hi, rowP_append]; simp [rowP]
  rw [hrow] at hown2
  have hgm : m ≠ g2 := by
    rcases hat2 with h | h
    · exact hne _ h
    · omega
  refine ⟨g2, cap2, rfl, (hc2 1).trans h1, hf2 1, fun b j v hb' hc => ?_, ?_⟩
  · have hlt' : b < w1.heap.size := block_lt_of_cell hc
    exact (World.cell?_of_block (a := ⟨b, j, none⟩) ((hch2.block b (by omega) fun h => by have := hlt b h; omega).trans (BW.block b hlt'))).trans hc
  · refine ⟨.slice (some ⟨g2, 0, none⟩) (K.length + 1) cap2, K.take i ++ e0 :: K.drop i, ⟨⟨?_, ?_, ?_, fun j => ?_, by omega⟩, fun e => by simp at e⟩, ?_, fun q => ?_, by rw [hlen, hkn]; rfl, ?_, ?_⟩
    · rw [World.cell?_setCell_other _ _ _ _ (by simp)]; exact (hc2 0).trans h0
    · exact World.cell?_setCell_same _ _ _ ((hc2 1).trans h1)
    · rw [hlen]
      refine ownsRow_keep hown2 fun g hg => ?_
      obtain rfl : g2 = g := by simpa [Value.ownBlock] using hg
      exact Below.heap_setCell _ _ _ _ (Ne.symm hgm)
    · rw [World.frozen?_setCell]; exact hf2 j
    · refine pw_ins i e0 hs (fun x hx => ?_) (fun x hx => ?_)
      · obtain ⟨j, hj, rfl⟩ := List.getElem_of_mem hx
        rw [List.length_take] at hj
        rw [List.getElem_take]
        have := hL j (by omega)
        rwa [kAt_eq (by omega)] at this
      · obtain ⟨j, hj, rfl⟩ := List.getElem_of_mem hx
        rw [List.length_drop] at hj
        rw [List.getElem_drop]
        have := hpos (i + j) (by omega) (by omega)
        rw [kAt_eq (by omega)] at this
        exact cmpM_flip this
    · rw [mem_ins]
      refine or_congr Iff.rfl ⟨fun h => ⟨h, ?_⟩, fun h => h.1⟩
      obtain ⟨j, hj, rfl⟩ := List.getElem_of_mem h
      rw [← kAt_eq hj]
      rcases Nat.lt_or_ge j i with h' | h'
      · have := hL j h'; omega
      · have := hpos j h' hj; omega
    · intro b hb
      obtain rfl : g2 = b := by simpa [Value.ownBlock] using hb
      rcases hat2 with h | h
      · exact .inl h
      · exact .inr (by omega)
    · refine Chg.setCell ?_ (.inl (.inl rfl)) _
      exact (Chg.of_below hb).trans ((Chg.of_below BW).trans (hch2.mono fun x _ hx => .inr hx))

/-- An entry has been given a new value in place. -/
theorem putP_set {m g cap i : Nat} {K : List Mc} {e0 : Mc} {w w1 : World} (hM : MapQ w m (.slice (some ⟨g, 0, none⟩) K.length cap) K) (hs : SortedP K) (hi : i < K.length) (hz : cmpM (kAt K i) e0.vlan e0.mac = 0) (hb : Below w.heap.size w w1) :
    PutQ m (.slice (some ⟨g, 0, none⟩) K.length cap) K e0 w ((w1.setCell ⟨g, i * 4 + 2, none⟩ (.int .i64 e0.port)).setCell ⟨g, i * 4 + 3, none⟩ (.int .i64 e0.age)) := by
  obtain ⟨_, hglt, hne⟩ := hM.head (g := g) rfl
  have hM1 := hM.below hb
  obtain ⟨⟨h0, h1, h2, h3, h4⟩, _⟩ := hM1
  rw [kAt_eq hi] at hz
  have hz' := hz
  unfold cmpM at hz'
  rw [cmpPl_zero] at hz'
  have e1 : e0.vlan = K[i].vlan := hz'.1.symm
  have e2 : e0.mac = K[i].mac := (ba_ext hz'.2).symm
  have hkn : (known K e0.vlan e0.mac).isSome = true := by
    rw [known, List.find?_isSome]
    exact ⟨K[i], List.getElem_mem hi, cmpM_zero.1 hz⟩
  have ho := ownsRow_set (ownsRow_set h2 (j := i * 4 + 2) (by omega) (.int .i64 e0.port)) (j := i * 4 + 3) (by omega) (.int .i64 e0.age)
  rw [← rowP_set K i hi e0 e1 e2] at ho
  have hother : ∀ j, ((w1.setCell ⟨g, i * 4 + 2, none⟩ (.int .i64 e0.port)).setCell ⟨g, i * 4 + 3, none⟩ (.int .i64 e0.age)).cell? ⟨m, j, none⟩ = w1.cell? ⟨m, j, none⟩ := fun j => by
    rw [set_other (.inl (Ne.symm hne)), set_other (.inl (Ne.symm hne))]
  have hcmp : ∀ q : Mc, cmpM e0 q.vlan q.mac = cmpM K[i] q.vlan q.mac ∧ cmpM q e0.vlan e0.mac = cmpM q K[i].vlan K[i].mac := fun q => by
    unfold cmpM
    rw [e1, e2]
    exact ⟨rfl, rfl⟩
  have hpw := List.pairwise_iff_getElem.1 hs
  refine ⟨.slice (some ⟨g, 0, none⟩) K.length cap, K.set i e0, ⟨⟨(hother 0).trans h0, (hother 1).trans h1, ?_, fun j => by rw [World.frozen?_setCell, World.frozen?_setCell]; exact h3 j, by rw [List.length_set]; exact h4⟩, fun e => ?_⟩, ?_, fun q => ?_, by rw [List.length_set, if_pos hkn], fun b hb => .inl hb, ?_⟩
  · rw [List.length_set]; exact ho
  · have := congrArg List.length e
    rw [List.length_set] at this
    exact absurd hi (by rw [this]; simp)
  · refine List.pairwise_iff_getElem.2 ?_
    intro a b ha hb hab
    rw [List.length_set] at ha hb
    rw [List.getElem_set, List.getElem_set]
    split
    · rename_i e
      rw [if_neg (by omega)]
      rw [(hcmp _).1]
      exact hpw i b hi hb (by omega)
    · split
      · rename_i e
        rw [(hcmp _).2]
        exact hpw a i ha hi (by omega)
      · exact hpw a b ha hb hab
  · constructor
    · intro hq
      obtain ⟨j, hj, rfl⟩ := List.getElem_of_mem hq
      rw [List.length_set] at hj
      rw [List.getElem_set]
      split
      · exact .inl rfl
      · rename_i hne
        refine .inr ⟨List.getElem_mem hj, ?_⟩
        rw [(hcmp _).2]
        rcases Nat.lt_or_ge j i with h' | h'
        · have := hpw j i hj hi h'; omega
        · have h3 := hpw i j hi hj (by omega)
          intro e
          unfold cmpM at h3 e
          rw [cmpPl_zero] at e
          rw [e.1, e.2, cmpPl_neg, bytesLess_irrefl] at h3
          simp at h3
    · rintro (rfl | ⟨hq, hne⟩)
      · exact List.mem_set hi _
      · obtain ⟨j, hj, rfl⟩ := List.getElem_of_mem hq
        have hji : i ≠ j := by
          rintro rfl
          exact hne hz
        have h5 : (K.set i e0)[j]'(by rw [List.length_set]; exact hj) = K[j] := by rw [List.getElem_set, if_neg hji]
        rw [← h5]
        exact List.getElem_mem _
  · exact Chg.setCell (Chg.setCell (Chg.of_below hb) (.inl (.inr rfl)) _) (.inl (.inr rfl)) _

set_option maxRecDepth 100000 in
set_option maxHeartbeats 1000000 in
theorem putP_any (m : Nat) (sv : Value) (K : List Mc) (e0 : Mc) (w : World) (hm : MapQ w m sv K) (hs : SortedP K) (hn : K.length ≤ 199) :
    Calls Tryz.prog 67 #[.pointer (some ⟨m, 0, none⟩), .agg #[.int .i64 e0.vlan, .string e0.mac], .agg #[.int .i64 e0.port, .int .i64 e0.age]] w fun e w' => e = .returned (.tuple #[]) ∧ PutQ m sv K e0 w w' := by
  have hmlt : m < w.heap.size := block_lt_of_cell hm.1.1
  obtain ⟨w0, hw0⟩ : ∃ w0, w0 = (w.alloc (.cells #[.int .i64 e0.vlan, .string e0.mac] 129)).alloc (.cells #[.int .i64 e0.port, .int .i64 e0.age] 131) := ⟨_, rfl⟩
  have hb0 : Below w.heap.size w w0 := by rw [hw0]; exact ((Below.refl _ w).alloc (Nat.le_refl _) _).alloc (by rw [alloc_size]; omega) _
  have hs0 : w0.heap.size = w.heap.size + 2 := by rw [hw0, alloc_size, alloc_size]
  have hm0 : MapQ w0 m sv K := hm.below hb0
  have b0 : w0.heap[w.heap.size]? = some (.cells #[.int .i64 e0.vlan, .string e0.mac] 129 (0, 0)) := by
    rw [hw0]; exact (((Below.refl _ (w.alloc (.cells #[.int .i64 e0.vlan, .string e0.mac] 129))).alloc (Nat.le_refl _) _).block _ (by rw [alloc_size]; omega)).trans (alloc_new _ _)
  have b1 : w0.heap[w.heap.size + 1]? = some (.cells #[.int .i64 e0.port, .int .i64 e0.age] 131 (0, 0)) := by
    rw [hw0, ← alloc_size w (.cells #[.int .i64 e0.vlan, .string e0.mac] 129)]; exact alloc_new _ _
  have c0 : w0.cell? ⟨w.heap.size, 0, none⟩ = some (.int .i64 e0.vlan) := cell_in_row b0 rfl
  have c1 : w0.cell? ⟨w.heap.size, 1, none⟩ = some (.string e0.mac) := cell_in_row b0 rfl
  have c2 : w0.cell? ⟨w.heap.size + 1, 0, none⟩ = some (.int .i64 e0.port) := cell_in_row b1 rfl
  have c3 : w0.cell? ⟨w.heap.size + 1, 1, none⟩ = some (.int .i64 e0.age) := cell_in_row b1 rfl
  have CP := hide (placeP_any m sv K e0.vlan e0.mac w0 hm0.1 hs)
  obtain ⟨a, cap, g, rfl, hc⟩ := rowP_cells hm.1.2.2.1
  have CI := hide fun i (hi : i ≤ K.length) hL hR hno w1 hb W => putP_ins m a cap i K e0 w w1 W hm hs hn hi hL hR hno hb
  have h1 := hm0.1.2.1
  have HB0 := hide hb0
  have HW0 := hide hw0
  have HM := hide hm
  have HC := hide hc
  clear hm hm0 hc hb0 b0 b1
  go_enter Tryz.func67, Tryz.ntmps67
  go_wp2_with fail
  rw [← HW0.out]
  refine CP.out.mono ?_
  rintro e w1 ⟨i, hi, hL, hR, rfl, hb⟩
  have k1 := cell_later hb h1
  have kb0 := cell_later hb c0
  have kb1 := cell_later hb c1
  have kb2 := cell_later hb c2
  have kb3 := cell_later hb c3
  have hsz := hb.size
  have hmlt1 : m < w1.heap.size := by omega
  have hbx : w.heap.size < w1.heap.size := by omega
  have hby : w.heap.size + 1 < w1.heap.size := by omega
  have hmx : ¬ m = w.heap.size := by omega
  have hmy : ¬ m = w.heap.size + 1 := by omega
  by_cases h : i < K.length ∧ cmpM (kAt K i) e0.vlan e0.mac = 0
  · have hx : (decide (i < K.length) && (cmpM (kAt K i) e0.vlan e0.mac == 0)) = true := by
      rw [Bool.and_eq_true, decide_eq_true_eq, beq_iff_eq]; exact h
    have hbb := HB0.out.trans (hb.mono (by omega))
    obtain ⟨hik, hz⟩ := h
    obtain ⟨rfl, d0, d1, d2, d3⟩ := HC.out i hik
    have HS := hide (putP_set (i := i) HM.out hs hik hz hbb)
    have l2 := cell_later hbb d2
    have l3 := cell_later hbb d3
    have ff := ownsRow_frozen (HM.out.below hbb).1.2.2.1
    have f2 : w1.frozen? ⟨g, i * 4 + 2, none⟩ = false := ff _
    have f3 : w1.frozen? ⟨g, i * 4 + 3, none⟩ = false := ff _
    have hglt := (HM.out.head (g := g) rfl).2.1
    have hgx : ¬ g = w.heap.size := by omega
    have hgy : ¬ g = w.heap.size + 1 := by omega
    clear ff
    clear CP CI hL hR hb h1 c0 c1 c2 c3 HW0 HB0 hbb d0 d1 d2 d3
    go_wp2_with fail
    go_region_with fail
    all_goals go_wp2_with fail
    all_goals refine bodyPost_ret (results_none rfl _ _ _) rfl ?_
    all_goals exact ⟨rfl, HS.out.drew⟩
  · have hx : (decide (i < K.length) && (cmpM (kAt K i) e0.vlan e0.mac == 0)) = false := by
      rw [← Bool.not_eq_true, Bool.and_eq_true, decide_eq_true_eq, beq_iff_eq]; exact h
    have CJ := hide (CI.out i hi hL hR h w1 (HB0.out.trans (hb.mono (by omega))))
    clear CP hL hR hb h1 c0 c1 c2 c3 CI h HW0 HB0
    go_wp2_with fail
    go_region_with
      (first | (go_at_call 114; refine (CJ.out _ ?_ ?_).mono ?_; (first | exact ((Below.refl _ w1).alloc (Nat.le_refl _) _).drew | exact ((Below.refl _ w1).drew).alloc (Nat.le_refl _) _); (exact alloc_new w1 _); rintro e w2 ⟨g2, cap2, rfl, m1, mf, mb, hp⟩; have j0 := mb _ _ _ (Nat.le_refl _) kb0; have j1 := mb _ _ _ (Nat.le_refl _) kb1; have j2 := mb _ _ _ (Nat.le_succ _) kb2; have j3 := mb _ _ _ (Nat.le_succ _) kb3; have HP := hide hp; clear hp mb))
    all_goals go_end0
    all_goals exact ⟨rfl, HP.out⟩

end Go.Proofs.YtaejpejfmpbinaaGreatDoor

namespace Go.Proofs.YtaejpejfmpbinaaGreatDoor
open Go.RowKit
open Go.Sort (grow)

/-- Known holds a map of places. -/
def KnownAt (w : World) (k m : Nat) (sv : Value) (K : List Mc) : Prop := w.cell? ⟨k, 0, none⟩ = some (.pointer (some ⟨m, 0, none⟩)) ∧ (∀ j, w.frozen? ⟨k, j, none⟩ = false) ∧ MapQ w m sv K ∧ SortedP K
theorem KnownAt.below {w w' : World} {k m : Nat} {sv : Value} {K : List Mc} (h : KnownAt w k m sv K) (hb : Below w.heap.size w w') : KnownAt w' k m sv K :=
  ⟨cell_later hb h.1, fun j => (World.frozen?_of_block (a := ⟨k, j, none⟩) (hb.block k (block_lt_of_cell h.1))).trans (h.2.1 j), h.2.2.1.below hb, h.2.2.2⟩

theorem clone_any (s : ByteArray) (w : World) (hl : s.size ≤ 281474976710656) : Calls Tryz.prog 38 #[.string s] w fun e w' => e = .returned (.string s) ∧ Below w.heap.size w w' := by
  have C := hide (fun W => Tryz.stringslite_Clone s W hl)
  go_enter Tryz.func38, Tryz.ntmps38
  go_wp2_with fail
  refine (C.out _).mono ?_
  rintro e w1 ⟨rfl, hb⟩
  go_wp2_with fail
  go_ret
  exact ⟨rfl, hb⟩

/-- The port that is told of a place. -/
def portOf (o : Option Mc) : Int := match o with | some e => e.port | none => 0
set_option maxRecDepth 100000 in
theorem mPort_any (k m : Nat) (sv : Value) (K : List Mc) (x : Int) (b : ByteArray) (w : World) (h : KnownAt w k m sv K) :
    Calls Tryz.prog 64 #[.pointer (some ⟨k, 0, none⟩), .int .i64 x, .string b] w fun e w' => e = .returned (.tuple #[.int .i64 (portOf (known K x b)), .bool (known K x b).isSome]) ∧ Below w.heap.size w w' := by
  have C := hide (getP_any m sv K x b w h.2.2.1.1 h.2.2.2)
  have h0 := h.1
  obtain ⟨p, a, hv⟩ : ∃ p a, seenV (known K x b) = .agg #[.int .i64 p, .int .i64 a] ∧ p = portOf (known K x b) := by
    cases known K x b with
    | none => exact ⟨_, _, rfl, rfl⟩
    | some e => exact ⟨_, _, rfl, rfl⟩
  obtain ⟨hv, hp⟩ := hv
  rw [hv] at C
  rw [← hp]
  clear hv hp h
  go_enter Tryz.func64, Tryz.ntmps64
  go_wp2_with fail
  refine C.out.mono ?_
  rintro e w1 ⟨rfl, hb⟩
  go_wp2_with fail
  go_ret2
  exact ⟨rfl, hb.alloc hb.size _⟩

theorem noPlaces_any (w : World) : Calls Tryz.prog 65 #[] w fun e w' => e = .returned (.pointer (some ⟨w.heap.size, 0, none⟩)) ∧ w' = w.alloc (.cells #[.func (.func 111) #[] #[], .slice none 0 0] 200) := by
  have C := hide (newP_any w)
  go_enter Tryz.func65, Tryz.ntmps65
  go_wp2_with fail
  refine C.out.mono ?_
  rintro e w1 ⟨rfl, rfl⟩
  go_wp2_with fail
  go_ret
  exact ⟨rfl, rfl⟩

theorem frz_row {w : World} {b : Nat} {c : Array Value} {t : TypeId} (h : w.heap[b]? = some (.cells c t (0, 0))) (j : Nat) : w.frozen? ⟨b, j, none⟩ = false := by
  unfold World.frozen?; simp only [h]; rfl

theorem mapQ_new (w : World) : MapQ (w.alloc (.cells #[.func (.func 111) #[] #[], .slice none 0 0] 200)) w.heap.size (.slice none 0 0) [] := by
  have b := alloc_new w (.cells #[.func (.func 111) #[] #[], .slice none 0 0] 200)
  refine ⟨⟨cell_in_row b rfl, cell_in_row b rfl, ⟨rfl, .inl ⟨rfl, rfl⟩⟩, fun j => frz_row b j, by simp⟩, fun _ => rfl⟩

end Go.Proofs.YtaejpejfmpbinaaGreatDoor
