import Derived.Test.YtaejpejfmpbinaaGreatDoorP16
import Derived.Test.YtaejpejfmpbinaaGreatDoorP31
import Derived.Test.YtaejpejfmpbinaaGreatDoorP24
import Derived.Test.YtaejpejfmpbinaaGreatDoorP15
import Derived.Test.YtaejpejfmpbinaaGreatDoorP26
namespace Go.Proofs.YtaejpejfmpbinaaGreatDoor
open Go.RowKit
open Go.Sort (grow)

/-- The map of routes, and that an empty one has no array. -/
def MapHq (w : World) (m : Nat) (sv : Value) (K : List Rt) : Prop := MapH w m sv K ∧ (K = [] → sv = .slice none 0 0)
theorem MapHq.head {w : World} {m : Nat} {sv : Value} {K : List Rt} (h : MapHq w m sv K) {g : Nat} (hg : sv.ownBlock = some g) : (∃ v, w.cell? ⟨g, 0, none⟩ = some (.int .i64 v)) ∧ g < w.heap.size ∧ m ≠ g := by
  have h0 : 0 < K.length := by
    rcases Nat.eq_zero_or_pos K.length with e | e
    · rw [h.2 (List.eq_nil_of_length_eq_zero e)] at hg
      cases hg
    · exact e
  obtain ⟨a, cap, g', rfl, hc⟩ := rowH_cells h.1.2.2.1
  obtain ⟨rfl, c0, _⟩ := hc 0 h0
  obtain rfl : g' = g := by simpa [Value.ownBlock] using hg
  rw [Nat.zero_mul] at c0
  refine ⟨⟨_, c0⟩, block_lt_of_cell c0, ?_⟩
  rintro rfl
  have := h.1.1
  rw [c0] at this
  cases this
theorem MapHq.below {w w' : World} {m : Nat} {sv : Value} {K : List Rt} (h : MapHq w m sv K) (hb : Below w.heap.size w w') : MapHq w' m sv K := ⟨h.1.below hb, h.2⟩
theorem rowH_one (K : List Rt) : ∀ u ∈ rowH K, u.oneCell' = true := by
  intro u hu
  obtain ⟨r, _, h⟩ := List.mem_flatMap.1 hu
  simp only [List.mem_cons, List.not_mem_nil, or_false] at h
  rcases h with h | h | h | h <;> (rw [h]; rfl)
theorem rowH_take (K : List Rt) (k : Nat) (hk : k ≤ K.length) : (rowH K).take (k * 4) = rowH (K.take k) := by
  have h := rowH_append (K.take k) (K.drop k)
  rw [List.take_append_drop] at h
  have hl : (rowH (K.take k)).length = k * 4 := by rw [rowH_length, List.length_take, Nat.min_eq_left hk]
  rw [h, ← hl, List.take_left]
theorem rowH_drop (K : List Rt) (k : Nat) (hk : k ≤ K.length) : (rowH K).drop (k * 4) = rowH (K.drop k) := by
  have h := rowH_append (K.take k) (K.drop k)
  rw [List.take_append_drop] at h
  have hl : (rowH (K.take k)).length = k * 4 := by rw [rowH_length, List.length_take, Nat.min_eq_left hk]
  rw [h, ← hl, List.drop_left]

theorem rowH_set : ∀ (K : List Rt) (i : Nat) (hi : i < K.length) (e : Rt), e.bits = K[i].bits → e.len = K[i].len → rowH (K.set i e) = ((rowH K).set (i * 4 + 2) (.int .i64 e.vlan)).set (i * 4 + 3) (.string e.mac)
  | [], i, hi, _, _, _ => absurd hi (by simp)
  | p :: t, 0, _, e, h1, h2 => by
    have a : e.bits = p.bits := h1
    have b : e.len = p.len := h2
    simp [rowH, a, b]
  | p :: t, i + 1, hi, e, h1, h2 => by
    have ih := rowH_set t i (by simpa using hi) e h1 h2
    have e1 : (i + 1) * 4 + 2 = (i * 4 + 2) + 1 + 1 + 1 + 1 := by omega
    have e2 : (i + 1) * 4 + 3 = (i * 4 + 3) + 1 + 1 + 1 + 1 := by omega
    rw [e1, e2]
    show _ :: _ :: _ :: _ :: rowH (t.set i e) = _
    rw [ih]
    rfl

/-- What Put leaves. -/
def PutHq (m : Nat) (sv : Value) (K : List Rt) (e0 : Rt) (w w3 : World) : Prop :=
  ∃ sv' K', MapHq w3 m sv' K' ∧ SortedH K' ∧ (∀ q, q ∈ K' ↔ q = e0 ∨ (q ∈ K ∧ cmpRt q e0.bits e0.len ≠ 0)) ∧ K'.length = (if (routeAt K e0.bits e0.len).isSome then K.length else K.length + 1) ∧ (∀ b, sv'.ownBlock = some b → sv.ownBlock = some b ∨ w.heap.size ≤ b) ∧ Chg (fun b => b = m ∨ sv.ownBlock = some b) w w3

theorem PutHq.drew {m : Nat} {sv : Value} {K : List Rt} {e0 : Rt} {w w3 : World} (h : PutHq m sv K e0 w w3) : PutHq m sv K e0 w w3.drew := by
  obtain ⟨sv', K', h1, h2, h3, h4, h5, h6⟩ := h
  exact ⟨sv', K', h1, h2, h3, h4, h5, h6.drew⟩

theorem cmpRt_flip {a b : Rt} (h : 0 < cmpRt a b.bits b.len) : cmpRt b a.bits a.len < 0 := by
  unfold cmpRt at *
  rw [cmpPf_neg]
  have n1 : ¬ (cmpPf a.bits a.len b.bits b.len < 0) := by omega
  have n2 : ¬ (cmpPf a.bits a.len b.bits b.len = 0) := by omega
  rw [cmpPf_neg] at n1
  rw [cmpPf_zero] at n2
  omega

theorem putH_ins (m : Nat) (a : Option Addr) (cap i : Nat) (K : List Rt) (e0 : Rt) (w w1 W : World) (hM : MapHq w m (.slice a K.length cap) K) (hs : SortedH K) (hn : K.length ≤ 199) (hi : i ≤ K.length)
    (hL : ∀ j, j < i → cmpRt (rAt K j) e0.bits e0.len < 0) (hR : ∀ j, i ≤ j → j < K.length → 0 ≤ cmpRt (rAt K j) e0.bits e0.len) (hno : ¬ (i < K.length ∧ cmpRt (rAt K i) e0.bits e0.len = 0)) (hb : Below w.heap.size w w1) (BW : Below w1.heap.size w1 W) (hWn : W.heap[w1.heap.size]? = some (.cells #[.int .i64 e0.bits, .int .i64 e0.len, .int .i64 e0.vlan, .string e0.mac] 249 (0, 0))) :
    Calls Tryz.prog 147 #[.slice a K.length cap, .int .i64 i, .slice (some ⟨w1.heap.size, 0, none⟩) 1 1] W fun e w2 => ∃ g2 cap2, e = .returned (.slice (some ⟨g2, 0, none⟩) (K.length + 1) cap2) ∧ w2.cell? ⟨m, 1, none⟩ = some (.slice a K.length cap) ∧ w2.frozen? ⟨m, 1, none⟩ = false ∧ (∀ b j v, w.heap.size ≤ b → w1.cell? ⟨b, j, none⟩ = some v → w2.cell? ⟨b, j, none⟩ = some v) ∧ PutHq m (.slice a K.length cap) K e0 w (w2.setCell ⟨m, 1, none⟩ (.slice (some ⟨g2, 0, none⟩) (K.length + 1) cap2)) := by
  have hhd := fun g hg => hM.head (g := g) hg
  have hpos := after_posH hR hs hno
  have hkn : routeAt K e0.bits e0.len = none := by rw [routeAt_get hL hR hs, dif_neg hno]
  obtain ⟨⟨h0, h1, h2, h3, h4⟩, _⟩ := hM
  have hmlt : m < w.heap.size := block_lt_of_cell h0
  have hne : ∀ b, (Value.slice a K.length cap).ownBlock = some b → m ≠ b := fun b hb => (hhd b hb).2.2
  have hlt : ∀ b, (Value.slice a K.length cap).ownBlock = some b → b < w.heap.size := fun b hb => (hhd b hb).2.1
  have hsz := hb.size
  have hm1 : m < w1.heap.size := by omega
  have hWs := BW.size
  have oW : W.ownsRow 0 249 4 (.slice a K.length cap) K.length (rowH K) := ownsRow_keep h2 fun b hb' => (BW.block b (by have := hlt b hb'; omega)).trans (hb.block b (hlt b hb'))
  refine (insH_any (.slice a K.length cap) K.length i (rowH K) w1.heap.size 249 4 [.int .i64 e0.bits, .int .i64 e0.len, .int .i64 e0.vlan, .string e0.mac] W oW (rowH_one K) hi hn rfl
    (fun j u hj => cell_in_row hWn hj) (by simp [Value.oneCell']) (fun hb' => by have : w1.heap.size < w.heap.size := hlt _ hb'; omega) (by simp [World.shape?, hWn]) (fun j => by simp [World.frozen?, hWn])).mono ?_
  rintro e w2 ⟨g2, cap2, rfl, hown2, hat2, hch2⟩
  have hb2 : w2.heap[m]? = w.heap[m]? := (hch2.block m (by omega) fun h => hne m h rfl).trans ((BW.block m hm1).trans (hb.block m hmlt))
  have hc2 : ∀ j, w2.cell? ⟨m, j, none⟩ = w.cell? ⟨m, j, none⟩ := fun j => World.cell?_of_block (a := ⟨m, j, none⟩) hb2
  have hf2 : ∀ j, w2.frozen? ⟨m, j, none⟩ = false := fun j => (World.frozen?_of_block (a := ⟨m, j, none⟩) hb2).trans (h3 j)
  have hlen : (K.take i ++ e0 :: K.drop i).length = K.length + 1 := length_ins e0 hi
  have hrow : (rowH K).take (i * 4) ++ [.int .i64 e0.bits, .int .i64 e0.len, .int .i64 e0.vlan, .string e0.mac] ++ (rowH K).drop (i * 4) = rowH (K.take i ++ e0 :: K.drop i) := by
    rw [rowH_take K i hi, rowH_drop K i hi, rowH_append]; simp [rowH]
  rw [hrow] at hown2
  have hgm : m ≠ g2 := by
    rcases hat2 with h | h
    · exact hne _ h
    · omega
  refine ⟨g2, cap2, rfl, (hc2 1).trans h1, hf2 1, fun b j v hb' hc => ?_, ?_⟩
  · have hlt' : b < w1.heap.size := block_lt_of_cell hc
    exact (World.cell?_of_block (a := ⟨b, j, none⟩) ((hch2.block b (by omega) fun h => by have := hlt b h; omega).trans (BW.block b hlt'))).trans hc
  · refine ⟨.slice (some ⟨g2, 0, none⟩) (K.length + 1) cap2, K.take i ++ e0 :: K.drop i, ⟨⟨?_, ?_, ?_, fun j => ?_, by omega⟩, fun e => by simp at e⟩, ?_, fun q => ?_, by rw [hlen, hkn]; rfl, ?_, ?_⟩
    · rw [World.cell?_setCell_other _ _ _ _ (by simp)]; exact (hc2 0).trans h0
    · exact World.cell?_setCell_same _ _ _ ((hc2 1).trans h1)
    · rw [hlen]
      refine ownsRow_keep hown2 fun g hg => ?_
      obtain rfl : g2 = g := by simpa [Value.ownBlock] using hg
      exact Below.heap_setCell _ _ _ _ (Ne.symm hgm)
    · rw [World.frozen?_setCell]; exact hf2 j
    · refine pw_ins i e0 hs (fun x hx => ?_) (fun x hx => ?_)
      · obtain ⟨j, hj, rfl⟩ := List.getElem_of_mem hx
        rw [List.length_take] at hj
        rw [List.getElem_take]
        have := hL j (by omega)
        rwa [rAt_eq (by omega)] at this
      · obtain ⟨j, hj, rfl⟩ := List.getElem_of_mem hx
        rw [List.length_drop] at hj
        rw [List.getElem_drop]
        have := hpos (i + j) (by omega) (by omega)
        rw [rAt_eq (by omega)] at this
        exact cmpRt_flip this
    · rw [mem_ins]
      refine or_congr Iff.rfl ⟨fun h => ⟨h, ?_⟩, fun h => h.1⟩
      obtain ⟨j, hj, rfl⟩ := List.getElem_of_mem h
      rw [← rAt_eq hj]
      rcases Nat.lt_or_ge j i with h' | h'
      · have := hL j h'; omega
      · have := hpos j h' hj; omega
    · intro b hb
      obtain rfl : g2 = b := by simpa [Value.ownBlock] using hb
      rcases hat2 with h | h
      · exact .inl h
      · exact .inr (by omega)
    · refine Chg.setCell ?_ (.inl (.inl rfl)) _
      exact (Chg.of_below hb).trans ((Chg.of_below BW).trans (hch2.mono fun x _ hx => .inr hx))

/-- An entry has been given a new value in place. -/
theorem putH_set {m g cap i : Nat} {K : List Rt} {e0 : Rt} {w w1 : World} (hM : MapHq w m (.slice (some ⟨g, 0, none⟩) K.length cap) K) (hs : SortedH K) (hi : i < K.length) (hz : cmpRt (rAt K i) e0.bits e0.len = 0) (hb : Below w.heap.size w w1) :
    PutHq m (.slice (some ⟨g, 0, none⟩) K.length cap) K e0 w ((w1.setCell ⟨g, i * 4 + 2, none⟩ (.int .i64 e0.vlan)).setCell ⟨g, i * 4 + 3, none⟩ (.string e0.mac)) := by
  obtain ⟨_, hglt, hne⟩ := hM.head (g := g) rfl
  have hM1 := hM.below hb
  obtain ⟨⟨h0, h1, h2, h3, h4⟩, _⟩ := hM1
  rw [rAt_eq hi] at hz
  have hz' := hz
  unfold cmpRt at hz'
  rw [cmpPf_zero] at hz'
  have e1 : e0.bits = K[i].bits := hz'.1.symm
  have e2 : e0.len = K[i].len := hz'.2.symm
  have hkn : (routeAt K e0.bits e0.len).isSome = true := by
    rw [routeAt, List.find?_isSome]
    exact ⟨K[i], List.getElem_mem hi, cmpRt_zero.1 hz⟩
  have ho := ownsRow_set (ownsRow_set h2 (j := i * 4 + 2) (by omega) (.int .i64 e0.vlan)) (j := i * 4 + 3) (by omega) (.string e0.mac)
  rw [← rowH_set K i hi e0 e1 e2] at ho
  have hother : ∀ j, ((w1.setCell ⟨g, i * 4 + 2, none⟩ (.int .i64 e0.vlan)).setCell ⟨g, i * 4 + 3, none⟩ (.string e0.mac)).cell? ⟨m, j, none⟩ = w1.cell? ⟨m, j, none⟩ := fun j => by
    rw [set_other (.inl (Ne.symm hne)), set_other (.inl (Ne.symm hne))]
  have hcmp : ∀ q : Rt, cmpRt e0 q.bits q.len = cmpRt K[i] q.bits q.len ∧ cmpRt q e0.bits e0.len = cmpRt q K[i].bits K[i].len := fun q => by
    unfold cmpRt
    rw [e1, e2]
    exact ⟨rfl, rfl⟩
  have hpw := List.pairwise_iff_getElem.1 hs
  refine ⟨.slice (some ⟨g, 0, none⟩) K.length cap, K.set i e0, ⟨⟨(hother 0).trans h0, (hother 1).trans h1, ?_, fun j => by rw [World.frozen?_setCell, World.frozen?_setCell]; exact h3 j, by rw [List.length_set]; exact h4⟩, fun e => ?_⟩, ?_, fun q => ?_, by rw [List.length_set, if_pos hkn], fun b hb => .inl hb, ?_⟩
  · rw [List.length_set]; exact ho
  · have := congrArg List.length e
    rw [List.length_set] at this
    exact absurd hi (by rw [this]; simp)
  · refine List.pairwise_iff_getElem.2 ?_
    intro a b ha hb hab
    rw [List.length_set] at ha hb
    rw [List.getElem_set, List.getElem_set]
    split
    · rename_i e
      rw [if_neg (by omega)]
      rw [(hcmp _).1]
      exact hpw i b hi hb (by omega)
    · split
      · rename_i e
        rw [(hcmp _).2]
        exact hpw a i ha hi (by omega)
      · exact hpw a b ha hb hab
  · constructor
    · intro hq
      obtain ⟨j, hj, rfl⟩ := List.getElem_of_mem hq
      rw [List.length_set] at hj
      rw [List.getElem_set]
      split
      · exact .inl rfl
      · rename_i hne
        refine .inr ⟨List.getElem_mem hj, ?_⟩
        rw [(hcmp _).2]
        rcases Nat.lt_or_ge j i with h' | h'
        · have := hpw j i hj hi h'; omega
        · have h3 := hpw i j hi hj (by omega)
          intro e
          unfold cmpRt at h3 e
          rw [cmpPf_zero] at e
          rw [e.1, e.2, cmpPf_neg] at h3
          omega
    · rintro (rfl | ⟨hq, hne⟩)
      · exact List.mem_set hi _
      · obtain ⟨j, hj, rfl⟩ := List.getElem_of_mem hq
        have hji : i ≠ j := by
          rintro rfl
          exact hne hz
        have h5 : (K.set i e0)[j]'(by rw [List.length_set]; exact hj) = K[j] := by rw [List.getElem_set, if_neg hji]
        rw [← h5]
        exact List.getElem_mem _
  · exact Chg.setCell (Chg.setCell (Chg.of_below hb) (.inl (.inr rfl)) _) (.inl (.inr rfl)) _

set_option maxRecDepth 100000 in
set_option maxHeartbeats 1000000 in
theorem putH_any (m : Nat) (sv : Value) (K : List Rt) (e0 : Rt) (w : World) (hm : MapHq w m sv K) (hs : SortedH K) (hn : K.length ≤ 199) :
    Calls Tryz.prog 121 #[.pointer (some ⟨m, 0, none⟩), .agg #[.int .i64 e0.bits, .int .i64 e0.len], .agg #[.int .i64 e0.vlan, .string e0.mac]] w fun e w' => e = .returned (.tuple #[]) ∧ PutHq m sv K e0 w w' := by
  have hmlt : m < w.heap.size := block_lt_of_cell hm.1.1
  obtain ⟨w0, hw0⟩ : ∃ w0, w0 = (w.alloc (.cells #[.int .i64 e0.bits, .int .i64 e0.len] 88)).alloc (.cells #[.int .i64 e0.vlan, .string e0.mac] 92) := ⟨_, rfl⟩
  have hb0 : Below w.heap.size w w0 := by rw [hw0]; exact ((Below.refl _ w).alloc (Nat.le_refl _) _).alloc (by rw [alloc_size]; omega) _
  have hs0 : w0.heap.size = w.heap.size + 2 := by rw [hw0, alloc_size, alloc_size]
  have hm0 : MapHq w0 m sv K := hm.below hb0
  have b0 : w0.heap[w.heap.size]? = some (.cells #[.int .i64 e0.bits, .int .i64 e0.len] 88 (0, 0)) := by
    rw [hw0]; exact (((Below.refl _ (w.alloc (.cells #[.int .i64 e0.bits, .int .i64 e0.len] 88))).alloc (Nat.le_refl _) _).block _ (by rw [alloc_size]; omega)).trans (alloc_new _ _)
  have b1 : w0.heap[w.heap.size + 1]? = some (.cells #[.int .i64 e0.vlan, .string e0.mac] 92 (0, 0)) := by
    rw [hw0, ← alloc_size w (.cells #[.int .i64 e0.bits, .int .i64 e0.len] 88)]; exact alloc_new _ _
  have c0 : w0.cell? ⟨w.heap.size, 0, none⟩ = some (.int .i64 e0.bits) := cell_in_row b0 rfl
  have c1 : w0.cell? ⟨w.heap.size, 1, none⟩ = some (.int .i64 e0.len) := cell_in_row b0 rfl
  have c2 : w0.cell? ⟨w.heap.size + 1, 0, none⟩ = some (.int .i64 e0.vlan) := cell_in_row b1 rfl
  have c3 : w0.cell? ⟨w.heap.size + 1, 1, none⟩ = some (.string e0.mac) := cell_in_row b1 rfl
  have CP := hide (placeH_any m sv K e0.bits e0.len w0 hm0.1 hs)
  obtain ⟨a, cap, g, rfl, hc⟩ := rowH_cells hm.1.2.2.1
  have CI := hide fun i (hi : i ≤ K.length) hL hR hno w1 hb W => putH_ins m a cap i K e0 w w1 W hm hs hn hi hL hR hno hb
  have h1 := hm0.1.2.1
  have HB0 := hide hb0
  have HW0 := hide hw0
  have HM := hide hm
  have HC := hide hc
  clear hm hm0 hc hb0 b0 b1
  go_enter Tryz.func121, Tryz.ntmps121
  go_wp2_with fail
  rw [← HW0.out]
  refine CP.out.mono ?_
  rintro e w1 ⟨i, hi, hL, hR, rfl, hb⟩
  have k1 := cell_later hb h1
  have kb0 := cell_later hb c0
  have kb1 := cell_later hb c1
  have kb2 := cell_later hb c2
  have kb3 := cell_later hb c3
  have hsz := hb.size
  have hmlt1 : m < w1.heap.size := by omega
  have hbx : w.heap.size < w1.heap.size := by omega
  have hby : w.heap.size + 1 < w1.heap.size := by omega
  have hmx : ¬ m = w.heap.size := by omega
  have hmy : ¬ m = w.heap.size + 1 := by omega
  by_cases h : i < K.length ∧ cmpRt (rAt K i) e0.bits e0.len = 0
  · have hx : (decide (i < K.length) && (cmpRt (rAt K i) e0.bits e0.len == 0)) = true := by
      rw [Bool.and_eq_true, decide_eq_true_eq, beq_iff_eq]; exact h
    have hbb := HB0.out.trans (hb.mono (by omega))
    obtain ⟨hik, hz⟩ := h
    obtain ⟨rfl, d0, d1, d2, d3⟩ := HC.out i hik
    have HS := hide (putH_set (i := i) HM.out hs hik hz hbb)
    have l2 := cell_later hbb d2
    have l3 := cell_later hbb d3
    have ff := ownsRow_frozen (HM.out.below hbb).1.2.2.1
    have f2 : w1.frozen? ⟨g, i * 4 + 2, none⟩ = false := ff _
    have f3 : w1.frozen? ⟨g, i * 4 + 3, none⟩ = false := ff _
    have hglt := (HM.out.head (g := g) rfl).2.1
    have hgx : ¬ g = w.heap.size := by omega
    have hgy : ¬ g = w.heap.size + 1 := by omega
    clear ff
    clear CP CI hL hR hb h1 c0 c1 c2 c3 HW0 HB0 hbb d0 d1 d2 d3
    go_wp2_with fail
    go_region_with fail
    all_goals go_wp2_with fail
    all_goals refine bodyPost_ret (results_none rfl _ _ _) rfl ?_
    all_goals exact ⟨rfl, HS.out.drew⟩
  · have hx : (decide (i < K.length) && (cmpRt (rAt K i) e0.bits e0.len == 0)) = false := by
      rw [← Bool.not_eq_true, Bool.and_eq_true, decide_eq_true_eq, beq_iff_eq]; exact h
    have CJ := hide (CI.out i hi hL hR h w1 (HB0.out.trans (hb.mono (by omega))))
    clear CP hL hR hb h1 c0 c1 c2 c3 CI h HW0 HB0
    go_wp2_with fail
    go_region_with
      (first | (go_at_call 147; refine (CJ.out _ ?_ ?_).mono ?_; (first | exact ((Below.refl _ w1).alloc (Nat.le_refl _) _).drew | exact ((Below.refl _ w1).drew).alloc (Nat.le_refl _) _); (exact alloc_new w1 _); rintro e w2 ⟨g2, cap2, rfl, m1, mf, mb, hp⟩; have j0 := mb _ _ _ (Nat.le_refl _) kb0; have j1 := mb _ _ _ (Nat.le_refl _) kb1; have j2 := mb _ _ _ (Nat.le_succ _) kb2; have j3 := mb _ _ _ (Nat.le_succ _) kb3; have HP := hide hp; clear hp mb))
    all_goals go_end0
    all_goals exact ⟨rfl, HP.out⟩

/-- What PutWithin leaves. -/
def PutHw (m : Nat) (sv : Value) (K : List Rt) (e0 : Rt) (ok : Bool) (w w3 : World) : Prop :=
  if ok = true then PutHq m sv K e0 w w3 else Below w.heap.size w w3

theorem routeAt_at {K : List Rt} {x : Int} {b : Int} {i : Nat} (hL : ∀ j, j < i → cmpRt (rAt K j) x b < 0) (hR : ∀ j, i ≤ j → j < K.length → 0 ≤ cmpRt (rAt K j) x b) (hs : SortedH K) :
    (decide (i < K.length) && (cmpRt (rAt K i) x b == 0)) = (routeAt K x b).isSome := by
  rw [routeAt_get hL hR hs]
  by_cases h : i < K.length ∧ cmpRt (rAt K i) x b = 0
  · rw [dif_pos h]
    simp [h.1, h.2]
  · rw [dif_neg h]
    simp only [Option.isSome_none]
    rw [← Bool.not_eq_true, Bool.and_eq_true, decide_eq_true_eq, beq_iff_eq]
    exact h

theorem putHq_from {m : Nat} {sv : Value} {K : List Rt} {e0 : Rt} {w W w3 : World} (hB : Below w.heap.size w W) (hP : PutHq m sv K e0 W w3) : PutHq m sv K e0 w w3 := by
  obtain ⟨sv', K', h1, h2, h3, h4, h5, h6⟩ := hP
  exact ⟨sv', K', h1, h2, h3, h4, fun b hb => (h5 b hb).imp id fun h' => Nat.le_trans hB.size h', (Chg.of_below hB).trans h6⟩

set_option maxRecDepth 100000 in
set_option maxHeartbeats 1000000 in
theorem putWH_any (m : Nat) (sv : Value) (K : List Rt) (e0 : Rt) (most : Int) (w : World) (hm : MapHq w m sv K) (hs : SortedH K) (hn : K.length ≤ 199) :
    Calls Tryz.prog 79 #[.pointer (some ⟨m, 0, none⟩), .int .i64 most, .agg #[.int .i64 e0.bits, .int .i64 e0.len], .agg #[.int .i64 e0.vlan, .string e0.mac]] w fun e w' => ∃ ok : Bool, ok = ((routeAt K e0.bits e0.len).isSome || decide ((K.length : Int) < most)) ∧ e = .returned (.bool ok) ∧ PutHw m sv K e0 ok w w' := by
  have hmlt : m < w.heap.size := block_lt_of_cell hm.1.1
  obtain ⟨w0, hw0⟩ : ∃ w0, w0 = (w.alloc (.cells #[.int .i64 e0.bits, .int .i64 e0.len] 88)).alloc (.cells #[.int .i64 e0.vlan, .string e0.mac] 92) := ⟨_, rfl⟩
  have hb0 : Below w.heap.size w w0 := by rw [hw0]; exact ((Below.refl _ w).alloc (Nat.le_refl _) _).alloc (by rw [alloc_size]; omega) _
  have hs0 : w0.heap.size = w.heap.size + 2 := by rw [hw0, alloc_size, alloc_size]
  have hm0 : MapHq w0 m sv K := hm.below hb0
  have b0 : w0.heap[w.heap.size]? = some (.cells #[.int .i64 e0.bits, .int .i64 e0.len] 88 (0, 0)) := by
    rw [hw0]; exact (((Below.refl _ (w.alloc (.cells #[.int .i64 e0.bits, .int .i64 e0.len] 88))).alloc (Nat.le_refl _) _).block _ (by rw [alloc_size]; omega)).trans (alloc_new _ _)
  have b1 : w0.heap[w.heap.size + 1]? = some (.cells #[.int .i64 e0.vlan, .string e0.mac] 92 (0, 0)) := by
    rw [hw0, ← alloc_size w (.cells #[.int .i64 e0.bits, .int .i64 e0.len] 88)]; exact alloc_new _ _
  have c0 : w0.cell? ⟨w.heap.size, 0, none⟩ = some (.int .i64 e0.bits) := cell_in_row b0 rfl
  have c1 : w0.cell? ⟨w.heap.size, 1, none⟩ = some (.int .i64 e0.len) := cell_in_row b0 rfl
  have c2 : w0.cell? ⟨w.heap.size + 1, 0, none⟩ = some (.int .i64 e0.vlan) := cell_in_row b1 rfl
  have c3 : w0.cell? ⟨w.heap.size + 1, 1, none⟩ = some (.string e0.mac) := cell_in_row b1 rfl
  have CP := hide (placeH_any m sv K e0.bits e0.len w0 hm0.1 hs)
  have h1 := hm0.1.2.1
  have HB0 := hide hb0
  have HW0 := hide hw0
  have HM := hide hm
  clear hm hm0 hb0 b0 b1
  go_enter Tryz.func79, Tryz.ntmps79
  go_wp2_with fail
  rw [← HW0.out]
  refine CP.out.mono ?_
  rintro e w1 ⟨i, hi, hL, hR, rfl, hb⟩
  rw [routeAt_at hL hR hs]
  have kb0 := cell_later hb c0
  have kb1 := cell_later hb c1
  have kb2 := cell_later hb c2
  have kb3 := cell_later hb c3
  have hsz := hb.size
  have hB1 : Hid (Below w.heap.size w w1) := hide (HB0.out.trans (hb.mono (by omega)))
  have CQ := hide fun (W : World) (h : Below w.heap.size w W) => putH_any m sv K e0 W (HM.out.below h) hs hn
  obtain ⟨a0, cap, g, rfl, hcs⟩ := rowH_cells HM.out.1.2.2.1
  have CLn := hide (lenH_any m a0 K.length cap w1 (HM.out.below hB1.out).1.2.1)
  clear hcs hL hR hb h1 c0 c1 c2 c3 HW0 HB0 CP
  cases hk : (routeAt K e0.bits e0.len).isSome with
  | true =>
    have HK := hide hk
    clear hk
    go_wp2_with fail
    refine (CQ.out _ hB1.out).mono ?_
    rintro e w2 ⟨rfl, hp⟩
    have HP := hide (putHq_from hB1.out hp)
    clear hp
    go_wp2_with fail
    go_ret
    exact ⟨true, by rw [HK.out]; rfl, rfl, HP.out⟩
  | false =>
    have HK := hide hk
    clear hk
    go_wp2_with fail
    refine CLn.out.mono ?_
    rintro e w2 ⟨rfl, rfl⟩
    by_cases hlen : (K.length : Int) < most
    · have hle : ¬ most ≤ (K.length : Int) := by omega
      have HLE := hide hlen
      clear hlen
      go_wp2_with fail
      refine (CQ.out _ hB1.out).mono ?_
      rintro e w3 ⟨rfl, hp⟩
      have HP := hide (putHq_from hB1.out hp)
      clear hp
      go_wp2_with fail
      go_ret
      exact ⟨true, by rw [HK.out]; exact (decide_eq_true HLE.out).symm, rfl, HP.out⟩
    · have hle : most ≤ (K.length : Int) := by omega
      have HLE := hide hlen
      clear hlen
      go_wp2_with fail
      go_ret
      exact ⟨false, by rw [HK.out]; exact (decide_eq_false (Int.not_lt.2 HLE.out)).symm, rfl, hB1.out⟩

end Go.Proofs.YtaejpejfmpbinaaGreatDoor

namespace Go.Proofs.YtaejpejfmpbinaaGreatDoor
open Go.RowKit

theorem infoFc : (Tryz.prog.info? 191).map (fun i => (i.zero, i.size, i.bytes)) = some (some (.agg #[.int .i64 0, .string ByteArray.empty]), 2, 24) := by kernel_rfl
theorem underFc : Tryz.prog.underlying 162 = some (.slice 191) := by kernel_rfl
theorem sizeFc : (Tryz.prog.info? 191).map (·.size) = some 2 := by kernel_rfl

set_option maxRecDepth 100000 in
set_option maxHeartbeats 1000000 in
theorem insFc_end (sv : Value) (n : Nat) (xs : List Value) (vb : Nat) (vs : List Value) (w : World) (h : w.ownsRow 0 191 2 sv n xs) (hn : n ≤ 199) (hvl : vs.length = 2) (hvs : ∀ j u, vs[j]? = some u → w.cell? ⟨vb, j, none⟩ = some u) (h1 : ∀ u ∈ vs, u.oneCell' = true) :
    Calls Tryz.prog 118 #[sv, .int .i64 n, .slice (some ⟨vb, 0, none⟩) 1 1] w (InsPost 191 2 sv n (xs ++ vs) w) := by
  obtain ⟨i0, hi, hz0, hz1, hz2⟩ := info_parts infoFc
  have H := hide h
  have HV := hide hvs
  have hnn : (n : Int) ≤ 199 := by omega
  rcases h.2 with ⟨hv, h0⟩ | ⟨g, cap, cur, hv, _, hg, hcap, hmax, hcs, htk⟩
  · subst hv h0
    clear h hvs
    go_enter Tryz.func118, Tryz.ntmps118
    go_wp2_with (first | (at_builtin; refine wpList_append_lies _ rfl _ _ 162 rfl 0 191 i0 (.agg #[.int .i64 0, .string ByteArray.empty]) 2 24 underFc hi hz0 hz1 hz2 rfl (by decide) _ 0 xs rfl H.out ⟨vb, 0, none⟩ 1 1 vs rfl (by rw [hvl]) (fun j u hj => by rw [Addr.add_lit, Nat.zero_add]; exact HV.out j u hj) h1 (by decide) (by unfold maxLen; omega) (by omega) (Nat.zero_le _) _ rfl ?_))
    intro g1 cap1 w1 hown1 hgrow1 hat1 hlt1
    have P1 := hide (show InsPost 191 2 (.slice none 0 0) 0 (xs ++ vs) w (.returned (.slice (some ⟨g1, 0, none⟩) 1 cap1)) w1 from ⟨g1, cap1, rfl, hown1, by rcases hat1 with e | e; exact .inl e; exact .inr (by omega), Chg.grown hgrow1 fun _ e => e⟩)
    clear hown1 hgrow1 hat1
    go_wp2
    go_ret
    exact P1.out
  · subst hv
    clear h hvs htk hcs hg
    have hb : cap ≤ 9223372036854775807 := by unfold maxLen at hmax; omega
    have hcn : (n : Int) ≤ cap := by omega
    go_enter Tryz.func118, Tryz.ntmps118
    go_wp2_with (first | (at_builtin; refine wpList_append_lies _ rfl _ _ 162 rfl 0 191 i0 (.agg #[.int .i64 0, .string ByteArray.empty]) 2 24 underFc hi hz0 hz1 hz2 rfl (by decide) _ n xs rfl H.out ⟨vb, 0, none⟩ 1 1 vs rfl (by rw [hvl]) (fun j u hj => by rw [Addr.add_lit, Nat.zero_add]; exact HV.out j u hj) h1 (by decide) (by unfold maxLen; omega) (by omega) (Nat.zero_le _) _ rfl ?_))
    all_goals
      intro g1 cap1 w1 hown1 hgrow1 hat1 hlt1
      have P1 := hide (show InsPost 191 2 (.slice (some ⟨g, 0, none⟩) n cap) n (xs ++ vs) w (.returned (.slice (some ⟨g1, 0, none⟩) (n + 1) cap1)) w1 from ⟨g1, cap1, rfl, hown1, by rcases hat1 with e | e; exact .inl e; exact .inr (by omega), Chg.grown hgrow1 fun _ e => e⟩)
      clear hown1 hgrow1 hat1
      go_wp2
      go_ret
      exact P1.out

set_option maxRecDepth 100000 in
set_option maxHeartbeats 1000000 in
theorem insFc_room (g n cap i : Nat) (cur : Array Value) (xs : List Value) (vb : Nat) (tv : TypeId) (kv : Nat) (vs : List Value) (w : World) (hg : w.heap[g]? = some (.cells cur 191 (0, 0))) (hmax : cap ≤ maxLen) (hcs : cur.size = cap * 2) (hxl : xs.length = n * 2) (htk : cur.toList.take (n * 2) = xs) (hx1 : ∀ u ∈ xs, u.oneCell' = true)
    (hi : i < n) (hroom : n + 1 ≤ cap) (hn : n ≤ 199) (hvl : vs.length = 2) (hvs : ∀ j u, vs[j]? = some u → w.cell? ⟨vb, j, none⟩ = some u) (h1 : ∀ u ∈ vs, u.oneCell' = true) (hvb : vb ≠ g) (hsa : w.shape? vb = some (tv, kv)) (hfv : ∀ j, w.frozen? ⟨vb, j, none⟩ = false) :
    Calls Tryz.prog 118 #[.slice (some ⟨g, 0, none⟩) n cap, .int .i64 i, .slice (some ⟨vb, 0, none⟩) 1 1] w (InsPost 191 2 (.slice (some ⟨g, 0, none⟩) n cap) n (xs.take (i * 2) ++ vs ++ xs.drop (i * 2)) w) := by
  have hsb : w.shape? g = some (191, cur.size) := by simp [World.shape?, hg]
  have hov : ∀ lb cb, (callFunc 143 #[.slice (some ⟨vb, 0, none⟩) 1 1, .slice (some ⟨g, (i + 1) * 2, none⟩) lb cb]).run Tryz.prog w = .ok (.value (.bool false)) w := fun lb cb => by
    rw [run_callFunc_extern Tryz.func143 (by kernel_rfl) (by kernel_rfl) (by kernel_rfl) (e := Extern.SlicesOverlaps.overlaps #[162, 162] #[4]) (by kernel_rfl),
      Lib.run_overlaps_apart w 162 4 191 underFc 2 (fun _ => rfl) ⟨vb, 0, none⟩ ⟨g, (i + 1) * 2, none⟩ 1 1 lb cb hvb tv 191 kv cur.size hsa hsb (by omega) (hfv _) (hfv _)]
    rfl
  have hb : cap ≤ 9223372036854775807 := by unfold maxLen at hmax; omega
  have hcn : (n : Int) ≤ cap := by omega
  have hcn1 : (n : Int) + 1 ≤ cap := by omega
  have hz2 : ¬ ((i : Int) = (n : Int)) := by omega
  have hin : (i : Int) < n := by omega
  have hnc : ¬ ((cap : Int) < (n : Int) + 1) := by omega
  have hci : ¬ (cap = i) := by omega
  have hci1 : ¬ (cap = i + 1) := by omega
  have hw1 : IntKind.i64.wrap ((i : Int) + 1) = (i : Int) + 1 := by rw [IntKind.wrap_i64]; omega
  have hw2 : IntKind.i64.wrap ((n : Int) + 1) = (n : Int) + 1 := by rw [IntKind.wrap_i64]; omega
  have htn : ((i : Int) + 1).toNat = i + 1 := by omega
  have htn2 : ((n : Int) + 1).toNat = n + 1 := by omega
  have hb1 : (0 : Int) ≤ (i : Int) + 1 := by omega
  have hb2 : i ≤ n := by omega
  have hb3 : (i : Int) ≤ (n : Int) + 1 := by omega
  have hcl : cur.toList.length = cap * 2 := by rw [Array.length_toList]; exact hcs
  obtain ⟨D, hD⟩ : ∃ D, D = xs.drop (i * 2) := ⟨_, rfl⟩
  have hDl : D.length = (n - i) * 2 := by rw [hD, List.length_drop, hxl]; omega
  have hDc : ∀ j v, D[j]? = some v → w.cell? ⟨g, i * 2 + j, none⟩ = some v := fun j v hj => by
    rw [hD, List.getElem?_drop, ← htk, List.getElem?_take] at hj
    split at hj
    · exact cell_in_row hg hj
    · cases hj
  have hD1 : ∀ u ∈ D, u.oneCell' = true := fun u hu => hx1 u (by rw [hD] at hu; exact List.mem_of_mem_drop hu)
  have hrow : (splice (splice cur.toList ((i + 1) * 2) D) (i * 2) vs).take ((n + 1) * 2) = xs.take (i * 2) ++ vs ++ xs.drop (i * 2) := by
    rw [show (i + 1) * 2 = i * 2 + 2 by omega, show (n + 1) * 2 = n * 2 + 2 by omega, hD]
    exact ins_room cur.toList xs vs (i * 2) (n * 2) 2 htk hxl hvl (by omega) (by rw [hcl]; omega)
  have hrl : (splice (splice cur.toList ((i + 1) * 2) D) (i * 2) vs).length = cap * 2 := by
    rw [length_splice _ _ _ (by rw [length_splice _ _ _ (by omega)]; omega), length_splice _ _ _ (by omega), hcl]
  obtain ⟨ys, hys⟩ : ∃ ys, ys = xs.take (i * 2) ++ vs ++ xs.drop (i * 2) := ⟨_, rfl⟩
  have hyl : ys.length = (n + 1) * 2 := by rw [hys]; simp only [List.length_append, List.length_take, List.length_drop, hxl, hvl]; omega
  rw [← hys] at hrow ⊢
  have HG : Hid (w.heap[g]? = some (.cells cur.toList.toArray 191 (0, 0))) := hide (by rw [hg])
  have HV := hide hvs
  have HC := hide hcl
  have HDl := hide hDl
  have HDc := hide hDc
  have HD1 := hide hD1
  have HR := hide hrow
  have HRl := hide hrl
  have HYl := hide hyl
  clear hg hvs htk hxl hcs hsb hcl hDl hDc hD1 hrow hrl hyl hys hD
  generalize cur.toList = C at *
  have hmx := hide hmax
  clear hmax
  go_enter Tryz.func118, Tryz.ntmps118
  go_wp2_with (simp only [hov])
  go_region_law (refine step_copy_wide rfl _ _ 162 162 rfl 191 2 underFc sizeFc g ((i + 1) * 2) (n - i) (cap - (i + 1)) ⟨g, i * 2, none⟩ (n + 1 - i) (cap - i) (by simp [Act.eval, Act.put]) (by simp [Act.eval, Act.put]) C 191 HG.out D (n - i) (by simp only [Nat.min_def]; split <;> omega) HDl.out (fun j v hj => by rw [Addr.add_lit]; exact HDc.out j v hj) (by rw [HDl.out, HC.out]; omega) HD1.out (fun b => b = g) w (Chg.refl _ _).drew (.inl rfl) ?_; intro w1 G1 C1 O1)
  have HV1 : Hid (∀ j u, vs[j]? = some u → w1.cell? ⟨vb, j, none⟩ = some u) := hide fun j u hj => (World.cell?_of_block (w := w) (a := ⟨vb, j, none⟩) (O1.out vb hvb)).trans (HV.out j u hj)
  have HL1 : Hid (i * 2 + vs.length ≤ (splice C ((i + 1) * 2) D).length) := hide (by rw [length_splice _ _ _ (by rw [HDl.out, HC.out]; omega), HC.out, hvl]; omega)
  go_wp2_with (refine wpList_copy_wide rfl _ _ 162 162 rfl 191 2 underFc sizeFc g (i * 2) (n + 1 - i) (cap - i) ⟨vb, 0, none⟩ 1 1 rfl rfl (splice C ((i + 1) * 2) D) 191 G1.out vs 1 (by simp only [Nat.min_def]; split <;> omega) (by rw [hvl]) (fun j v hj => by rw [Addr.add_lit, Nat.zero_add]; exact HV1.out j v hj) HL1.out h1 (fun b => b = g) w C1.out (.inl rfl) ?_)
  intro w2 G2 C2 O2
  go_wp2
  go_ret
  exact ⟨g, cap, rfl, ⟨HYl.out, .inr ⟨g, cap, _, rfl, Nat.zero_le _, G2.out, hroom, hmx.out, by rw [List.size_toArray]; exact HRl.out, HR.out⟩⟩, .inl rfl, C2.out.mono fun x _ hx => by subst hx; rfl⟩

theorem cells_zeroFc : (Value.cells (.agg #[.int .i64 0, .string ByteArray.empty])).size = 2 := rfl

set_option maxRecDepth 100000 in
set_option maxHeartbeats 1000000 in
theorem insFc_grow (g n cap i : Nat) (cur : Array Value) (xs : List Value) (vb : Nat) (vs : List Value) (w : World) (hg : w.heap[g]? = some (.cells cur 191 (0, 0))) (hxl : xs.length = n * 2) (htk : cur.toList.take (n * 2) = xs) (hx1 : ∀ u ∈ xs, u.oneCell' = true)
    (hi : i < n) (hnc0 : n ≤ cap) (hroom : cap < n + 1) (hn : n ≤ 199) (hvl : vs.length = 2) (hvs : ∀ j u, vs[j]? = some u → w.cell? ⟨vb, j, none⟩ = some u) (h1 : ∀ u ∈ vs, u.oneCell' = true) :
    Calls Tryz.prog 118 #[.slice (some ⟨g, 0, none⟩) n cap, .int .i64 i, .slice (some ⟨vb, 0, none⟩) 1 1] w (InsPost 191 2 (.slice (some ⟨g, 0, none⟩) n cap) n (xs.take (i * 2) ++ vs ++ xs.drop (i * 2)) w) := by
  obtain rfl : cap = n := by omega
  obtain ⟨i0, hii, hz0, hzs, hzb⟩ := info_parts infoFc
  have hglt : g < w.heap.size := (Array.getElem?_eq_some_iff.1 hg).1
  have hvlt : vb < w.heap.size := by
    obtain ⟨u, hu⟩ : ∃ u, vs[0]? = some u := ⟨_, List.getElem?_eq_getElem (by omega)⟩
    exact block_lt_of_cell (hvs 0 u hu)
  obtain ⟨D, hD⟩ : ∃ D, D = xs.drop (i * 2) := ⟨_, rfl⟩
  have hDl : D.length = (cap - i) * 2 := by rw [hD, List.length_drop, hxl]; omega
  have hDc : ∀ j v, D[j]? = some v → w.cell? ⟨g, i * 2 + j, none⟩ = some v := fun j v hj => by
    rw [hD, List.getElem?_drop, ← htk, List.getElem?_take] at hj
    split at hj
    · exact cell_in_row hg hj
    · cases hj
  have hD1 : ∀ u ∈ D, u.oneCell' = true := fun u hu => hx1 u (by rw [hD] at hu; exact List.mem_of_mem_drop hu)
  have hold : (Builtin.firstCells i0.size i (.slice (some ⟨g, 0, none⟩) i cap)).run Tryz.prog w.drew = .ok (xs.take (i * 2)).toArray w.drew := by
    rw [hzs]
    exact run_firstCells_some w.drew 2 i ⟨g, 0, none⟩ i cap (xs.take (i * 2)) (by rw [List.length_take]; omega) (fun j v hj => by
      rw [Addr.add_lit, Nat.zero_add]
      rw [List.getElem?_take] at hj
      split at hj
      · rw [← htk, List.getElem?_take] at hj
        split at hj
        · exact cell_in_row hg hj
        · cases hj
      · cases hj)
  have hik : i + (cap + 1 - i) = cap + 1 := by omega
  have hkk : (cap : Int) + 1 - (i : Int) = ((cap + 1 - i : Nat) : Int) := by omega
  obtain ⟨G, hG⟩ : ∃ G, G = grownCap w (cap + 1) cap 191 := ⟨_, rfl⟩
  obtain ⟨ROW, hROW⟩ : ∃ ROW : Array Value, ROW = (xs.take (i * 2)).toArray ++ Builtin.zeroCells (Value.cells (.agg #[.int .i64 0, .string ByteArray.empty])) (cap + 1 - i) ++ Builtin.zeroCells (Value.cells (.agg #[.int .i64 0, .string ByteArray.empty])) (G - (cap + 1)) := ⟨_, rfl⟩
  obtain ⟨W1, hW1⟩ : ∃ W1, W1 = w.drew.alloc (.cells ROW 191) := ⟨_, rfl⟩
  have hrz : ∀ ty, (Builtin.append_ #[162, 3] ty #[.slice (some ⟨g, 0, none⟩) i cap, .int .i64 ((cap : Int) + 1 - (i : Int))]).run Tryz.prog w = .ok (.slice (some ⟨w.heap.size, 0, none⟩) (cap + 1) G) W1 := fun ty => by
    have h := Lib.run_append_grow_zeros w 162 3 ty 191 i0 _ .i64 .i64 underFc (by kernel_rfl) hii hz0 (some ⟨g, 0, none⟩) i cap (xs.take (i * 2)) hold (cap + 1 - i) (by omega) (by omega) (by omega) (by omega) (by rw [hzb]; omega) (by rw [hzb, hik]; exact growslice_fits hroom (by omega))
    rw [hik] at h
    rw [hkk, hW1, hROW, hG]
    exact h
  have hGn : cap + 1 ≤ G := by rw [hG]; exact grownCap_ge w _ _ _
  have hGm : G ≤ maxLen := by rw [hG]; exact grownCap_le_maxLen w (cap + 1) cap 191 (by unfold maxLen; omega)
  have hG63 : G ≤ 9223372036854775807 := by unfold maxLen at hGm; omega
  have hRs : ROW.toList.length = G * 2 := by
    rw [hROW]
    simp only [Builtin.zeroCells, cells_zeroFc, Array.toList_append, List.length_append, Array.length_toList, Array.size_map, Array.size_range, List.length_take]
    omega
  have hRt : ROW.toList.take (i * 2) = xs.take (i * 2) := by
    rw [hROW, Array.toList_append, Array.toList_append, List.append_assoc, List.take_append_of_le_length (by rw [List.length_take]; omega), List.take_take, Nat.min_self]
  have hrow : (splice (splice ROW.toList (i * 2) vs) ((i + 1) * 2) D).take ((cap + 1) * 2) = xs.take (i * 2) ++ vs ++ xs.drop (i * 2) := by
    rw [show (i + 1) * 2 = i * 2 + 2 by omega, show (cap + 1) * 2 = cap * 2 + 2 by omega, hD]
    exact ins_grow ROW.toList xs vs (i * 2) (cap * 2) 2 hRt hxl hvl (by omega) (by rw [hRs]; omega)
  have hl1 : (splice ROW.toList (i * 2) vs).length = G * 2 := by rw [length_splice _ _ _ (by omega), hRs]
  have hrl : (splice (splice ROW.toList (i * 2) vs) ((i + 1) * 2) D).length = G * 2 := by rw [length_splice _ _ _ (by omega), hl1]
  obtain ⟨ys, hys⟩ : ∃ ys, ys = xs.take (i * 2) ++ vs ++ xs.drop (i * 2) := ⟨_, rfl⟩
  have hyl : ys.length = (cap + 1) * 2 := by rw [hys]; simp only [List.length_append, List.length_take, List.length_drop, hxl, hvl]; omega
  rw [← hys] at hrow ⊢
  obtain ⟨N, hN⟩ : ∃ N, N = w.heap.size := ⟨_, rfl⟩
  have HG : Hid (W1.heap[N]? = some (.cells ROW.toList.toArray 191 (0, 0))) := hide (by rw [hW1, hN]; exact (by simp : (w.heap.push (Obj.cells ROW 191))[w.heap.size]? = some (Obj.cells ROW.toList.toArray 191)))
  have HO : Hid (∀ k, k < N → W1.heap[k]? = w.heap[k]?) := hide fun k hk => by rw [hW1]; exact ((Below.refl w.heap.size w.drew).alloc (Nat.le_refl _) _).block k (by omega)
  have HCh : Hid (Chg (fun b => b = g) w W1) := hide (by rw [hW1]; exact (Chg.refl _ w).drew.alloc _)
  rw [← hN] at hrz hglt hvlt
  have HV1 : Hid (∀ j u, vs[j]? = some u → W1.cell? ⟨vb, j, none⟩ = some u) := hide fun j u hj => (World.cell?_of_block (w := w) (a := ⟨vb, j, none⟩) (HO.out vb hvlt)).trans (hvs j u hj)
  have HD2 : Hid (∀ j v, D[j]? = some v → W1.cell? ⟨g, i * 2 + j, none⟩ = some v) := hide fun j v hj => (World.cell?_of_block (w := w) (a := ⟨g, i * 2 + j, none⟩) (HO.out g hglt)).trans (hDc j v hj)
  have HDl := hide hDl
  have HD1 := hide hD1
  have HR := hide hrow
  have HRl := hide hrl
  have HRs := hide hRs
  have HL1 := hide hl1
  have HYl := hide hyl
  have HGm := hide hGm
  have HN := hide hN
  have hgN : g ≠ N := by omega
  clear hg hvs htk hxl hDl hDc hD1 hrow hrl hyl hys hD hold hik hkk hROW hRs hRt hl1 hW1 hG hGm hN HO hx1
  generalize ROW.toList = C at *
  have hb : cap ≤ 9223372036854775807 := by omega
  have hz2 : ¬ ((i : Int) = (cap : Int)) := by omega
  have hin : (i : Int) < cap := by omega
  have hnc : (cap : Int) < (cap : Int) + 1 := by omega
  have hci : ¬ (cap = i) := by omega
  have hGi : ¬ (G = i) := by omega
  have hGi1 : ¬ (G = i + 1) := by omega
  have hw1 : IntKind.i64.wrap ((i : Int) + 1) = (i : Int) + 1 := by rw [IntKind.wrap_i64]; omega
  have hw2 : IntKind.i64.wrap ((cap : Int) + 1) = (cap : Int) + 1 := by rw [IntKind.wrap_i64]; omega
  have hw3 : IntKind.i64.wrap ((cap : Int) + 1 - (i : Int)) = (cap : Int) + 1 - (i : Int) := by rw [IntKind.wrap_i64]; omega
  have htn : ((i : Int) + 1).toNat = i + 1 := by omega
  have hb1 : (0 : Int) ≤ (i : Int) + 1 := by omega
  have hb2 : i ≤ cap := by omega
  have hb3 : (i : Int) ≤ (cap : Int) + 1 := by omega
  go_enter Tryz.func118, Tryz.ntmps118
  go_wp2_with (first | (at_builtin; refine Lib.wpList_append_run _ rfl _ _ 162 3 rfl _ _ rfl rfl _ _ (hrz _) ?_) | (refine wpList_copy_wide rfl _ _ 162 162 rfl 191 2 underFc sizeFc N (i * 2) (cap + 1 - i) (G - i) ⟨vb, 0, none⟩ 1 1 rfl rfl C 191 HG.out vs 1 (by simp only [Nat.min_def]; split <;> omega) (by rw [hvl]) (fun j v hj => by rw [Addr.add_lit, Nat.zero_add]; exact HV1.out j v hj) (by rw [HRs.out, hvl]; omega) h1 (fun b => b = g) w HCh.out (.inr (Nat.le_of_eq HN.out.symm)) ?_))
  intro w1 G1 C1 O1
  have HD3 : Hid (∀ j v, D[j]? = some v → w1.cell? ⟨g, i * 2 + j, none⟩ = some v) := hide fun j v hj => (World.cell?_of_block (w := W1) (a := ⟨g, i * 2 + j, none⟩) (O1.out g hgN)).trans (HD2.out j v hj)
  go_wp2
  go_region_law (refine step_copy_wide rfl _ _ 162 162 rfl 191 2 underFc sizeFc N ((i + 1) * 2) (cap - i) (G - (i + 1)) ⟨g, i * 2, none⟩ (cap - i) (cap - i) (by simp [Act.eval, Act.put]) (by simp [Act.eval, Act.put]) (splice C (i * 2) vs) 191 G1.out D (cap - i) (by simp only [Nat.min_def]; split <;> omega) HDl.out (fun j v hj => by rw [Addr.add_lit]; exact HD3.out j v hj) (by rw [HDl.out, HL1.out]; omega) HD1.out (fun b => b = g) w C1.out.drew (.inr (Nat.le_of_eq HN.out.symm)) ?_; intro w2 G2 C2 O2)
  go_wp2
  go_ret
  exact ⟨N, G, rfl, ⟨HYl.out, .inr ⟨N, G, _, rfl, Nat.zero_le _, G2.out, hGn, HGm.out, by rw [List.size_toArray]; exact HRl.out, HR.out⟩⟩, .inr (Nat.le_of_eq HN.out.symm), C2.out.mono fun x _ hx => by subst hx; rfl⟩

/-- slices.Insert of one element. -/
theorem insFc_any (sv : Value) (n i : Nat) (xs : List Value) (vb : Nat) (tv : TypeId) (kv : Nat) (vs : List Value) (w : World) (h : w.ownsRow 0 191 2 sv n xs) (hx1 : ∀ u ∈ xs, u.oneCell' = true) (hi : i ≤ n) (hn : n ≤ 199) (hvl : vs.length = 2)
    (hvs : ∀ j u, vs[j]? = some u → w.cell? ⟨vb, j, none⟩ = some u) (h1 : ∀ u ∈ vs, u.oneCell' = true) (hvb : sv.ownBlock ≠ some vb) (hsa : w.shape? vb = some (tv, kv)) (hfv : ∀ j, w.frozen? ⟨vb, j, none⟩ = false) :
    Calls Tryz.prog 118 #[sv, .int .i64 i, .slice (some ⟨vb, 0, none⟩) 1 1] w (InsPost 191 2 sv n (xs.take (i * 2) ++ vs ++ xs.drop (i * 2)) w) := by
  by_cases hin : i = n
  · subst hin
    have e1 : xs.take (i * 2) = xs := List.take_of_length_le (by rw [h.1]; exact Nat.le_refl _)
    have e2 : xs.drop (i * 2) = [] := List.drop_eq_nil_of_le (by rw [h.1]; exact Nat.le_refl _)
    rw [e1, e2, List.append_nil]
    exact insFc_end sv i xs vb vs w h hn hvl hvs h1
  · have h' := h
    rcases h.2 with ⟨hv, h0⟩ | ⟨g, cap, cur, hv, _, hg, hcap, hmax, hcs, htk⟩
    · omega
    · subst hv
      by_cases hr : n + 1 ≤ cap
      · exact insFc_room g n cap i cur xs vb tv kv vs w hg hmax hcs h'.1 htk hx1 (by omega) hr hn hvl hvs h1 (fun e => hvb (by rw [e]; rfl)) hsa hfv
      · exact insFc_grow g n cap i cur xs vb vs w hg h'.1 htk hx1 (by omega) hcap (by omega) hn hvl hvs h1

end Go.Proofs.YtaejpejfmpbinaaGreatDoor

namespace Go.Proofs.YtaejpejfmpbinaaGreatDoor
open Go.RowKit

/-- The head of the faces' array, if it has one. -/
def HeadF (w : World) (sv : Value) : Prop := ∀ g, sv.ownBlock = some g → ∃ n p, w.cell? ⟨g, 0, none⟩ = some (.int .i64 n) ∧ w.cell? ⟨g, 1, none⟩ = some (.string p)
theorem rowFc_append (L M : List Fc) : rowFc (L ++ M) = rowFc L ++ rowFc M := by simp [rowFc]
theorem rowFc_take (L : List Fc) (i : Nat) : (rowFc L).take (i * 2) = rowFc (L.take i) := by
  rcases Nat.lt_or_ge L.length i with h | h
  · rw [List.take_of_length_le (by rw [rowFc_length]; omega), List.take_of_length_le (by omega)]
  · have e := congrArg rowFc (List.take_append_drop i L).symm
    rw [rowFc_append] at e
    rw [e, List.take_append_of_le_length (by rw [rowFc_length, List.length_take]; omega), List.take_of_length_le (by rw [rowFc_length, List.length_take]; omega)]
theorem rowFc_drop (L : List Fc) (i : Nat) : (rowFc L).drop (i * 2) = rowFc (L.drop i) := by
  rcases Nat.lt_or_ge L.length i with h | h
  · rw [List.drop_eq_nil_of_le (by rw [rowFc_length]; omega), List.drop_eq_nil_of_le (by omega)]; rfl
  · have e := congrArg rowFc (List.take_append_drop i L).symm
    rw [rowFc_append] at e
    have l : (rowFc (L.take i)).length = i * 2 := by rw [rowFc_length, List.length_take]; omega
    rw [e, ← l, List.drop_left]
theorem rowFc_one {L : List Fc} : ∀ u ∈ rowFc L, u.oneCell' = true := by
  intro u hu
  obtain ⟨e, _, h⟩ := List.mem_flatMap.1 hu
  simp at h
  rcases h with rfl | rfl <;> rfl
theorem HeadF.ne {w : World} {sv : Value} {m g : Nat} {fn : Fn} {f c : Array Value} (h : HeadF w sv) (hg : sv.ownBlock = some g) (hm : w.cell? ⟨m, 0, none⟩ = some (.func fn f c)) : m ≠ g := by
  rintro rfl
  obtain ⟨n, p, h0, _⟩ := h m hg
  rw [hm] at h0; cases h0

theorem HeadF.of_row {w : World} {sv : Value} {L : List Fc} (h : w.ownsRow 0 191 2 sv L.length (rowFc L)) (h0 : 0 < L.length) : HeadF w sv := by
  obtain ⟨a, cap, g, rfl, hc⟩ := rowFc_cells h
  obtain ⟨rfl, c0, c1⟩ := hc 0 h0
  intro g' hg'
  obtain rfl : g = g' := by simpa [Value.ownBlock] using hg'
  exact ⟨_, _, c0, c1⟩

/-- What a map's block holds behind a store of its entries. -/
theorem mapFc_stored {w w2 : World} {m : Nat} {sv sv' : Value} {L' : List Fc} (h0 : w2.cell? ⟨m, 0, none⟩ = some (.func (.func 44) #[] #[])) (h1 : w2.cell? ⟨m, 1, none⟩ = some sv) (hf : ∀ j, w2.frozen? ⟨m, j, none⟩ = false) (ho : w2.ownsRow 0 191 2 sv' L'.length (rowFc L')) (hne : ∀ g, sv'.ownBlock = some g → m ≠ g) (hl : L'.length ≤ 200)
    (hw : w = w2.setCell ⟨m, 1, none⟩ sv') : MapF w m sv' L' := by
  subst hw
  refine ⟨?_, ?_, ownsRow_same ho fun g hg => Below.heap_setCell _ _ _ _ (hne g hg).symm, fun j => ?_, hl⟩
  · rw [World.cell?_setCell_other _ _ _ _ (by simp)]; exact h0
  · exact World.cell?_setCell_same _ _ _ h1
  · rw [World.frozen?_setCell]; exact hf j

set_option maxRecDepth 100000 in
set_option maxHeartbeats 1000000 in
theorem putFc_any (m : Nat) (sv : Value) (L : List Fc) (e0 : Fc) (w : World) (hm : MapF w m sv L) (hs : SortedF L) (hh : HeadF w sv) (hno : faceOf L e0.1 = none) (hn : L.length ≤ 199) :
    Calls Tryz.prog 74 #[.pointer (some ⟨m, 0, none⟩), .int .i64 e0.1, .string e0.2] w fun e w' => e = .returned (.tuple #[]) ∧
      ∃ sv' L', MapF w' m sv' L' ∧ SortedF L' ∧ HeadF w' sv' ∧ (∀ x, x ∈ L' ↔ x = e0 ∨ x ∈ L) ∧ L'.length = L.length + 1 ∧ (∀ b, sv'.ownBlock = some b → sv.ownBlock = some b ∨ w.heap.size ≤ b) ∧ Chg (fun b => b = m ∨ sv.ownBlock = some b) w w' := by
  have CP := hide (placeFc_any m sv L e0.1 w hm hs)
  obtain ⟨h0, h1, h2, h3, h4⟩ := hm
  obtain ⟨a, cap, g, rfl, hc⟩ := rowFc_cells h2
  have hmlt : m < w.heap.size := block_lt_of_cell h0
  have hne : ∀ b, (Value.slice a L.length cap).ownBlock = some b → m ≠ b := fun b hb => hh.ne hb h0
  have HO := hide h2
  have HS := hide hs
  have HH := hide hh
  have H3 := hide h3
  have HNE := hide hne
  clear h2 h3 hs hh hc hne
  go_enter Tryz.func74, Tryz.ntmps74
  go_wp2_with fail
  refine CP.out.mono ?_
  rintro e w1 ⟨i, hi, hL, hR, rfl, hb⟩
  have HF := hide (faceOf_place hL hR HS.out)
  have hx : (decide (i < L.length) && (fcAt L i == e0.1)) = false := by
    rw [← Bool.not_eq_true, Bool.and_eq_true, decide_eq_true_eq, beq_iff_eq]
    intro h
    have := HF.out
    rw [dif_pos h, hno] at this
    cases this
  have HL := hide hL
  have HR := hide hR
  have k0 := cell_later hb h0
  have k1 := cell_later hb h1
  have HB := hide hb
  have hsz := hb.size
  have hm1 : m < w1.heap.size := by omega
  clear CP hL hR hb HF h0 h1
  go_wp2_with fail
  obtain ⟨W, hW⟩ : ∃ W, W = w1.alloc (.cells #[.int .i64 e0.1, .string e0.2] 191) := ⟨_, rfl⟩
  have BW : Below w1.heap.size w1 W := by rw [hW]; exact (Below.refl _ w1).alloc (Nat.le_refl _) _
  have hWn : W.heap[w1.heap.size]? = some (.cells #[.int .i64 e0.1, .string e0.2] 191 (0, 0)) := by rw [hW]; exact alloc_new _ _
  have hWs : W.heap.size = w1.heap.size + 1 := by rw [hW]; exact alloc_size _ _
  have oW : W.ownsRow 0 191 2 (.slice a L.length cap) L.length (rowFc L) := ownsRow_same HO.out fun b hb => by
    have : b < w.heap.size := by obtain ⟨n, p, c0, _⟩ := HH.out b hb; exact block_lt_of_cell c0
    exact (BW.block b (by omega)).trans (HB.out.block b this)
  have CI := insFc_any (.slice a L.length cap) L.length i (rowFc L) w1.heap.size 191 2 [.int .i64 e0.1, .string e0.2] W oW rowFc_one hi hn rfl
    (fun j u hj => cell_in_row hWn hj) (by simp [Value.oneCell']) (fun hb => by obtain ⟨n, p, c0, _⟩ := HH.out w1.heap.size hb; have : w1.heap.size < w.heap.size := block_lt_of_cell c0; omega) (by simp [World.shape?, hWn]) (fun j => by simp [World.frozen?, hWn])
  rw [← hW]
  refine CI.mono ?_
  rintro e w2 ⟨g2, cap2, rfl, hown2, hat2, hch2⟩
  have hb2 : w2.heap[m]? = w.heap[m]? := (hch2.block m (by omega) fun h => HNE.out m h rfl).trans ((BW.block m hm1).trans (HB.out.block m hmlt))
  have hc2 : ∀ j, w2.cell? ⟨m, j, none⟩ = w.cell? ⟨m, j, none⟩ := fun j => World.cell?_of_block (a := ⟨m, j, none⟩) hb2
  have hf2 : ∀ j, w2.frozen? ⟨m, j, none⟩ = false := fun j => (World.frozen?_of_block (a := ⟨m, j, none⟩) hb2).trans (H3.out j)
  have d0 : w2.cell? ⟨m, 0, none⟩ = some (.func (.func 44) #[] #[]) := (hc2 0).trans ((HB.out.cell (p := ⟨m, 0, none⟩) hmlt).symm.trans k0)
  have d1 : w2.cell? ⟨m, 1, none⟩ = some (.slice a L.length cap) := (hc2 1).trans ((HB.out.cell (p := ⟨m, 1, none⟩) hmlt).symm.trans k1)
  have hf1 := hf2 1
  have hlen : (L.take i ++ e0 :: L.drop i).length = L.length + 1 := length_ins e0 hi
  have hrow : (rowFc L).take (i * 2) ++ [.int .i64 e0.1, .string e0.2] ++ (rowFc L).drop (i * 2) = rowFc (L.take i ++ e0 :: L.drop i) := by
    rw [rowFc_take, rowFc_drop, rowFc_append]; simp [rowFc]
  rw [hrow] at hown2
  have hgm : ∀ g, (Value.slice (some ⟨g2, 0, none⟩) (L.length + 1) cap2).ownBlock = some g → m ≠ g := fun g hg => by
    obtain rfl : g2 = g := by simpa [Value.ownBlock] using hg
    rcases hat2 with h | h
    · exact HNE.out _ h
    · omega
  have hnew : ∀ x, x ∈ L → x.1 ≠ e0.1 := fun x hx he => by
    have := List.find?_eq_none.1 hno x hx
    simp [he] at this
  have P := hide (show ∀ w3, w3 = w2.setCell ⟨m, 1, none⟩ (.slice (some ⟨g2, 0, none⟩) (L.length + 1) cap2) → ∃ sv' L', MapF w3 m sv' L' ∧ SortedF L' ∧ HeadF w3 sv' ∧ (∀ x, x ∈ L' ↔ x = e0 ∨ x ∈ L) ∧ L'.length = L.length + 1 ∧ (∀ b, sv'.ownBlock = some b → (Value.slice a L.length cap).ownBlock = some b ∨ w.heap.size ≤ b) ∧ Chg (fun b => b = m ∨ (Value.slice a L.length cap).ownBlock = some b) w w3 from by
    intro w3 hw3
    have hM : MapF w3 m (.slice (some ⟨g2, 0, none⟩) (L.length + 1) cap2) (L.take i ++ e0 :: L.drop i) := mapFc_stored d0 d1 hf2 (by rw [hlen]; exact hown2) hgm (by omega) hw3
    refine ⟨_, _, hM, ?_, HeadF.of_row hM.2.2.1 (by omega), mem_ins i e0, hlen, ?_, ?_⟩
    · refine pw_ins i e0 HS.out (fun x hx => ?_) (fun x hx => ?_)
      · obtain ⟨j, hj, rfl⟩ := List.getElem_of_mem hx
        rw [List.length_take] at hj
        rw [List.getElem_take]
        have := HL.out j (by omega)
        rwa [fcAt_eq (by omega)] at this
      · have hne := hnew x (List.mem_of_mem_drop hx)
        obtain ⟨j, hj, rfl⟩ := List.getElem_of_mem hx
        rw [List.length_drop] at hj
        rw [List.getElem_drop] at hne ⊢
        have := HR.out (i + j) (by omega) (by omega)
        rw [fcAt_eq (by omega)] at this
        omega
    · intro b hb
      obtain rfl : g2 = b := by simpa [Value.ownBlock] using hb
      rcases hat2 with h | h
      · exact .inl h
      · exact .inr (by omega)
    · rw [hw3]
      refine Chg.setCell ?_ (.inl (.inl rfl)) _
      exact ((Chg.of_below HB.out).trans ((Chg.of_below BW).trans (hch2.mono fun x _ hx => .inr hx))))
  clear hown2 hat2 hch2 hb2 hc2 hf2 d0 hrow hgm hnew CI oW hWn hWs BW hW HL HR HO HH HNE HS HB hno H3 hlen
  go_wp2
  go_end0
  exact ⟨rfl, P.out _ rfl⟩

end Go.Proofs.YtaejpejfmpbinaaGreatDoor

namespace Go.Proofs.YtaejpejfmpbinaaGreatDoor
open Go.RowKit
open Go.Sort (grow)

theorem lenFc_any (m : Nat) (a : Option Addr) (n cap : Nat) (w : World) (h1 : w.cell? ⟨m, 1, none⟩ = some (.slice a n cap)) :
    Calls Tryz.prog 73 #[.pointer (some ⟨m, 0, none⟩)] w fun e w' => e = .returned (.int .i64 n) ∧ w' = w := by
  go_enter Tryz.func73, Tryz.ntmps73
  go_wp2
  go_ret
  exact ⟨rfl, rfl⟩
theorem HeadF.below {w w' : World} {sv : Value} (h : HeadF w sv) (hb : Below w.heap.size w w') : HeadF w' sv := fun g hg => by
  obtain ⟨n, p, c0, c1⟩ := h g hg
  exact ⟨n, p, cell_later hb c0, cell_later hb c1⟩
/-- What Put of a new face leaves. -/
def PutFq (m : Nat) (sv : Value) (L : List Fc) (e0 : Fc) (w w' : World) : Prop :=
  ∃ sv' L', MapF w' m sv' L' ∧ SortedF L' ∧ HeadF w' sv' ∧ (∀ x, x ∈ L' ↔ x = e0 ∨ x ∈ L) ∧ L'.length = L.length + 1 ∧ (∀ b, sv'.ownBlock = some b → sv.ownBlock = some b ∨ w.heap.size ≤ b) ∧ Chg (fun b => b = m ∨ sv.ownBlock = some b) w w'
theorem PutFq.from {m : Nat} {sv : Value} {L : List Fc} {e0 : Fc} {w W w3 : World} (hB : Below w.heap.size w W) (hP : PutFq m sv L e0 W w3) : PutFq m sv L e0 w w3 := by
  obtain ⟨sv', K', h1, h2, h2', h3, h4, h5, h6⟩ := hP
  exact ⟨sv', K', h1, h2, h2', h3, h4, fun b hb => (h5 b hb).imp id fun h' => Nat.le_trans hB.size h', (Chg.of_below hB).trans h6⟩
theorem PutFq.drew {m : Nat} {sv : Value} {L : List Fc} {e0 : Fc} {w w3 : World} (h : PutFq m sv L e0 w w3) : PutFq m sv L e0 w w3.drew := by
  obtain ⟨sv', K', h1, h2, h2', h3, h4, h5, h6⟩ := h
  exact ⟨sv', K', h1, h2, h2', h3, h4, h5, h6.drew⟩

set_option maxRecDepth 100000 in
set_option maxHeartbeats 1000000 in
theorem putWFc_any (m : Nat) (sv : Value) (L : List Fc) (e0 : Fc) (most : Int) (w : World) (hm : MapF w m sv L) (hs : SortedF L) (hh : HeadF w sv) (hno : faceOf L e0.1 = none) (hn : L.length ≤ 199) (hlt : (L.length : Int) < most) :
    Calls Tryz.prog 37 #[.pointer (some ⟨m, 0, none⟩), .int .i64 most, .int .i64 e0.1, .string e0.2] w fun e w' => e = .returned (.bool true) ∧ PutFq m sv L e0 w w' := by
  have CP := hide (placeFc_any m sv L e0.1 w hm hs)
  have CQ := hide fun (W : World) (h : Below w.heap.size w W) => putFc_any m sv L e0 W (hm.below h) hs (hh.below h) hno hn
  obtain ⟨a0, cap, g, rfl, hcs⟩ := rowFc_cells hm.2.2.1
  have CL := hide fun (W : World) (h : Below w.heap.size w W) => lenFc_any m a0 L.length cap W (hm.below h).2.1
  have HS := hide hs
  have HN := hide hno
  have hle : ¬ most ≤ (L.length : Int) := by omega
  clear hm hs hh hno hcs hlt
  go_enter Tryz.func37, Tryz.ntmps37
  go_wp2_with fail
  refine CP.out.mono ?_
  rintro e w1 ⟨i, hi, hL, hR, rfl, hb⟩
  have HF := hide (faceOf_place hL hR HS.out)
  have hx : (decide (i < L.length) && (fcAt L i == e0.1)) = false := by
    rw [← Bool.not_eq_true, Bool.and_eq_true, decide_eq_true_eq, beq_iff_eq]
    intro h
    have := HF.out
    rw [dif_pos h, HN.out] at this
    cases this
  have HB := hide hb
  clear CP hL hR hb HF
  go_wp2_with fail
  refine (CL.out _ HB.out).mono ?_
  rintro e W ⟨rfl, hww⟩
  rw [hww]
  clear hww W
  go_wp2_with fail
  refine (CQ.out _ HB.out).mono ?_
  rintro e w2 ⟨rfl, hp⟩
  have HP := hide (PutFq.from HB.out hp)
  clear hp
  go_wp2_with fail
  go_ret
  exact ⟨rfl, HP.out⟩

set_option maxRecDepth 100000 in
set_option maxHeartbeats 1000000 in
/-- Face of a VLAN that has none. -/
theorem sFace_any (s fm : Nat) (sv : Value) (L : List Fc) (v : Int) (b : ByteArray) (w : World) (h1 : w.cell? ⟨s, 1, none⟩ = some (.pointer (some ⟨fm, 0, none⟩))) (hm : MapF w fm sv L) (hs : SortedF L) (hh : HeadF w sv) (hno : faceOf L v = none) (hn : L.length < 16) (hv : isV v = true) (hb6 : isSt b = true) (hne : b.size = 6) :
    Calls Tryz.prog 14 #[.pointer (some ⟨s, 0, none⟩), .int .i64 v, .string b] w fun e w' => e = .returned (.int .i64 0) ∧ PutFq fm sv L (v, b) w w' := by
  have CV := hide (isVLAN_any v w)
  rw [hv] at CV
  have CS := hide fun (W : World) => isStation_any b W
  rw [hb6] at CS
  have CC := hide fun (W : World) => clone_any b W (by omega)
  have CW := hide fun (W : World) (h : Below w.heap.size w W) => (putWFc_any fm sv L (v, b) 16 W (hm.below h) hs (hh.below h) hno (by omega) (by omega)).mono fun e w' h' => (⟨h'.1, PutFq.from h h'.2⟩ : e = .returned (.bool true) ∧ PutFq fm sv L (v, b) w w')
  have hbe : ¬ b = ⟨#[]⟩ := by rintro rfl; cases hne
  have hbe2 : b.toList.isEmpty = false := by
    have hl : b.toList.length = 6 := by rw [ByteArray.toList_eq, Array.length_toList]; exact hne
    cases hx : b.toList with
    | nil => rw [hx] at hl; cases hl
    | cons a l => rfl
  have hslt := block_lt_of_cell h1
  clear hm hs hh hno hn hv hb6 hne
  go_enter Tryz.func14, Tryz.ntmps14
  go_wp2_with fail
  refine CV.out.mono ?_
  rintro e W1 ⟨rfl, hb1⟩
  have k1 := cell_later hb1 h1
  have hs1 := block_lt_of_cell k1
  have HB1 := hide hb1
  clear CV hb1 h1
  go_wp2_with fail
  refine (CS.out _).mono ?_
  rintro e W ⟨rfl, hww⟩
  rw [hww]
  clear hww W
  go_wp2_with fail
  go_region_with
    (first | (go_at_call 38; refine (CC.out _).mono ?_; rintro e w2 ⟨rfl, hb2⟩; have HB2 := hide (HB1.out.trans ((Below.trans ((Below.refl _ W1).drew) (hb2.mono (Nat.le_refl _))).mono HB1.out.size)); have k2 := cell_later hb2 k1; have hs2 := block_lt_of_cell k2; clear hb2) | (go_at_call 37; refine (CW.out _ ?_).mono ?_; (exact HB2.out); rintro e w3 ⟨rfl, hp⟩; have HP := hide hp; clear hp))
  all_goals
    go_wp2
    go_ret
    exact ⟨rfl, HP.out⟩
end Go.Proofs.YtaejpejfmpbinaaGreatDoor
