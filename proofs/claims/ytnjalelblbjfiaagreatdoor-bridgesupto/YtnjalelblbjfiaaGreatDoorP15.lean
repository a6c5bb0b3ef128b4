import Derived.Test.YtnjalelblbjfiaaGreatDoorP14
import Derived.Deep.WholeRow
import Derived.BigRegion
namespace Go.Proofs.YtnjalelblbjfiaaGreatDoor
open Go.RowKit

/-- A mark, so many times. -/
def rep (M : List Value) : Nat → List Value
  | 0 => []
  | j + 1 => M ++ rep M j
theorem rep_length (M : List Value) : ∀ j, (rep M j).length = j * M.length
  | 0 => by simp [rep]
  | j + 1 => by rw [rep, List.length_append, rep_length M j, Nat.succ_mul]; omega
theorem rep_get (M : List Value) {s : Nat} (hs : M.length = s) : ∀ j k q, k < j → q < s → (rep M j)[k * s + q]? = M[q]?
  | 0, k, q, hk, _ => absurd hk (Nat.not_lt_zero k)
  | j + 1, 0, q, _, hq => by
    rw [rep, List.getElem?_append_left (by omega)]
    simp
  | j + 1, k + 1, q, hk, hq => by
    rw [rep, List.getElem?_append_right (by rw [hs, Nat.succ_mul]; omega), hs, show (k + 1) * s + q - s = k * s + q by rw [Nat.succ_mul]; omega]
    exact rep_get M hs j k q (by omega) hq
theorem rep_one {M : List Value} (h : ∀ u ∈ M, u.oneCell' = true) : ∀ j, ∀ u ∈ rep M j, u.oneCell' = true
  | 0, u, hu => by cases hu
  | j + 1, u, hu => (List.mem_append.1 hu).elim (h u) (rep_one h j u)
/-- A row into which marks are put behind the first rlOnes. -/
theorem put_get {L M : List Value} {s len j : Nat} (hM : M.length = s) (hL : (len + j) * s ≤ L.length) (k q : Nat) (hq : q < s) : (L.take (len * s) ++ rep M j ++ L.drop (len * s + (rep M j).length))[k * s + q]? = if len ≤ k ∧ k < len + j then M[q]? else L[k * s + q]? := by
  have hr : (rep M j).length = j * s := by rw [rep_length, hM]
  have hls : len * s ≤ L.length := Nat.le_trans (Nat.mul_le_mul_right s (Nat.le_add_right len j)) hL
  have ht : (L.take (len * s)).length = len * s := by rw [List.length_take]; omega
  have htr : (L.take (len * s) ++ rep M j).length = (len + j) * s := by rw [List.length_append, ht, hr, Nat.add_mul]
  by_cases h1 : k < len
  · rw [if_neg (by omega)]
    have hk : k * s + q < len * s := by
      have : (k + 1) * s ≤ len * s := Nat.mul_le_mul_right s h1
      rw [Nat.succ_mul] at this
      omega
    rw [List.getElem?_append_left (by rw [htr, Nat.add_mul]; omega), List.getElem?_append_left (by omega), List.getElem?_take, if_pos hk]
  · by_cases h2 : k < len + j
    · rw [if_pos ⟨by omega, h2⟩]
      have hk : k * s + q < (len + j) * s := by
        have : (k + 1) * s ≤ (len + j) * s := Nat.mul_le_mul_right s h2
        rw [Nat.succ_mul] at this
        omega
      have hk0 : len * s ≤ k * s := Nat.mul_le_mul_right s (by omega)
      rw [List.getElem?_append_left (by rw [htr]; exact hk), List.getElem?_append_right (by omega), ht]
      have e : k * s + q - len * s = (k - len) * s + q := by rw [Nat.sub_mul]; omega
      rw [e]
      exact rep_get M hM j (k - len) q (by omega) hq
    · rw [if_neg (by omega)]
      have hk : (len + j) * s ≤ k * s := Nat.mul_le_mul_right s (by omega)
      rw [List.getElem?_append_right (by rw [htr]; omega), htr, hr, List.getElem?_drop]
      congr 1
      rw [Nat.add_mul] at hk ⊢
      omega
theorem cell_of_heap {w : World} {g o : Nat} {cs : Array Value} {t : TypeId} {fr : Nat × Nat} (h : w.heap[g]? = some (.cells cs t fr)) : w.cell? ⟨g, o, none⟩ = cs.toList[o]? := by
  simp [World.cell?, h]
/-- Marks put behind a list that is full of them: into its block, where there is room, or into a new one. -/
structure Marked (w w' : World) (e : TypeId) (s : Nat) (M : List Value) (g cap len : Nat) (v' : Value) (b : Nat) : Prop where
  out : ∃ cap', v' = .slice (some ⟨b, 0, none⟩) len cap'
  chg : Chg (fun x => x = g) w w'
  blk : b = g ∨ w.heap.size ≤ b
  lt : b < w'.heap.size
  own : ∃ cur, w'.heap[g]? = some (.cells cur e (0, 0)) ∧ cur.size = cap * s
  full : ∀ k, k < len → w'.rangeAt b (k * s) M
  still : ∀ k, w.rangeAt g (k * s) M → w'.rangeAt g (k * s) M
theorem append_marks {P : Program} {w : World} {t ty e : TypeId} {i : TypeInfo} {z : Value} {s bytes : Nat} (ht : P.underlying t = some (.slice e)) (hi : P.info? e = some i) (hz : i.zero = some z) (hsize : i.size = s) (hby : i.bytes = bytes)
    {M : List Value} (hM : M.length = s) (h1 : ∀ u ∈ M, u.oneCell' = true) {g cap len : Nat} {cur : Array Value} (hg : w.heap[g]? = some (.cells cur e (0, 0))) (hcs : cur.size = cap * s) (hlc : len ≤ cap) (hfull : ∀ k, k < len → w.rangeAt g (k * s) M) (j : Nat) {a : Addr} {c : Nat} (hnews : ∀ q u, (rep M j)[q]? = some u → w.cell? (a.add q) = some u) (_hj : 0 < j)
    (h63 : len + j ≤ maxLen) (hbytes : (len + j) * bytes ≤ 140737488355328) : ∃ v' w' b, (Builtin.append_ #[t, t] ty #[.slice (some ⟨g, 0, none⟩) len cap, .slice (some a) j c]).run P w = .ok v' w' ∧ Marked w w' e s M g cap (len + j) v' b := by
  subst hsize
  subst hby
  have hsmall : len + j ≤ 9223372036854775807 := by simp only [maxLen] at h63; omega
  have hgl : g < w.heap.size := (Array.getElem?_eq_some_iff.1 hg).1
  have hl : (rep M j).length = j * i.size := by rw [rep_length, hM]
  have hcl : cur.toList.length = cap * i.size := by rw [Array.length_toList, hcs]
  have hcur : ∀ k, k < len → ∀ q, q < i.size → cur.toList[k * i.size + q]? = M[q]? := fun k hk q hq => by
    have h := hfull k hk q M[q] (List.getElem?_eq_getElem (by omega))
    rw [cell_of_heap hg] at h
    rw [h, List.getElem?_eq_getElem (by omega)]
  by_cases hroom : len + j ≤ cap
  · have hfit : len * i.size + (rep M j).length ≤ cur.size := by rw [hl, hcs, ← Nat.add_mul]; exact Nat.mul_le_mul_right _ hroom
    have hr := run_append_room (P := P) w t ty e i ht hi g len cap cur hg a j c (rep M j) hl hnews (rep_one h1 j) hroom hfit
    have hL : (len + j) * i.size ≤ cur.toList.length := by rw [hcl]; exact Nat.mul_le_mul_right _ hroom
    have hh := setRow_heap w g cur (cur.toList.take (len * i.size) ++ rep M j ++ cur.toList.drop (len * i.size + (rep M j).length)).toArray e _ hg
    have hcell : ∀ k q, q < i.size → (w.setRow g (cur.toList.take (len * i.size) ++ rep M j ++ cur.toList.drop (len * i.size + (rep M j).length)).toArray).cell? ⟨g, k * i.size + q, none⟩ = if len ≤ k ∧ k < len + j then M[q]? else cur.toList[k * i.size + q]? := fun k q hq => by
      rw [cell_of_heap hh]
      exact put_get hM hL k q hq
    have hq : ∀ q u, M[q]? = some u → q < i.size := fun q u hu => by have := (List.getElem?_eq_some_iff.1 hu).1; omega
    refine ⟨_, _, g, hr, ⟨cap, rfl⟩, ⟨rfl, rfl, rfl, by simp, fun k _ hk => setRow_other w g k _ (fun e => hk e)⟩, .inl rfl, ?_, ⟨_, hh, ?_⟩, fun k hk q u hu => ?_, fun k hk q u hu => ?_⟩
    · exact (Array.getElem?_eq_some_iff.1 hh).1
    · simp only [List.size_toArray, List.length_append, List.length_take, List.length_drop, Array.length_toList]
      omega
    · rw [hcell k q (hq q u hu)]
      split
      · exact hu
      · rw [hcur k (by omega) q (hq q u hu)]; exact hu
    · rw [hcell k q (hq q u hu)]
      split
      · exact hu
      · have := hk q u hu
        rwa [cell_of_heap hg] at this
  · have hxs : (cur.toList.take (len * i.size)).length = len * i.size := by
      rw [List.length_take, hcl]
      exact Nat.min_eq_left (Nat.mul_le_mul_right _ hlc)
    have holds : ∀ q u, (cur.toList.take (len * i.size))[q]? = some u → w.cell? ((⟨g, 0, none⟩ : Addr).add q) = some u := fun q u hu => by
      rw [Addr.add_mid, Nat.zero_add, cell_of_heap hg]
      rw [List.getElem?_take] at hu
      split at hu
      · exact hu
      · cases hu
    have hr := run_append_grow (P := P) w t ty e i z ht hi hz ⟨g, 0, none⟩ len cap (cur.toList.take (len * i.size)) hxs holds a j c (rep M j) hl hnews (by omega) (by omega) (growslice_fits (by omega) hbytes)
    have hne : g ≠ w.heap.size := by omega
    refine ⟨_, _, w.heap.size, hr, ⟨_, rfl⟩, ⟨rfl, rfl, rfl, by simp, fun k hk _ => heap_alloc_old w.drew _ hk⟩, .inr (Nat.le_refl _), by simp, ⟨cur, (heap_alloc_old w.drew _ hgl).trans hg, hcs⟩, fun k hk q u hu => ?_, fun k hk q u hu => ?_⟩
    · have hq : q < i.size := by have := (List.getElem?_eq_some_iff.1 hu).1; omega
      refine (cell_of_heap (g := w.heap.size) (heap_alloc_new w.drew _)).trans ?_
      simp only [Array.toList_append, List.append_assoc]
      by_cases h2 : k < len
      · have hk2 : k * i.size + q < len * i.size := by
          have : (k + 1) * i.size ≤ len * i.size := Nat.mul_le_mul_right _ h2
          rw [Nat.succ_mul] at this
          omega
        rw [List.getElem?_append_left (by simpa [hxs] using hk2), List.toList_toArray, List.getElem?_take, if_pos hk2, hcur k h2 q hq]
        exact hu
      · have hk0 : len * i.size ≤ k * i.size := Nat.mul_le_mul_right _ (by omega)
        rw [List.getElem?_append_right (by rw [List.toList_toArray, hxs]; omega), List.toList_toArray, List.toList_toArray, hxs]
        have e1 : k * i.size + q - len * i.size = (k - len) * i.size + q := by rw [Nat.sub_mul]; omega
        have hk3 : (k - len) * i.size + q < j * i.size := by
          have : (k - len + 1) * i.size ≤ j * i.size := Nat.mul_le_mul_right _ (by omega)
          rw [Nat.succ_mul] at this
          omega
        rw [e1, List.getElem?_append_left (by rw [hl]; exact hk3), rep_get M hM j (k - len) q (by omega) hq]
        exact hu
    · have := hk q u hu
      rw [cell_of_heap hg] at this
      rw [cell_of_heap ((heap_alloc_old w.drew _ hgl).trans hg)]
      exact this
end Go.Proofs.YtnjalelblbjfiaaGreatDoor

namespace Go.Proofs.YtnjalelblbjfiaaGreatDoor
open Go.RowKit

/-- A list in a block of its own, or none. -/
def Lst (w : World) (e : TypeId) (s : Nat) (v : Value) (len : Nat) : Prop := (v = .slice none 0 0 ∧ len = 0) ∨ ∃ g cap cur, v = .slice (some ⟨g, 0, none⟩) len cap ∧ w.heap[g]? = some (.cells cur e (0, 0)) ∧ cur.size = cap * s ∧ len ≤ cap
/-- Such a list, full of a mark. -/
def Hld (w : World) (e : TypeId) (s : Nat) (M : List Value) (v : Value) (len : Nat) : Prop := (v = .slice none 0 0 ∧ len = 0) ∨ ∃ g cap cur, v = .slice (some ⟨g, 0, none⟩) len cap ∧ w.heap[g]? = some (.cells cur e (0, 0)) ∧ cur.size = cap * s ∧ len ≤ cap ∧ ∀ k, k < len → w.rangeAt g (k * s) M
/-- What append of marks leaves. -/
structure Grew (w w' : World) (e : TypeId) (s : Nat) (M : List Value) (v : Value) (len j : Nat) (b : Nat) : Prop where
  chg : Chg (fun x => v.ownBlock = some x) w w'
  blk : v.ownBlock = some b ∨ w.heap.size ≤ b
  lt : b < w'.heap.size
  full : ∀ k, k < len + j → w'.rangeAt b (k * s) M
  hld : Hld w' e s M v len
  still : ∀ g k, w.rangeAt g (k * s) M → w'.rangeAt g (k * s) M
theorem grow_marks {P : Program} {w : World} {t ty e : TypeId} {i : TypeInfo} {z : Value} {s bytes : Nat} (ht : P.underlying t = some (.slice e)) (hi : P.info? e = some i) (hz : i.zero = some z) (hsize : i.size = s) (hby : i.bytes = bytes)
    {M : List Value} (hM : M.length = s) (h1 : ∀ u ∈ M, u.oneCell' = true) {v : Value} {len : Nat} (hH : Hld w e s M v len) (j : Nat) {a : Addr} {c : Nat} (hnews : ∀ q u, (rep M j)[q]? = some u → w.cell? (a.add q) = some u) (hj : 0 < j)
    (h63 : len + j ≤ maxLen) (hbytes : (len + j) * bytes ≤ 140737488355328) : ∃ b cap w', (Builtin.append_ #[t, t] ty #[v, .slice (some a) j c]).run P w = .ok (.slice (some ⟨b, 0, none⟩) (len + j) cap) w' ∧ Grew w w' e s M v len j b := by
  have hsmall : len + j ≤ 9223372036854775807 := by simp only [maxLen] at h63; omega
  rcases hH with ⟨rfl, rfl⟩ | ⟨g, cap, cur, rfl, hg, hcs, hlc, hf⟩
  · have hl : (rep M j).length = j * i.size := by rw [rep_length, hM, hsize]
    have hr := run_append_nil (P := P) w t ty e i z ht hi hz a j c (rep M j) hl hnews hj (by omega) (by have hb := hbytes; rw [← hby] at hb; simp only [Nat.zero_add] at hb; omega)
    refine ⟨w.heap.size, grownCap w j 0 e, w.drew.alloc (.cells ((rep M j).toArray ++ Builtin.zeroCells z.cells (grownCap w j 0 e - j)) e), ?_, ⟨Chg.of_below ((Below.refl _ w).drew.alloc (by simp) _), .inr (Nat.le_refl _), by simp, fun k hk q u hu => ?_, .inl ⟨rfl, rfl⟩, fun g k h q u hu => ?_⟩⟩
    · rw [Nat.zero_add]
      exact hr
    · have hq : q < s := by have := (List.getElem?_eq_some_iff.1 hu).1; omega
      refine (cell_of_heap (g := w.heap.size) (heap_alloc_new w.drew _)).trans ?_
      have hk3 : k * s + q < j * s := by
        have : (k + 1) * s ≤ j * s := Nat.mul_le_mul_right _ (by omega)
        rw [Nat.succ_mul] at this
        omega
      rw [Array.toList_append, List.toList_toArray, List.getElem?_append_left (by rw [rep_length, hM]; exact hk3), rep_get M hM j k q (by omega) hq]
      exact hu
    · have hc := h q u hu
      have hl : g < w.heap.size := block_lt_of_cell hc
      exact (World.cell?_of_block (a := ⟨g, k * s + q, none⟩) (heap_alloc_old w.drew _ hl)).trans hc
  · obtain ⟨v', w', b, hr, hm⟩ := append_marks (P := P) ht hi hz hsize hby hM h1 hg hcs hlc hf j hnews hj h63 hbytes
    obtain ⟨cap', rfl⟩ := hm.out
    obtain ⟨cur', hg', hcs'⟩ := hm.own
    refine ⟨b, cap', w', hr, ⟨hm.chg.mono fun x _ hx => by rw [hx]; rfl, hm.blk.imp (fun e => by rw [e]; rfl) id, hm.lt, hm.full, .inr ⟨g, cap, cur', rfl, hg', hcs', hlc, fun k hk => hm.still k (hf k hk)⟩, fun g' k h => ?_⟩⟩
    by_cases e : g' = g
    · subst e
      exact hm.still k h
    · exact fun q u hu => hm.chg.block.cell (fun hx => e hx) (h q u hu)

/-- The walk's own struct and what the caller keeps. -/
structure WS (w : World) (wb : Nat) (tv sv kv : Value) (n : Nat) (Ks : List KeptD) (col : Nat → Nat) : Prop where
  c0 : w.cell? ⟨wb, 0, none⟩ = some tv
  c1 : w.cell? ⟨wb, 1, none⟩ = some sv
  c2 : w.cell? ⟨wb, 2, none⟩ = some (.int .i64 n)
  c3 : w.cell? ⟨wb, 3, none⟩ = some kv
  frz : ∀ j, w.frozen? ⟨wb, j, none⟩ = false
  rK : RowIs w 78 5 kv Ks.length (rowK Ks)
  cw : col wb = 1
  cK : ∀ x, kv.ownBlock = some x → col x = 3
  kept : ∀ k ∈ Ks, k.Ok w col
section
variable {w w' : World} {wb n n' : Nat} {tv sv kv kv' : Value} {Ts : List TabD} {Ks Ks' : List KeptD} {col col' : Nat → Nat} {X : Nat → Prop}
theorem LW.ws (h : LW w wb tv sv kv n Ts Ks col) : WS w wb tv sv kv n Ks col := ⟨h.c0, h.c1, h.c2, h.c3, h.frz, h.rK, h.cw, h.cK, h.kept⟩
theorem LW.slices (h : LW w wb tv sv kv n Ts Ks col) : (∃ a m c, tv = .slice a m c) ∧ ∃ a m c, kv = .slice a m c := by
  refine ⟨?_, ?_⟩
  · rcases h.rT.1.2 with ⟨e, _⟩ | ⟨g, cap, cur, e, _⟩
    · exact ⟨_, _, _, e⟩
    · exact ⟨_, _, _, e⟩
  · rcases h.rK.1.2 with ⟨e, _⟩ | ⟨g, cap, cur, e, _⟩
    · exact ⟨_, _, _, e⟩
    · exact ⟨_, _, _, e⟩
theorem LW.farW (h : LW w wb tv sv kv n Ts Ks col) : Far w wb := by
  obtain ⟨⟨a, m, c, rfl⟩, a3, m3, c3, rfl⟩ := h.slices
  obtain ⟨a1, m1, c1, rfl⟩ := h.sS
  exact far_world h.c0 h.c1 ⟨_, _, _, h.c3⟩ h.laid
theorem LW.farK (h : LW w wb tv sv kv n Ts Ks col) {x : Nat} (hx : kv.ownBlock = some x) : Far w x := by
  obtain ⟨a, cap, g, e, hc⟩ := h.rK.kept
  have h0 : 0 < Ks.length := by
    rcases Nat.eq_zero_or_pos Ks.length with h0 | h0
    · rw [h.rK.2 h0] at hx; cases hx
    · exact h0
  obtain ⟨ha, hr⟩ := hc 0 h0
  rw [e, ha] at hx
  cases hx
  obtain ⟨a', m, c, e1, _⟩ := (h.kept _ (List.getElem_mem h0)).r
  have c0 := hr 0 _ rfl
  have c1 := hr 1 _ rfl
  rw [e1] at c1
  exact far_kept c0 c1 h.laid
/-- The struct has turned, and what is kept. -/
theorem LW.turned (h : LW w wb tv sv kv n Ts Ks col) (hc : Chg (fun x => x = wb ∨ kv.ownBlock = some x) w w') (hcol : ∀ x, x < w.heap.size → col x ≠ 0 → col' x = col x) (hW : WS w' wb tv sv kv' n' Ks' col') : LW w' wb tv sv kv' n' Ts Ks' col' := by
  have hX : ∀ x, (x = wb ∨ kv.ownBlock = some x) → Far w x := fun x hx => by
    rcases hx with rfl | hx
    · exact h.farW
    · exact h.farK hx
  have hC : ∀ x, (x = wb ∨ kv.ownBlock = some x) → col x = 1 ∨ col x = 3 := fun x hx => by
    rcases hx with rfl | hx
    · exact .inl h.cw
    · exact .inr (h.cK x hx)
  refine ⟨h.laid.far hc.block hX, hW.c0, hW.c1, hW.c2, hW.c3, h.sS, hW.frz, h.rT.keep fun x hx => hc.block x (h.rT.lt hx) fun hx' => ?_, hW.rK, hW.cw, fun x hx => (hcol _ (h.rT.lt hx) (by rw [h.cT x hx]; omega)).trans (h.cT x hx), fun x j u hx hu => h.pT x j u hx (by rwa [(OnlyAt.of_block (hc.block x (h.rT.lt hx) fun hx' => by have := hC x hx'; rw [h.cT x hx] at this; omega) j).1] at hu), hW.cK, fun i hi => (h.tab i hi).keep hc hX (fun x hx _ => ?_) hcol, hW.kept⟩
  · have := hC x hx'
    rw [h.cT x hx] at this
    omega
  · have := hC x hx
    omega
theorem WS.keep (h : WS w wb tv sv kv n Ks col) (hc : Chg X w w') (hn : ∀ x, X x → x < w.heap.size → col x = 0 ∨ 5 ≤ col x ∨ col x = 2) (hcol : ∀ x, x < w.heap.size → col x ≠ 0 → col' x = col x) : WS w' wb tv sv kv n Ks col' := by
  have hwl : wb < w.heap.size := block_lt_of_cell h.c0
  have hw : ¬ X wb := fun hx => by have := hn _ hx hwl; rw [h.cw] at this; omega
  refine ⟨hc.block.cell hw h.c0, hc.block.cell hw h.c1, hc.block.cell hw h.c2, hc.block.cell hw h.c3, fun j => (OnlyAt.of_block (hc.block wb hwl hw) j).2.trans (h.frz j), h.rK.keep fun x hx => hc.block x (h.rK.lt hx) fun hx' => ?_, (hcol _ hwl (by rw [h.cw]; omega)).trans h.cw, fun x hx => (hcol _ (h.rK.lt hx) (by rw [h.cK x hx]; omega)).trans (h.cK x hx), fun k hk => (h.kept k hk).keep hc (fun x hx hlt => by have := hn x hx hlt; omega) hcol⟩
  have := hn _ hx' (h.rK.lt hx)
  rw [h.cK x hx] at this
  omega
end
/-- A list full of marks, as it is kept. -/
theorem full_of {w : World} {col : Nat → Nat} {s len cap b : Nat} {M : List Value} (hl : len ≤ 1000000000) (hc : col b = 4) (hb : b < w.heap.size) (hf : ∀ k, k < len → w.rangeAt b (k * s) M) : Full w col s (.slice (some ⟨b, 0, none⟩) len cap) M :=
  ⟨_, len, cap, rfl, hl, fun k hk => ⟨b, rfl, hc, hb, hf k hk⟩⟩
theorem Hld.full {w : World} {col : Nat → Nat} {e : TypeId} {s len : Nat} {v : Value} {M : List Value} (h : Hld w e s M v len) (hl : len ≤ 1000000000) (hc : ∀ x, v.ownBlock = some x → col x = 4) : Full w col s v M := by
  rcases h with ⟨rfl, rfl⟩ | ⟨g, cap, cur, rfl, hg, _, _, hf⟩
  · exact Full.nil s M
  · exact full_of hl (hc g rfl) (Array.getElem?_eq_some_iff.1 hg).1 hf
end Go.Proofs.YtnjalelblbjfiaaGreatDoor

namespace Go.Proofs.YtnjalelblbjfiaaGreatDoor
open Go.RowKit

section
variable {w W2 W7 W8 : World} {wb n m : Nat} {tv sv kv kv' v : Value} {Ks : List KeptD} {col : Nat → Nat}
/-- The colours behind a list that is the caller's. -/
def inked (col : Nat → Nat) (v : Value) (a b : Nat) : Nat → Nat := fun x => if v.ownBlock = some x ∨ (a ≤ x ∧ x < b) then 4 else if a ≤ x then 3 else col x
theorem inked_own {a b x : Nat} (h : v.ownBlock = some x) : inked col v a b x = 4 := by unfold inked; rw [if_pos (.inl h)]
theorem inked_mid {a b x : Nat} (h : a ≤ x) (h' : x < b) : inked col v a b x = 4 := by unfold inked; rw [if_pos (.inr ⟨h, h'⟩)]
theorem inked_ge {a b x : Nat} (hv : v.ownBlock ≠ some x) (ha : a ≤ x) (h : b ≤ x) : inked col v a b x = 3 := by unfold inked; rw [if_neg (by intro e; rcases e with e | e; exact hv e; omega), if_pos ha]
theorem inked_lt {a b x : Nat} (hv : v.ownBlock ≠ some x) (h : x < a) : inked col v a b x = col x := by unfold inked; rw [if_neg (by intro e; rcases e with e | e; exact hv e; omega), if_neg (by omega)]
theorem marks_done {s len : Nat} {e : TypeId} {M : List Value} (K : Value → KeptD) (h : WS w wb tv sv kv n Ks col) (hv : ∀ x, v.ownBlock = some x → col x = 0 ∧ x < w.heap.size)
    (c2 : Chg (fun x => x = wb) w W2) (d0 : W2.cell? ⟨wb, 0, none⟩ = some tv) (d1 : W2.cell? ⟨wb, 1, none⟩ = some sv) (d2 : W2.cell? ⟨wb, 2, none⟩ = some (.int .i64 m)) (d3 : W2.cell? ⟨wb, 3, none⟩ = some kv) (df : ∀ j, W2.frozen? ⟨wb, j, none⟩ = false)
    (c7 : Chg (fun x => v.ownBlock = some x) W2 W7) (hH : Hld W7 e s M v len) (hl : len + 3 ≤ 1000000000)
    {ba bb bc ca cb cc : Nat} (qa : v.ownBlock = some ba ∨ W2.heap.size ≤ ba) (qb : v.ownBlock = some bb ∨ W2.heap.size ≤ bb) (qc : v.ownBlock = some bc ∨ W2.heap.size ≤ bc) (la : ba < W7.heap.size) (lb : bb < W7.heap.size) (lc : bc < W7.heap.size)
    (fa : ∀ k, k < len + 1 → W7.rangeAt ba (k * s) M) (fb : ∀ k, k < len + 2 → W7.rangeAt bb (k * s) M) (fc : ∀ k, k < len + 3 → W7.rangeAt bc (k * s) M)
    (c8 : Chg (fun x => kv.ownBlock = some x) W7 W8) (hK' : ∀ x, kv'.ownBlock = some x → kv.ownBlock = some x ∨ W7.heap.size ≤ x)
    (hr : W8.ownsRow 1 78 5 kv' (Ks.length + 4) (rowK (Ks ++ [K v, K (.slice (some ⟨ba, 0, none⟩) (len + 1) ca), K (.slice (some ⟨bb, 0, none⟩) (len + 2) cb), K (.slice (some ⟨bc, 0, none⟩) (len + 3) cc)])))
    (hK : ∀ (W : World) (c : Nat → Nat) u, Full W c s u M → (K u).Ok W c) :
    Chg (fun x => x = wb ∨ kv.ownBlock = some x ∨ v.ownBlock = some x) w (W8.setCell ⟨wb, 3, none⟩ kv') ∧ WS (W8.setCell ⟨wb, 3, none⟩ kv') wb tv sv kv' m (Ks ++ [K v, K (.slice (some ⟨ba, 0, none⟩) (len + 1) ca), K (.slice (some ⟨bb, 0, none⟩) (len + 2) cb), K (.slice (some ⟨bc, 0, none⟩) (len + 3) cc)]) (inked col v w.heap.size W7.heap.size) ∧ ∀ x, x < w.heap.size → col x ≠ 0 → inked col v w.heap.size W7.heap.size x = col x := by
  have hwl : wb < w.heap.size := block_lt_of_cell h.c0
  have hvw : v.ownBlock ≠ some wb := fun e => by have := (hv wb e).1; rw [h.cw] at this; omega
  have hkw : kv.ownBlock ≠ some wb := fun e => by have := h.cK wb e; rw [h.cw] at this; omega
  have hkl : ∀ x, kv.ownBlock = some x → x < w.heap.size := fun x hx => h.rK.lt hx
  have hvk : ∀ x, kv.ownBlock = some x → v.ownBlock ≠ some x := fun x hx e => by have := (hv x e).1; rw [h.cK x hx] at this; omega
  have s2 := c2.size
  have s7 := c7.size
  have s8 := c8.size
  have hkw' : kv'.ownBlock ≠ some wb := fun e => by rcases hK' wb e with e | e; exact hkw e; omega
  have hcol : ∀ x, x < w.heap.size → col x ≠ 0 → inked col v w.heap.size W7.heap.size x = col x := fun x hx h0 => inked_lt (fun e => h0 (hv x e).1) hx
  have c9 : Chg (fun x => x = wb ∨ kv.ownBlock = some x) W7 (W8.setCell ⟨wb, 3, none⟩ kv') := Chg.setCell (p := ⟨wb, 3, none⟩) (c8.mono fun x _ hx => .inr hx) (.inl (.inl rfl)) kv'
  have tot : Chg (fun x => x = wb ∨ kv.ownBlock = some x ∨ v.ownBlock = some x) w (W8.setCell ⟨wb, 3, none⟩ kv') := ((c2.mono fun x _ hx => .inl hx).trans (c7.mono fun x _ hx => .inr (.inr hx))).trans (c9.mono fun x _ hx => hx.imp id .inl)
  have o8 : ∀ j, W8.cell? ⟨wb, j, none⟩ = W2.cell? ⟨wb, j, none⟩ ∧ W8.frozen? ⟨wb, j, none⟩ = W2.frozen? ⟨wb, j, none⟩ := fun j => OnlyAt.of_block ((c8.block wb (by omega) hkw).trans (c7.block wb (by omega) hvw)) j
  have o9 := OnlyAt.set (o := 3) o8 kv'
  have hn4 : ∀ x, (x = wb ∨ kv.ownBlock = some x) → x < W7.heap.size → inked col v w.heap.size W7.heap.size x ≠ 4 := fun x hx _ => by
    rcases hx with rfl | hx
    · rw [inked_lt hvw hwl, h.cw]; omega
    · rw [inked_lt (hvk x hx) (hkl x hx), h.cK x hx]; omega
  have new : ∀ b l c, (v.ownBlock = some b ∨ W2.heap.size ≤ b) → b < W7.heap.size → l ≤ 1000000000 → (∀ k, k < l → W7.rangeAt b (k * s) M) → (K (.slice (some ⟨b, 0, none⟩) l c)).Ok (W8.setCell ⟨wb, 3, none⟩ kv') (inked col v w.heap.size W7.heap.size) := fun b l c hb hlt hl hf => by
    refine hK _ _ _ ((full_of hl ?_ hlt hf).keep c9 hn4 fun _ _ _ => rfl)
    rcases hb with hb | hb
    · exact inked_own hb
    · exact inked_mid (by omega) hlt
  refine ⟨tot, ⟨(o9 0 (by decide)).1.trans d0, (o9 1 (by decide)).1.trans d1, (o9 2 (by decide)).1.trans d2, ?_, fun j => ?_, ⟨?_, fun e => by simp at e⟩, ?_, fun x hx => ?_, fun k hk => ?_⟩, hcol⟩
  · exact World.cell?_setCell_same _ _ _ ((o8 3).1.trans d3)
  · by_cases hj : j = 3
    · subst hj
      rw [World.frozen?_setCell]
      exact (o8 3).2.trans (df 3)
    · exact (o9 j hj).2.trans (df j)
  · have hr' := ownsRow_same (w' := W8.setCell ⟨wb, 3, none⟩ kv') hr fun g hg => Below.heap_setCell _ _ _ _ fun e => hkw' (by rw [hg]; exact congrArg some e)
    rw [List.length_append]
    exact hr'
  · rw [inked_lt hvw hwl, h.cw]
  · rcases hK' x hx with e | e
    · rw [inked_lt (hvk x e) (hkl x e), h.cK x e]
    · exact inked_ge (fun e' => by have := (hv x e').2; omega) (by omega) e
  · rcases List.mem_append.1 hk with hk | hk
    · exact (h.kept k hk).keep tot (fun x hx _ => by rcases hx with rfl | hx | hx; (rw [h.cw]; omega); (rw [h.cK x hx]; omega); (rw [(hv x hx).1]; omega)) hcol
    · simp only [List.mem_cons, List.not_mem_nil, or_false] at hk
      rcases hk with rfl | rfl | rfl | rfl
      · exact hK _ _ _ ((hH.full (by omega) fun x hx => inked_own hx).keep c9 hn4 fun _ _ _ => rfl)
      · exact new _ _ _ qa la (by omega) fa
      · exact new _ _ _ qb lb (by omega) fb
      · exact new _ _ _ qc lc (by omega) fc
end
end Go.Proofs.YtnjalelblbjfiaaGreatDoor

namespace Go.Proofs.YtnjalelblbjfiaaGreatDoor
open Go.RowKit

theorem infoKept : (Tryz.prog.info? 78).map (fun i => (i.zero, i.size, i.bytes)) = some (some (.agg #[.int .i64 0, .slice none 0 0, .slice none 0 0, .slice none 0 0, .slice none 0 0]), 5, 104) := by kernel_rfl
theorem underKepts : Tryz.prog.underlying 29 = some (.slice 78) := by kernel_rfl
/-- append of four lists to the kept rlOnes. -/
theorem append_kept {w : World} {kv : Value} {Ks N : List KeptD} {A : Array Value} (h : RowIs w 78 5 kv Ks.length (rowK Ks)) (hn : Ks.length + 4 ≤ 1000000000) (hs : 1 ≤ w.heap.size) (hN : N.length = 4) (hA : A.toList = rowK N) (h1 : ∀ u ∈ rowK N, u.oneCell' = true) : ∃ g cap w', (Builtin.append_ #[29, 29] 29 #[kv, .slice (some ⟨w.heap.size, 0, none⟩) 4 4]).run Tryz.prog (w.alloc (.cells A 78)).drew = .ok (.slice (some ⟨g, 0, none⟩) (Ks.length + 4) cap) w' ∧ w'.ownsRow 1 78 5 (.slice (some ⟨g, 0, none⟩) (Ks.length + 4) cap) (Ks.length + 4) (rowK (Ks ++ N)) ∧ Chg (fun x => kv.ownBlock = some x) w w' ∧ (kv.ownBlock = some g ∨ w.heap.size ≤ g) := by
  obtain ⟨i0, hi, hz0, hz1, hz2⟩ := info_parts infoKept
  have hrd : (w.alloc (.cells A 78)).drew.ownsRow 1 78 5 kv Ks.length (rowK Ks) := h.1.alloc _
  have hcn : ∀ j u, (rowK N)[j]? = some u → (w.alloc (.cells A 78)).drew.cell? ((⟨w.heap.size, 0, none⟩ : Addr).add j) = some u := fun j u hu => by
    rw [Addr.add_mid]
    exact range_new w A 78 j u (by rw [hA]; exact hu)
  have hs' : (w.alloc (.cells A 78)).drew.heap.size = w.heap.size + 1 := by simp
  obtain ⟨v', w', hap, hown', hgr, hiff⟩ := run_append_own (P := Tryz.prog) (w.alloc (.cells A 78)).drew 1 29 29 78 i0 _ 5 104 underKepts hi hz0 hz1 hz2 rfl (by decide) kv Ks.length (rowK Ks) hrd ⟨w.heap.size, 0, none⟩ 4 4 (rowK N) (by rw [rowK_length, hN]) hcn h1 (by unfold maxLen; omega) (by omega) (by omega)
  have hbl := append_block (P := Tryz.prog) (w.alloc (.cells A 78)).drew 1 29 29 78 i0 _ 5 104 underKepts hi hz0 hz1 hz2 kv Ks.length (rowK Ks) hrd ⟨w.heap.size, 0, none⟩ 4 4 (rowK N) (by rw [rowK_length, hN]) hcn h1 (by unfold maxLen; omega) (by omega) hap
  have hv' : ∃ g cap, v' = .slice (some ⟨g, 0, none⟩) (Ks.length + 4) cap := by
    rcases hown'.2 with ⟨e, e2⟩ | ⟨g, cap, _, e, _⟩
    · omega
    · exact ⟨g, cap, e⟩
  obtain ⟨g, cap, rfl⟩ := hv'
  refine ⟨g, cap, w', hap, ?_, ?_, ?_⟩
  · rw [rowK_append]
    exact hown'
  · have c1 : Chg (fun b => kv.ownBlock = some b) w (w.alloc (.cells A 78)).drew := Chg.of_below (((Below.refl _ w).alloc (Nat.le_refl _) _).drew)
    exact c1.trans (Chg.grown hgr fun _ hk => hk)
  · rcases hbl g rfl with h | h
    · exact .inl h
    · exact .inr (by omega)
theorem buildKeptR (x : Int) (a1 a2 a3 a4 : Option Addr) (l1 l2 l3 l4 c1 c2 c3 c4 : Nat) (w : World) : (Instr.buildSlice 29 4 #[(0, .agg #[.int .i64 x, .slice a1 l1 c1, .slice none 0 0, .slice none 0 0, .slice none 0 0]), (1, .agg #[.int .i64 x, .slice a2 l2 c2, .slice none 0 0, .slice none 0 0, .slice none 0 0]), (2, .agg #[.int .i64 x, .slice a3 l3 c3, .slice none 0 0, .slice none 0 0, .slice none 0 0]), (3, .agg #[.int .i64 x, .slice a4 l4 c4, .slice none 0 0, .slice none 0 0, .slice none 0 0])]).run Tryz.prog w = .ok (.slice (some ⟨w.heap.size, 0, none⟩) 4 4) (w.alloc (.cells #[.int .i64 x, .slice a1 l1 c1, .slice none 0 0, .slice none 0 0, .slice none 0 0, .int .i64 x, .slice a2 l2 c2, .slice none 0 0, .slice none 0 0, .slice none 0 0, .int .i64 x, .slice a3 l3 c3, .slice none 0 0, .slice none 0 0, .slice none 0 0, .int .i64 x, .slice a4 l4 c4, .slice none 0 0, .slice none 0 0, .slice none 0 0] 78)) := by kernel_rfl
/-- How far the marks have got. -/
def Mkd (W : World) (e : TypeId) (s : Nat) (M : List Value) (v : Value) (len j : Nat) : Prop := (v = .slice none 0 0 ∧ len = 0) ∨ ∃ g cap cur, v = .slice (some ⟨g, 0, none⟩) len cap ∧ W.heap[g]? = some (.cells cur e (0, 0)) ∧ cur.size = cap * s ∧ len ≤ cap ∧ ∀ k, k < j → W.rangeAt g (k * s) M
theorem heap_setCells_cur {e : TypeId} {g : Nat} : ∀ (vs : List Value) (o : Nat) {W : World} {cur : Array Value}, W.heap[g]? = some (.cells cur e (0, 0)) → ∃ cur', (W.setCells g o vs).heap[g]? = some (.cells cur' e (0, 0)) ∧ cur'.size = cur.size
  | [], _, _, cur, h => ⟨cur, h, rfl⟩
  | u :: vs, o, W, cur, h => by
    obtain ⟨c', h', hs⟩ := heap_setCells_cur vs (o + 1) (heap_setCell_same W g o cur e u h)
    exact ⟨c', h', hs.trans (by simp)⟩
theorem there_cur {e : TypeId} {g o s : Nat} {W : World} {cur : Array Value} (h : W.heap[g]? = some (.cells cur e (0, 0))) (hs : o + s ≤ cur.size) : W.there g o s := fun j hj => by
  have c : W.cell? ⟨g, o + j, none⟩ = cur.toList[o + j]? := cell_of_heap h
  refine ⟨?_, ?_⟩
  · rw [c, List.getElem?_eq_getElem (by rw [Array.length_toList]; omega)]; rfl
  · simp [World.frozen?, h]
theorem Mkd.step {W : World} {e : TypeId} {s len j g cap : Nat} {M : List Value} (h : Mkd W e s M (.slice (some ⟨g, 0, none⟩) len cap) len j) (hM : M.length = s) (hj : j < len) : W.there g (j * s) s ∧ Mkd (W.setCells g (j * s) M) e s M (.slice (some ⟨g, 0, none⟩) len cap) len (j + 1) := by
  rcases h with ⟨e, -⟩ | ⟨g', cap', cur, e', hg, hcs, hlc, hf⟩
  · cases e
  · cases e'
    have hle : j * s + s ≤ cur.size := by
      have : (j + 1) * s ≤ cap * s := Nat.mul_le_mul_right s (by omega)
      rw [Nat.succ_mul] at this
      omega
    have ht := there_cur hg hle
    obtain ⟨cur', hg', hcs'⟩ := heap_setCells_cur M (j * s) hg
    refine ⟨ht, .inr ⟨g, cap, cur', rfl, hg', hcs'.trans hcs, hlc, fun k hk q u hu => ?_⟩⟩
    have hq : q < s := by have := (List.getElem?_eq_some_iff.1 hu).1; omega
    by_cases hkj : k = j
    · subst hkj
      have hi := World.cell?_setCells_in g M (k * s) W (fun q' hq' => (ht q' (by omega)).1) q (by omega)
      rw [hi]
      exact ((List.getElem?_eq_getElem (by omega)).symm.trans hu)
    · rw [World.cell?_setCells_out g M (j * s) W ⟨g, k * s + q, none⟩ fun _ _ => ?_]
      · exact hf k (by omega) q u hu
      · left
        show k * s + q < j * s
        have : (k + 1) * s ≤ j * s := Nat.mul_le_mul_right s (by omega)
        rw [Nat.succ_mul] at this
        omega
end Go.Proofs.YtnjalelblbjfiaaGreatDoor
