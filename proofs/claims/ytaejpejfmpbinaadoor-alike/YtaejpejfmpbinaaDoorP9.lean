import Derived.Test.YtaejpejfmpbinaaDoorP8
namespace Go.Proofs.YtaejpejfmpbinaaDoor
open Go.RowKit

theorem setCells_row {w : World} {g o : Nat} {cur vs : List Value} {t : TypeId} (hg : w.heap[g]? = some (.cells cur.toArray t (0, 0))) (h : o + vs.length ≤ cur.length) (h1 : ∀ v ∈ vs, v.oneCell' = true) : w.setCells g o vs = w.setRow g (splice cur o vs).toArray := by
  have a := run_storeCells_cells (P := Tryd.prog) g o vs 0 w (fun j hj => by
    have : o + j < cur.length := by omega
    simp [World.cell?, hg, this]) (fun j hj => by simp [World.frozen?, hg]) h1
  have b := run_storeCells_at Tryd.prog g o t vs 0 cur.toArray w hg (by simpa using h) h1
  rw [a] at b
  injection b with _ e
  simpa [splice] using e

theorem step_append_wide {P : Program} {ops : Array Oper} {o : Oper} {a : Act} {w : World} {K : Act → World → Prop} {Q : Exit → Act → World → Prop} {E : Prop}
    (hgd : o.guard = none) (s x : Operand) (t : TypeId) (hop : o.op = Op.call { callee := Callee.builtin Builtin.append, args := #[s, x], argTypes := #[t, t] })
    (e : TypeId) (i : TypeInfo) (size : Nat) (h1 : P.underlying t = some (.slice e)) (h2 : P.info? e = some i) (h4 : i.size = size)
    (b n cap : Nat) (hs : a.eval s = .slice (some ⟨b, 0, none⟩) n cap)
    (ad : Addr) (m c : Nat) (news : List Value) (hx : a.eval x = .slice (some ad) m c) (hn : news.length = m * size) (hc : ∀ j u, news[j]? = some u → w.cell? (ad.add j) = some u) (h1c : ∀ u ∈ news, u.oneCell' = true)
    (hroom : n + m ≤ cap) (cur : List Value) (t' : TypeId) (hg : w.heap[b]? = some (.cells cur.toArray t' (0, 0))) (hfit : n * size + news.length ≤ cur.length)
    (X : Nat → Prop) (w0 : World) (hch : Chg X w0 w) (hX : X b ∨ w0.heap.size ≤ b)
    (hK : ∀ w', Hid (w'.heap[b]? = some (.cells (splice cur (n * size) news).toArray t' (0, 0))) → Hid (Chg X w0 w') → K (a.put o.dst (.slice (some ⟨b, 0, none⟩) (n + m) cap)) w') :
    if Region.wanted o (yielded ops a.tmps) = true then Oper.wp P o a w K Q else E := by
  refine step_append_room hgd s x t hop e i size h1 h2 h4 b 0 n cap hs ad m c news hx hn hc h1c hroom (fun j hj => ?_) ?_
  · have : n * size + j < cur.length := by omega
    simp [World.cell?, World.frozen?, hg, this]
  · rw [Nat.zero_add, setCells_row hg hfit h1c]
    exact hK _ (hide (setRow_heap w b _ _ t' _ hg)) (hide (hch.setRow hX _))

theorem run_clear_wide {P : Program} (w : World) (t e ty : TypeId) (z : Value) (ht : P.underlying t = some (.slice e)) (hv : ∀ w, (zeroValue e).run P w = .ok z w) (zs : List Value) (hz : (Builtin.zeroCells z.cells 1).toList = zs) (h1 : ∀ u ∈ zs, u.oneCell' = true) (g o c : Nat) (cur : List Value) (t' : TypeId)
    (hg : w.heap[g]? = some (.cells cur.toArray t' (0, 0))) (hfit : o + zs.length ≤ cur.length) :
    (Builtin.clear_ #[t] ty #[.slice (some ⟨g, o, none⟩) 1 c]).run P w = .ok (.tuple #[]) (w.setRow g (splice cur o zs).toArray) := by
  have hst := run_storeCells_at P g o t' zs 0 cur.toArray w hg (by simpa using hfit) h1
  simp [Builtin.clear_, run_underlying ht, hv, hz, hst, splice]

theorem wpList_clear_wide {P : Program} {w : World} {ops : Array Oper} {rest : List Oper} {o : Oper} {a : Act} {Q : Exit → Act → World → Prop} (hgd : o.guard = none) (x : Operand) (t : TypeId)
    (ho : o.op = .call { callee := .builtin .clear, args := #[x], argTypes := #[t] }) (e : TypeId) (z : Value) (ht : P.underlying t = some (.slice e)) (hv : ∀ w, (zeroValue e).run P w = .ok z w) (zs : List Value) (hz : (Builtin.zeroCells z.cells 1).toList = zs) (h1 : ∀ u ∈ zs, u.oneCell' = true)
    (g off c : Nat) (hx : a.eval x = .slice (some ⟨g, off, none⟩) 1 c) (cur : List Value) (t' : TypeId) (hg : w.heap[g]? = some (.cells cur.toArray t' (0, 0))) (hfit : off + zs.length ≤ cur.length)
    (X : Nat → Prop) (w0 : World) (hch : Chg X w0 w) (hX : X g ∨ w0.heap.size ≤ g)
    (h : ∀ w', Hid (w'.heap[g]? = some (.cells (splice cur off zs).toArray t' (0, 0))) → Hid (Chg X w0 w') → wpList P ops Q rest (a.put o.dst (.tuple #[])) w') : wpList P ops Q (o :: rest) a w := by
  refine wpList_plain hgd fun K hK => ?_
  have hrun := run_clear_wide (P := P) w t e o.type z ht hv zs hz h1 g off c cur t' hg hfit
  unfold Oper.wp
  simp [execOp, ho, resolve, invoke, builtin, hx, hrun, Result.andThen]
  exact hK _ _ (h _ (hide (setRow_heap w g _ _ t' _ hg)) (hide (hch.setRow hX _)))

/-- The row behind a deletion. -/
theorem del_row {α : Type} (L xs zs : List α) (a N s : Nat) (hx : L.take N = xs) (hl : xs.length = N) (hz : zs.length = s) (ha : a + s ≤ N) (hN : N ≤ L.length) :
    (splice (splice L a (xs.drop (a + s))) (N - s) zs).take (N - s) = xs.take a ++ xs.drop (a + s) := by
  have hd : (xs.drop (a + s)).length = N - (a + s) := by rw [List.length_drop, hl]
  have l1 : (splice L a (xs.drop (a + s))).length = L.length := length_splice _ _ _ (by omega)
  have hxg : ∀ j, j < N → xs[j]? = L[j]? := fun j hj => by rw [← hx, List.getElem?_take, if_pos hj]
  apply List.ext_getElem?
  intro j
  rw [List.getElem?_take, splice_get _ _ _ (by omega), List.getElem?_append, List.length_take, hl, Nat.min_eq_left (by omega : a ≤ N)]
  by_cases h1 : j < N - s
  · rw [if_pos h1, if_pos h1, splice_get _ _ _ (by omega)]
    by_cases h2 : j < a
    · rw [if_pos h2, if_pos h2, List.getElem?_take, if_pos h2, hxg j (by omega)]
    · rw [if_neg h2, if_neg h2, if_pos (by omega)]
  · rw [if_neg h1, if_neg (by omega)]
    symm
    rw [List.getElem?_eq_none_iff]
    omega

end Go.Proofs.YtaejpejfmpbinaaDoor

namespace Go.Proofs.YtaejpejfmpbinaaDoor
open Go.RowKit

theorem zerocI : (Builtin.zeroCells (Value.cells (.agg #[.int .i64 0, .pointer none])) 1).toList = [.int .i64 0, .pointer none] := by
  have e : (Value.cells (.agg #[.int .i64 0, .pointer none])) = #[.int .i64 0, .pointer none] := rfl
  rw [e]
  simp [Builtin.zeroCells, List.range, List.range.loop]

set_option maxRecDepth 100000 in
set_option maxHeartbeats 1000000 in
theorem sdelI_any (g m cap i : Nat) (xs : List Value) (w : World) (h : w.ownsRow 0 95 2 (.slice (some ⟨g, 0, none⟩) (m + 1) cap) (m + 1) xs) (hx1 : ∀ u ∈ xs, u.oneCell' = true) (hi : i ≤ m) (hn : m ≤ 199) :
    Calls Tryd.prog 47 #[.slice (some ⟨g, 0, none⟩) (m + 1) cap, .int .i64 i, .int .i64 ((i : Int) + 1)] w fun e w' => e = .returned (.slice (some ⟨g, 0, none⟩) m cap) ∧ w'.ownsRow 0 95 2 (.slice (some ⟨g, 0, none⟩) m cap) m (xs.take (i * 2) ++ xs.drop ((i + 1) * 2)) ∧ Chg (fun b => b = g) w w' ∧ ∀ j u, ([.int .i64 0, .pointer none] : List Value)[j]? = some u → w'.cell? ⟨g, m * 2 + j, none⟩ = some u := by
  obtain ⟨i0, hii, hz0, hzs, hzb⟩ := info_parts infoI
  obtain ⟨hxl, h2⟩ := h
  rcases h2 with ⟨hv, h0⟩ | ⟨g', cap', cur, hv, _, hg, hcap, hmax, hcs, htk⟩
  · cases hv
  have e1 : g' = g := by simpa using (by injection hv with a b c; exact (congrArg (fun o => o.map (·.block)) a).symm : some g' = some g)
  have e2 : cap' = cap := by injection hv with a b c; exact c.symm
  subst e1 e2
  clear hv
  have hcl : cur.toList.length = cap' * 2 := by rw [Array.length_toList]; exact hcs
  obtain ⟨D, hD⟩ : ∃ D, D = xs.drop ((i + 1) * 2) := ⟨_, rfl⟩
  have hDl : D.length = (m - i) * 2 := by rw [hD, List.length_drop, hxl]; omega
  have hDc : ∀ j v, D[j]? = some v → w.cell? ⟨g', (i + 1) * 2 + j, none⟩ = some v := fun j v hj => by
    rw [hD, List.getElem?_drop, ← htk, List.getElem?_take] at hj
    split at hj
    · exact cell_in_row hg hj
    · cases hj
  have hD1 : ∀ u ∈ D, u.oneCell' = true := fun u hu => hx1 u (by rw [hD] at hu; exact List.mem_of_mem_drop hu)
  have hrow : (splice (splice cur.toList (i * 2) D) (m * 2) [.int .i64 0, .pointer none]).take (m * 2) = xs.take (i * 2) ++ xs.drop ((i + 1) * 2) := by
    have := del_row cur.toList xs [.int .i64 0, .pointer none] (i * 2) ((m + 1) * 2) 2 htk hxl rfl (by omega) (by rw [hcl]; omega)
    rw [show (m + 1) * 2 - 2 = m * 2 by omega, show i * 2 + 2 = (i + 1) * 2 by omega, ← hD] at this
    rw [this, hD]
  have hl1 : (splice cur.toList (i * 2) D).length = cap' * 2 := by rw [length_splice _ _ _ (by omega), hcl]
  have hrl : (splice (splice cur.toList (i * 2) D) (m * 2) [.int .i64 0, .pointer none]).length = cap' * 2 := by rw [length_splice _ _ _ (by simp only [List.length_cons, List.length_nil]; omega), hl1]
  obtain ⟨ys, hys⟩ : ∃ ys, ys = xs.take (i * 2) ++ xs.drop ((i + 1) * 2) := ⟨_, rfl⟩
  have hyl : ys.length = m * 2 := by rw [hys]; simp only [List.length_append, List.length_take, List.length_drop, hxl]; omega
  rw [← hys] at hrow ⊢
  have HG : Hid (w.heap[g']? = some (.cells cur.toList.toArray 95 (0, 0))) := hide (by rw [hg])
  have HC := hide hcl
  have HDl := hide hDl
  have HDc := hide hDc
  have HD1 := hide hD1
  have HR := hide hrow
  have HRl := hide hrl
  have HL1 := hide hl1
  have HYl := hide hyl
  have hmx := hide hmax
  have hb : cap' ≤ 9223372036854775807 := by unfold maxLen at hmax; omega
  clear hg htk hxl hcs hcl hDl hDc hD1 hrow hrl hyl hys hD hx1 hmax hl1
  generalize cur.toList = C at *
  have q1 : (i : Int) ≤ (m : Int) := by omega
  have q2 : (m : Int) + 1 ≤ cap' := by omega
  have q3 : (0 : Int) ≤ (i : Int) + 1 := by omega
  have q4 : ((i : Int) + 1).toNat = i + 1 := by omega
  have q5 : ((m : Int) + 1).toNat = m + 1 := by omega
  have q6 : ¬ ((i : Int) = (i : Int) + 1) := by omega
  have q7 : (i : Int) ≤ cap' := by omega
  have q8 : ¬ (cap' = m) := by omega
  have q9 : ¬ (cap' = i) := by omega
  have q10 : (m : Int) ≤ (m : Int) + 1 := by omega
  have q11 : (i : Int) ≤ (i : Int) + 1 := by omega
  have q12 : (0 : Int) ≤ (m : Int) + 1 := by omega
  have hzv : ∀ w, (zeroValue 95).run Tryd.prog w = .ok (.agg #[.int .i64 0, .pointer none]) w := fun _ => by simp [zeroValue, typeInfo, hii, hz0]
  have HZV := hide hzv
  have hone : ∀ u ∈ ([.int .i64 0, .pointer none] : List Value), u.oneCell' = true := by simp [Value.oneCell']
  have HONE := hide hone
  have HFIN : Hid (∀ (W : World), W.heap[g']? = some (.cells (splice (splice C (i * 2) D) (m * 2) [.int .i64 0, .pointer none]).toArray 95 (0, 0)) → ∀ j u, ([.int .i64 0, .pointer none] : List Value)[j]? = some u → W.cell? ⟨g', m * 2 + j, none⟩ = some u) := hide fun W hW j u hj => by
    have hj' : j < ([.int .i64 0, .pointer none] : List Value).length := by
      rcases Nat.lt_or_ge j ([.int .i64 0, .pointer none] : List Value).length with h | h
      · exact h
      · rw [List.getElem?_eq_none h] at hj; cases hj
    refine cell_in_row hW ?_
    have hz : ([.int .i64 0, .pointer none] : List Value).length = 2 := rfl
    rw [splice_get _ _ _ (by rw [HL1.out, hz]; omega), if_neg (by omega), if_pos (by omega), Nat.add_sub_cancel_left]
    exact hj
  have HFIT : Hid (m * 2 + ([.int .i64 0, .pointer none] : List Value).length ≤ (splice C (i * 2) D).length) := hide (by rw [HL1.out]; simp only [List.length_cons, List.length_nil]; omega)
  clear hzv hone
  by_cases hc1 : cap' = i + 1
  · obtain rfl : m = i := by omega
    subst hc1
    clear q8 q9 q6 q1 q7 q11 hi
    have hD0 : D = [] := List.eq_nil_of_length_eq_zero (by rw [HDl.out]; omega)
    subst hD0
    go_enter Tryd.func47, Tryd.ntmps47
    go_wp2_with fail
    go_region_law (refine step_append_wide rfl _ _ 96 rfl 95 i0 2 underI hii hzs g' m (m + 1) (by simp [Act.eval, Act.put]) ⟨g', 0, none⟩ 0 0 [] (by simp [Act.eval, Act.put]) rfl (fun j u hj => by cases hj) HD1.out (by omega) C 95 HG.out (by rw [HDl.out, HC.out]; omega) (fun b => b = g') w (Chg.refl _ _).drew (.inl rfl) ?_; intro w1 G1 C1)
    go_wp2_with (refine wpList_clear_wide rfl _ 96 rfl 95 (.agg #[.int .i64 0, .pointer none]) underI HZV.out [.int .i64 0, .pointer none] zerocI HONE.out g' (m * 2) 1 rfl (splice C (m * 2) []) 95 G1.out HFIT.out (fun b => b = g') w C1.out (.inl rfl) ?_)
    intro w2 G2 C2
    go_wp2
    go_ret
    exact ⟨rfl, ⟨HYl.out, .inr ⟨g', (m + 1), _, rfl, Nat.zero_le _, G2.out, by omega, hmx.out, by rw [List.size_toArray]; exact HRl.out, HR.out⟩⟩, C2.out, HFIN.out w2 G2.out⟩
  · go_enter Tryd.func47, Tryd.ntmps47
    go_wp2_with fail
    go_region_law (refine step_append_wide rfl _ _ 96 rfl 95 i0 2 underI hii hzs g' i cap' (by simp [Act.eval, Act.put]) ⟨g', (i + 1) * 2, none⟩ (m - i) (cap' - (i + 1)) D (by simp [Act.eval, Act.put]) HDl.out (fun j u hj => by rw [Addr.add_lit]; exact HDc.out j u hj) HD1.out (by omega) C 95 HG.out (by rw [HDl.out, HC.out]; omega) (fun b => b = g') w (Chg.refl _ _).drew (.inl rfl) ?_; intro w1 G1 C1)
    have hmi : i + (m - i) = m := by omega
    go_wp2_with (refine wpList_clear_wide rfl _ 96 rfl 95 (.agg #[.int .i64 0, .pointer none]) underI HZV.out [.int .i64 0, .pointer none] zerocI HONE.out g' (m * 2) (cap' - m) rfl (splice C (i * 2) D) 95 G1.out HFIT.out (fun b => b = g') w C1.out (.inl rfl) ?_)
    intro w2 G2 C2
    go_wp2
    go_ret
    exact ⟨rfl, ⟨HYl.out, .inr ⟨g', cap', _, rfl, Nat.zero_le _, G2.out, by omega, hmx.out, by rw [List.size_toArray]; exact HRl.out, HR.out⟩⟩, C2.out, HFIN.out w2 G2.out⟩

end Go.Proofs.YtaejpejfmpbinaaDoor

namespace Go.Proofs.YtaejpejfmpbinaaDoor
open Go.RowKit

theorem zerocR : (Builtin.zeroCells (Value.cells (.agg #[.int .i64 0, .int .i64 0, .pointer none])) 1).toList = [.int .i64 0, .int .i64 0, .pointer none] := by
  have e : (Value.cells (.agg #[.int .i64 0, .int .i64 0, .pointer none])) = #[.int .i64 0, .int .i64 0, .pointer none] := rfl
  rw [e]
  simp [Builtin.zeroCells, List.range, List.range.loop]

set_option maxRecDepth 100000 in
set_option maxHeartbeats 1000000 in
theorem sdelR_any (g m cap i : Nat) (xs : List Value) (w : World) (h : w.ownsRow 0 103 3 (.slice (some ⟨g, 0, none⟩) (m + 1) cap) (m + 1) xs) (hx1 : ∀ u ∈ xs, u.oneCell' = true) (hi : i ≤ m) (hn : m ≤ 199) :
    Calls Tryd.prog 48 #[.slice (some ⟨g, 0, none⟩) (m + 1) cap, .int .i64 i, .int .i64 ((i : Int) + 1)] w fun e w' => e = .returned (.slice (some ⟨g, 0, none⟩) m cap) ∧ w'.ownsRow 0 103 3 (.slice (some ⟨g, 0, none⟩) m cap) m (xs.take (i * 3) ++ xs.drop ((i + 1) * 3)) ∧ Chg (fun b => b = g) w w' ∧ ∀ j u, ([.int .i64 0, .int .i64 0, .pointer none] : List Value)[j]? = some u → w'.cell? ⟨g, m * 3 + j, none⟩ = some u := by
  obtain ⟨i0, hii, hz0, hzs, hzb⟩ := info_parts infoR
  obtain ⟨hxl, h2⟩ := h
  rcases h2 with ⟨hv, h0⟩ | ⟨g', cap', cur, hv, _, hg, hcap, hmax, hcs, htk⟩
  · cases hv
  have e1 : g' = g := by simpa using (by injection hv with a b c; exact (congrArg (fun o => o.map (·.block)) a).symm : some g' = some g)
  have e2 : cap' = cap := by injection hv with a b c; exact c.symm
  subst e1 e2
  clear hv
  have hcl : cur.toList.length = cap' * 3 := by rw [Array.length_toList]; exact hcs
  obtain ⟨D, hD⟩ : ∃ D, D = xs.drop ((i + 1) * 3) := ⟨_, rfl⟩
  have hDl : D.length = (m - i) * 3 := by rw [hD, List.length_drop, hxl]; omega
  have hDc : ∀ j v, D[j]? = some v → w.cell? ⟨g', (i + 1) * 3 + j, none⟩ = some v := fun j v hj => by
    rw [hD, List.getElem?_drop, ← htk, List.getElem?_take] at hj
    split at hj
    · exact cell_in_row hg hj
    · cases hj
  have hD1 : ∀ u ∈ D, u.oneCell' = true := fun u hu => hx1 u (by rw [hD] at hu; exact List.mem_of_mem_drop hu)
  have hrow : (splice (splice cur.toList (i * 3) D) (m * 3) [.int .i64 0, .int .i64 0, .pointer none]).take (m * 3) = xs.take (i * 3) ++ xs.drop ((i + 1) * 3) := by
    have := del_row cur.toList xs [.int .i64 0, .int .i64 0, .pointer none] (i * 3) ((m + 1) * 3) 3 htk hxl rfl (by omega) (by rw [hcl]; omega)
    rw [show (m + 1) * 3 - 3 = m * 3 by omega, show i * 3 + 3 = (i + 1) * 3 by omega, ← hD] at this
    rw [this, hD]
  have hl1 : (splice cur.toList (i * 3) D).length = cap' * 3 := by rw [length_splice _ _ _ (by omega), hcl]
  have hrl : (splice (splice cur.toList (i * 3) D) (m * 3) [.int .i64 0, .int .i64 0, .pointer none]).length = cap' * 3 := by rw [length_splice _ _ _ (by simp only [List.length_cons, List.length_nil]; omega), hl1]
  obtain ⟨ys, hys⟩ : ∃ ys, ys = xs.take (i * 3) ++ xs.drop ((i + 1) * 3) := ⟨_, rfl⟩
  have hyl : ys.length = m * 3 := by rw [hys]; simp only [List.length_append, List.length_take, List.length_drop, hxl]; omega
  rw [← hys] at hrow ⊢
  have HG : Hid (w.heap[g']? = some (.cells cur.toList.toArray 103 (0, 0))) := hide (by rw [hg])
  have HC := hide hcl
  have HDl := hide hDl
  have HDc := hide hDc
  have HD1 := hide hD1
  have HR := hide hrow
  have HRl := hide hrl
  have HL1 := hide hl1
  have HYl := hide hyl
  have hmx := hide hmax
  have hb : cap' ≤ 9223372036854775807 := by unfold maxLen at hmax; omega
  clear hg htk hxl hcs hcl hDl hDc hD1 hrow hrl hyl hys hD hx1 hmax hl1
  generalize cur.toList = C at *
  have q1 : (i : Int) ≤ (m : Int) := by omega
  have q2 : (m : Int) + 1 ≤ cap' := by omega
  have q3 : (0 : Int) ≤ (i : Int) + 1 := by omega
  have q4 : ((i : Int) + 1).toNat = i + 1 := by omega
  have q5 : ((m : Int) + 1).toNat = m + 1 := by omega
  have q6 : ¬ ((i : Int) = (i : Int) + 1) := by omega
  have q7 : (i : Int) ≤ cap' := by omega
  have q8 : ¬ (cap' = m) := by omega
  have q9 : ¬ (cap' = i) := by omega
  have q10 : (m : Int) ≤ (m : Int) + 1 := by omega
  have q11 : (i : Int) ≤ (i : Int) + 1 := by omega
  have q12 : (0 : Int) ≤ (m : Int) + 1 := by omega
  have hzv : ∀ w, (zeroValue 103).run Tryd.prog w = .ok (.agg #[.int .i64 0, .int .i64 0, .pointer none]) w := fun _ => by simp [zeroValue, typeInfo, hii, hz0]
  have HZV := hide hzv
  have hone : ∀ u ∈ ([.int .i64 0, .int .i64 0, .pointer none] : List Value), u.oneCell' = true := by simp [Value.oneCell']
  have HONE := hide hone
  have HFIN : Hid (∀ (W : World), W.heap[g']? = some (.cells (splice (splice C (i * 3) D) (m * 3) [.int .i64 0, .int .i64 0, .pointer none]).toArray 103 (0, 0)) → ∀ j u, ([.int .i64 0, .int .i64 0, .pointer none] : List Value)[j]? = some u → W.cell? ⟨g', m * 3 + j, none⟩ = some u) := hide fun W hW j u hj => by
    have hj' : j < ([.int .i64 0, .int .i64 0, .pointer none] : List Value).length := by
      rcases Nat.lt_or_ge j ([.int .i64 0, .int .i64 0, .pointer none] : List Value).length with h | h
      · exact h
      · rw [List.getElem?_eq_none h] at hj; cases hj
    refine cell_in_row hW ?_
    have hz : ([.int .i64 0, .int .i64 0, .pointer none] : List Value).length = 3 := rfl
    rw [splice_get _ _ _ (by rw [HL1.out, hz]; omega), if_neg (by omega), if_pos (by omega), Nat.add_sub_cancel_left]
    exact hj
  have HFIT : Hid (m * 3 + ([.int .i64 0, .int .i64 0, .pointer none] : List Value).length ≤ (splice C (i * 3) D).length) := hide (by rw [HL1.out]; simp only [List.length_cons, List.length_nil]; omega)
  clear hzv hone
  by_cases hc1 : cap' = i + 1
  · obtain rfl : m = i := by omega
    subst hc1
    clear q8 q9 q6 q1 q7 q11 hi
    have hD0 : D = [] := List.eq_nil_of_length_eq_zero (by rw [HDl.out]; omega)
    subst hD0
    go_enter Tryd.func48, Tryd.ntmps48
    go_wp2_with fail
    go_region_law (refine step_append_wide rfl _ _ 104 rfl 103 i0 3 underR hii hzs g' m (m + 1) (by simp [Act.eval, Act.put]) ⟨g', 0, none⟩ 0 0 [] (by simp [Act.eval, Act.put]) rfl (fun j u hj => by cases hj) HD1.out (by omega) C 103 HG.out (by rw [HDl.out, HC.out]; omega) (fun b => b = g') w (Chg.refl _ _).drew (.inl rfl) ?_; intro w1 G1 C1)
    go_wp2_with (refine wpList_clear_wide rfl _ 104 rfl 103 (.agg #[.int .i64 0, .int .i64 0, .pointer none]) underR HZV.out [.int .i64 0, .int .i64 0, .pointer none] zerocR HONE.out g' (m * 3) 1 rfl (splice C (m * 3) []) 103 G1.out HFIT.out (fun b => b = g') w C1.out (.inl rfl) ?_)
    intro w2 G2 C2
    go_wp2
    go_ret
    exact ⟨rfl, ⟨HYl.out, .inr ⟨g', (m + 1), _, rfl, Nat.zero_le _, G2.out, by omega, hmx.out, by rw [List.size_toArray]; exact HRl.out, HR.out⟩⟩, C2.out, HFIN.out w2 G2.out⟩
  · go_enter Tryd.func48, Tryd.ntmps48
    go_wp2_with fail
    go_region_law (refine step_append_wide rfl _ _ 104 rfl 103 i0 3 underR hii hzs g' i cap' (by simp [Act.eval, Act.put]) ⟨g', (i + 1) * 3, none⟩ (m - i) (cap' - (i + 1)) D (by simp [Act.eval, Act.put]) HDl.out (fun j u hj => by rw [Addr.add_lit]; exact HDc.out j u hj) HD1.out (by omega) C 103 HG.out (by rw [HDl.out, HC.out]; omega) (fun b => b = g') w (Chg.refl _ _).drew (.inl rfl) ?_; intro w1 G1 C1)
    have hmi : i + (m - i) = m := by omega
    go_wp2_with (refine wpList_clear_wide rfl _ 104 rfl 103 (.agg #[.int .i64 0, .int .i64 0, .pointer none]) underR HZV.out [.int .i64 0, .int .i64 0, .pointer none] zerocR HONE.out g' (m * 3) (cap' - m) rfl (splice C (i * 3) D) 103 G1.out HFIT.out (fun b => b = g') w C1.out (.inl rfl) ?_)
    intro w2 G2 C2
    go_wp2
    go_ret
    exact ⟨rfl, ⟨HYl.out, .inr ⟨g', cap', _, rfl, Nat.zero_le _, G2.out, by omega, hmx.out, by rw [List.size_toArray]; exact HRl.out, HR.out⟩⟩, C2.out, HFIN.out w2 G2.out⟩

end Go.Proofs.YtaejpejfmpbinaaDoor

namespace Go.Proofs.YtaejpejfmpbinaaDoor
open Go.RowKit

/-- The head of a map's array, if it has one. -/
def HeadI (w : World) (sv : Value) : Prop := ∀ g, sv.ownBlock = some g → ∃ n p, w.cell? ⟨g, 0, none⟩ = some (.int .i64 n) ∧ w.cell? ⟨g, 1, none⟩ = some (.pointer p)
def HeadR (w : World) (sv : Value) : Prop := ∀ g, sv.ownBlock = some g → ∃ n m p, w.cell? ⟨g, 0, none⟩ = some (.int .i64 n) ∧ w.cell? ⟨g, 1, none⟩ = some (.int .i64 m) ∧ w.cell? ⟨g, 2, none⟩ = some (.pointer p)
theorem HeadI.foreign {w : World} {sv : Value} {g : Nat} (h : HeadI w sv) (hg : sv.ownBlock = some g) : Foreign w g := by
  obtain ⟨n, p, h0, h1⟩ := h g hg
  exact .inr (.inr (.inl ⟨n, p, h0, h1⟩))
theorem HeadR.foreign {w : World} {sv : Value} {g : Nat} (h : HeadR w sv) (hg : sv.ownBlock = some g) : Foreign w g := by
  obtain ⟨n, m, p, h0, h1, h2⟩ := h g hg
  exact .inr (.inr (.inr (.inl ⟨n, m, p, h0, h1, h2⟩)))

theorem pw_ins {α : Type} {R : α → α → Prop} {L : List α} (i : Nat) (e : α) (hs : L.Pairwise R) (h1 : ∀ a ∈ L.take i, R a e) (h2 : ∀ a ∈ L.drop i, R e a) : (L.take i ++ e :: L.drop i).Pairwise R := by
  have hs' := hs
  rw [← List.take_append_drop i L, List.pairwise_append] at hs'
  rw [List.pairwise_append]
  refine ⟨hs'.1, List.pairwise_cons.2 ⟨h2, hs'.2.1⟩, fun a ha b hb => ?_⟩
  rcases List.mem_cons.1 hb with rfl | hb
  · exact h1 a ha
  · exact hs'.2.2 a ha b hb
theorem mem_ins {α : Type} {L : List α} (i : Nat) (e x : α) : x ∈ L.take i ++ e :: L.drop i ↔ x = e ∨ x ∈ L := by
  have : x ∈ L ↔ x ∈ L.take i ∨ x ∈ L.drop i := by rw [← List.mem_append, List.take_append_drop]
  rw [this, List.mem_append, List.mem_cons]
  constructor
  · rintro (h | h | h)
    · exact .inr (.inl h)
    · exact .inl h
    · exact .inr (.inr h)
  · rintro (h | h | h)
    · exact .inr (.inl h)
    · exact .inl h
    · exact .inr (.inr h)
theorem length_ins {α : Type} {L : List α} {i : Nat} (e : α) (h : i ≤ L.length) : (L.take i ++ e :: L.drop i).length = L.length + 1 := by
  simp only [List.length_append, List.length_take, List.length_cons, List.length_drop]; omega
theorem filter_cut {α : Type} {L : List α} {i : Nat} (p : α → Bool) (h : i < L.length) (h0 : p L[i] = false) (h1 : ∀ j (hj : j < L.length), j ≠ i → p L[j] = true) : L.take i ++ L.drop (i + 1) = L.filter p := by
  have e : L = L.take i ++ L[i] :: L.drop (i + 1) := by rw [← List.drop_eq_getElem_cons h, List.take_append_drop]
  conv => rhs; rw [e]
  rw [List.filter_append, List.filter_cons, h0]
  simp only [Bool.false_eq_true, if_false]
  rw [List.filter_eq_self.2, List.filter_eq_self.2]
  · intro a ha
    obtain ⟨j, hj, rfl⟩ := List.getElem_of_mem ha
    rw [List.getElem_drop]
    exact h1 _ _ (by omega)
  · intro a ha
    obtain ⟨j, hj, rfl⟩ := List.getElem_of_mem ha
    rw [List.getElem_take]
    rw [List.length_take] at hj
    exact h1 _ _ (by omega)

theorem rowI_append (L M : List Ent) : rowI (L ++ M) = rowI L ++ rowI M := by simp [rowI]
theorem rowR_append (L M : List Ent) : rowR (L ++ M) = rowR L ++ rowR M := by simp [rowR]
theorem rowI_take (L : List Ent) (i : Nat) : (rowI L).take (i * 2) = rowI (L.take i) := by
  rcases Nat.lt_or_ge L.length i with h | h
  · rw [List.take_of_length_le (by rw [rowI_length]; omega), List.take_of_length_le (by omega)]
  · have e := congrArg rowI (List.take_append_drop i L).symm
    rw [rowI_append] at e
    rw [e, List.take_append_of_le_length (by rw [rowI_length, List.length_take]; omega), List.take_of_length_le (by rw [rowI_length, List.length_take]; omega)]
theorem rowI_drop (L : List Ent) (i : Nat) : (rowI L).drop (i * 2) = rowI (L.drop i) := by
  rcases Nat.lt_or_ge L.length i with h | h
  · rw [List.drop_eq_nil_of_le (by rw [rowI_length]; omega), List.drop_eq_nil_of_le (by omega)]; rfl
  · have e := congrArg rowI (List.take_append_drop i L).symm
    rw [rowI_append] at e
    have l : (rowI (L.take i)).length = i * 2 := by rw [rowI_length, List.length_take]; omega
    rw [e, ← l, List.drop_left]
theorem rowR_take (L : List Ent) (i : Nat) : (rowR L).take (i * 3) = rowR (L.take i) := by
  rcases Nat.lt_or_ge L.length i with h | h
  · rw [List.take_of_length_le (by rw [rowR_length]; omega), List.take_of_length_le (by omega)]
  · have e := congrArg rowR (List.take_append_drop i L).symm
    rw [rowR_append] at e
    rw [e, List.take_append_of_le_length (by rw [rowR_length, List.length_take]; omega), List.take_of_length_le (by rw [rowR_length, List.length_take]; omega)]
theorem rowR_drop (L : List Ent) (i : Nat) : (rowR L).drop (i * 3) = rowR (L.drop i) := by
  rcases Nat.lt_or_ge L.length i with h | h
  · rw [List.drop_eq_nil_of_le (by rw [rowR_length]; omega), List.drop_eq_nil_of_le (by omega)]; rfl
  · have e := congrArg rowR (List.take_append_drop i L).symm
    rw [rowR_append] at e
    have l : (rowR (L.take i)).length = i * 3 := by rw [rowR_length, List.length_take]; omega
    rw [e, ← l, List.drop_left]
theorem rowI_one {L : List Ent} : ∀ u ∈ rowI L, u.oneCell' = true := by
  intro u hu
  obtain ⟨e, _, h⟩ := List.mem_flatMap.1 hu
  simp at h
  rcases h with rfl | rfl <;> rfl
theorem rowR_one {L : List Ent} : ∀ u ∈ rowR L, u.oneCell' = true := by
  intro u hu
  obtain ⟨e, _, h⟩ := List.mem_flatMap.1 hu
  simp at h
  rcases h with rfl | rfl | rfl <;> rfl

theorem ownsRow_same {w w' : World} {B : Nat} {t : TypeId} {s n : Nat} {sv : Value} {xs : List Value} (h : w.ownsRow B t s sv n xs) (hs : ∀ g, sv.ownBlock = some g → w'.heap[g]? = w.heap[g]?) : w'.ownsRow B t s sv n xs := by
  refine ⟨h.1, ?_⟩
  rcases h.2 with h | ⟨g, cap, cur, rfl, hb, hg, hr⟩
  · exact .inl h
  · exact .inr ⟨g, cap, cur, rfl, hb, (hs g rfl).trans hg, hr⟩

theorem Chg.setCell {X : Nat → Prop} {a b : World} {p : Addr} (h : Chg X a b) (hx : X p.block ∨ a.heap.size ≤ p.block) (v : Value) : Chg X a (b.setCell p v) :=
  ⟨h.os, h.tape, h.output, by rw [World.size_setCell]; exact h.size, fun k hk hX => (Below.heap_setCell _ _ _ _ (by intro e; rcases hx with hx | hx; exact hX (e ▸ hx); omega)).trans (h.block k hk hX)⟩

theorem HeadI.ne {w : World} {sv : Value} {m g : Nat} {fn : Fn} {f c : Array Value} (h : HeadI w sv) (hg : sv.ownBlock = some g) (hm : w.cell? ⟨m, 0, none⟩ = some (.func fn f c)) : m ≠ g := by
  rintro rfl
  obtain ⟨n, p, h0, _⟩ := h m hg
  rw [hm] at h0; cases h0

end Go.Proofs.YtaejpejfmpbinaaDoor
