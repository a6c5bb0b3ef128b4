import Derived.Test.YtnjalelblbjfiaaGreatDoorP11
namespace Go.Proofs.YtnjalelblbjfiaaGreatDoor
open Go.RowKit

theorem infoR : (Tryz.prog.info? 189).map (fun i => (i.zero, i.size, i.bytes)) = some (some (.agg #[.int .i64 0, .int .i64 0, .pointer none]), 3, 24) := by kernel_rfl
theorem underR : Tryz.prog.underlying 170 = some (.slice 189) := by kernel_rfl
theorem sizeR : (Tryz.prog.info? 189).map (·.size) = some 3 := by kernel_rfl

set_option maxRecDepth 100000 in
set_option maxHeartbeats 1000000 in
theorem insR_end (sv : Value) (n : Nat) (xs : List Value) (vb : Nat) (vs : List Value) (w : World) (h : w.ownsRow 0 189 3 sv n xs) (hn : n ≤ 199) (hvl : vs.length = 3) (hvs : ∀ j u, vs[j]? = some u → w.cell? ⟨vb, j, none⟩ = some u) (h1 : ∀ u ∈ vs, u.oneCell' = true) :
    Calls Tryz.prog 93 #[sv, .int .i64 n, .slice (some ⟨vb, 0, none⟩) 1 1] w (InsPost 189 3 sv n (xs ++ vs) w) := by
  obtain ⟨i0, hi, hz0, hz1, hz2⟩ := info_parts infoR
  have H := hide h
  have HV := hide hvs
  have hnn : (n : Int) ≤ 199 := by omega
  rcases h.2 with ⟨hv, h0⟩ | ⟨g, cap, cur, hv, _, hg, hcap, hmax, hcs, htk⟩
  · subst hv h0
    clear h hvs
    go_enter Tryz.func93, Tryz.ntmps93
    go_wp2_with (first | (at_builtin; refine wpList_append_lies _ rfl _ _ 170 rfl 0 189 i0 (.agg #[.int .i64 0, .int .i64 0, .pointer none]) 3 24 underR hi hz0 hz1 hz2 rfl (by decide) _ 0 xs rfl H.out ⟨vb, 0, none⟩ 1 1 vs rfl (by rw [hvl]) (fun j u hj => by rw [Addr.add_lit, Nat.zero_add]; exact HV.out j u hj) h1 (by decide) (by unfold maxLen; omega) (by omega) (Nat.zero_le _) _ rfl ?_))
    intro g1 cap1 w1 hown1 hgrow1 hat1 hlt1
    have P1 := hide (show InsPost 189 3 (.slice none 0 0) 0 (xs ++ vs) w (.returned (.slice (some ⟨g1, 0, none⟩) 1 cap1)) w1 from ⟨g1, cap1, rfl, hown1, by rcases hat1 with e | e; exact .inl e; exact .inr (by omega), Chg.grown hgrow1 fun _ e => e⟩)
    clear hown1 hgrow1 hat1
    go_wp2
    go_ret
    exact P1.out
  · subst hv
    clear h hvs htk hcs hg
    have hb : cap ≤ 9223372036854775807 := by unfold maxLen at hmax; omega
    have hcn : (n : Int) ≤ cap := by omega
    go_enter Tryz.func93, Tryz.ntmps93
    go_wp2_with (first | (at_builtin; refine wpList_append_lies _ rfl _ _ 170 rfl 0 189 i0 (.agg #[.int .i64 0, .int .i64 0, .pointer none]) 3 24 underR hi hz0 hz1 hz2 rfl (by decide) _ n xs rfl H.out ⟨vb, 0, none⟩ 1 1 vs rfl (by rw [hvl]) (fun j u hj => by rw [Addr.add_lit, Nat.zero_add]; exact HV.out j u hj) h1 (by decide) (by unfold maxLen; omega) (by omega) (Nat.zero_le _) _ rfl ?_))
    all_goals
      intro g1 cap1 w1 hown1 hgrow1 hat1 hlt1
      have P1 := hide (show InsPost 189 3 (.slice (some ⟨g, 0, none⟩) n cap) n (xs ++ vs) w (.returned (.slice (some ⟨g1, 0, none⟩) (n + 1) cap1)) w1 from ⟨g1, cap1, rfl, hown1, by rcases hat1 with e | e; exact .inl e; exact .inr (by omega), Chg.grown hgrow1 fun _ e => e⟩)
      clear hown1 hgrow1 hat1
      go_wp2
      go_ret
      exact P1.out

set_option maxRecDepth 100000 in
set_option maxHeartbeats 1000000 in
theorem insR_room (g n cap i : Nat) (cur : Array Value) (xs : List Value) (vb : Nat) (tv : TypeId) (kv : Nat) (vs : List Value) (w : World) (hg : w.heap[g]? = some (.cells cur 189 (0, 0))) (hmax : cap ≤ maxLen) (hcs : cur.size = cap * 3) (hxl : xs.length = n * 3) (htk : cur.toList.take (n * 3) = xs) (hx1 : ∀ u ∈ xs, u.oneCell' = true)
    (hi : i < n) (hroom : n + 1 ≤ cap) (hn : n ≤ 199) (hvl : vs.length = 3) (hvs : ∀ j u, vs[j]? = some u → w.cell? ⟨vb, j, none⟩ = some u) (h1 : ∀ u ∈ vs, u.oneCell' = true) (hvb : vb ≠ g) (hsa : w.shape? vb = some (tv, kv)) (hfv : ∀ j, w.frozen? ⟨vb, j, none⟩ = false) :
    Calls Tryz.prog 93 #[.slice (some ⟨g, 0, none⟩) n cap, .int .i64 i, .slice (some ⟨vb, 0, none⟩) 1 1] w (InsPost 189 3 (.slice (some ⟨g, 0, none⟩) n cap) n (xs.take (i * 3) ++ vs ++ xs.drop (i * 3)) w) := by
  have hsb : w.shape? g = some (189, cur.size) := by simp [World.shape?, hg]
  have hov : ∀ lb cb, (callFunc 160 #[.slice (some ⟨vb, 0, none⟩) 1 1, .slice (some ⟨g, (i + 1) * 3, none⟩) lb cb]).run Tryz.prog w = .ok (.value (.bool false)) w := fun lb cb => by
    rw [run_callFunc_extern Tryz.func160 (by kernel_rfl) (by kernel_rfl) (by kernel_rfl) (e := Extern.SlicesOverlaps.overlaps #[170, 170] #[4]) (by kernel_rfl),
      Lib.run_overlaps_apart w 170 4 189 underR 3 (fun _ => rfl) ⟨vb, 0, none⟩ ⟨g, (i + 1) * 3, none⟩ 1 1 lb cb hvb tv 189 kv cur.size hsa hsb (by omega) (hfv _) (hfv _)]
    rfl
  have hb : cap ≤ 9223372036854775807 := by unfold maxLen at hmax; omega
  have hcn : (n : Int) ≤ cap := by omega
  have hcn1 : (n : Int) + 1 ≤ cap := by omega
  have hz2 : ¬ ((i : Int) = (n : Int)) := by omega
  have hin : (i : Int) < n := by omega
  have hnc : ¬ ((cap : Int) < (n : Int) + 1) := by omega
  have hci : ¬ (cap = i) := by omega
  have hci1 : ¬ (cap = i + 1) := by omega
  have hw1 : IntKind.i64.wrap ((i : Int) + 1) = (i : Int) + 1 := by rw [IntKind.wrap_i64]; omega
  have hw2 : IntKind.i64.wrap ((n : Int) + 1) = (n : Int) + 1 := by rw [IntKind.wrap_i64]; omega
  have htn : ((i : Int) + 1).toNat = i + 1 := by omega
  have htn2 : ((n : Int) + 1).toNat = n + 1 := by omega
  have hb1 : (0 : Int) ≤ (i : Int) + 1 := by omega
  have hb2 : i ≤ n := by omega
  have hb3 : (i : Int) ≤ (n : Int) + 1 := by omega
  have hcl : cur.toList.length = cap * 3 := by rw [Array.length_toList]; exact hcs
  obtain ⟨D, hD⟩ : ∃ D, D = xs.drop (i * 3) := ⟨_, rfl⟩
  have hDl : D.length = (n - i) * 3 := by rw [hD, List.length_drop, hxl]; omega
  have hDc : ∀ j v, D[j]? = some v → w.cell? ⟨g, i * 3 + j, none⟩ = some v := fun j v hj => by
    rw [hD, List.getElem?_drop, ← htk, List.getElem?_take] at hj
    split at hj
    · exact cell_in_row hg hj
    · cases hj
  have hD1 : ∀ u ∈ D, u.oneCell' = true := fun u hu => hx1 u (by rw [hD] at hu; exact List.mem_of_mem_drop hu)
  have hrow : (splice (splice cur.toList ((i + 1) * 3) D) (i * 3) vs).take ((n + 1) * 3) = xs.take (i * 3) ++ vs ++ xs.drop (i * 3) := by
    rw [show (i + 1) * 3 = i * 3 + 3 by omega, show (n + 1) * 3 = n * 3 + 3 by omega, hD]
    exact ins_room cur.toList xs vs (i * 3) (n * 3) 3 htk hxl hvl (by omega) (by rw [hcl]; omega)
  have hrl : (splice (splice cur.toList ((i + 1) * 3) D) (i * 3) vs).length = cap * 3 := by
    rw [length_splice _ _ _ (by rw [length_splice _ _ _ (by omega)]; omega), length_splice _ _ _ (by omega), hcl]
  obtain ⟨ys, hys⟩ : ∃ ys, ys = xs.take (i * 3) ++ vs ++ xs.drop (i * 3) := ⟨_, rfl⟩
  have hyl : ys.length = (n + 1) * 3 := by rw [hys]; simp only [List.length_append, List.length_take, List.length_drop, hxl, hvl]; omega
  rw [← hys] at hrow ⊢
  have HG : Hid (w.heap[g]? = some (.cells cur.toList.toArray 189 (0, 0))) := hide (by rw [hg])
  have HV := hide hvs
  have HC := hide hcl
  have HDl := hide hDl
  have HDc := hide hDc
  have HD1 := hide hD1
  have HR := hide hrow
  have HRl := hide hrl
  have HYl := hide hyl
  clear hg hvs htk hxl hcs hsb hcl hDl hDc hD1 hrow hrl hyl hys hD
  generalize cur.toList = C at *
  have hmx := hide hmax
  clear hmax
  go_enter Tryz.func93, Tryz.ntmps93
  go_wp2_with (simp only [hov])
  go_region_law (refine step_copy_wide rfl _ _ 170 170 rfl 189 3 underR sizeR g ((i + 1) * 3) (n - i) (cap - (i + 1)) ⟨g, i * 3, none⟩ (n + 1 - i) (cap - i) (by simp [Act.eval, Act.put]) (by simp [Act.eval, Act.put]) C 189 HG.out D (n - i) (by simp only [Nat.min_def]; split <;> omega) HDl.out (fun j v hj => by rw [Addr.add_lit]; exact HDc.out j v hj) (by rw [HDl.out, HC.out]; omega) HD1.out (fun b => b = g) w (Chg.refl _ _).drew (.inl rfl) ?_; intro w1 G1 C1 O1)
  have HV1 : Hid (∀ j u, vs[j]? = some u → w1.cell? ⟨vb, j, none⟩ = some u) := hide fun j u hj => (World.cell?_of_block (w := w) (a := ⟨vb, j, none⟩) (O1.out vb hvb)).trans (HV.out j u hj)
  have HL1 : Hid (i * 3 + vs.length ≤ (splice C ((i + 1) * 3) D).length) := hide (by rw [length_splice _ _ _ (by rw [HDl.out, HC.out]; omega), HC.out, hvl]; omega)
  go_wp2_with (refine wpList_copy_wide rfl _ _ 170 170 rfl 189 3 underR sizeR g (i * 3) (n + 1 - i) (cap - i) ⟨vb, 0, none⟩ 1 1 rfl rfl (splice C ((i + 1) * 3) D) 189 G1.out vs 1 (by simp only [Nat.min_def]; split <;> omega) (by rw [hvl]) (fun j v hj => by rw [Addr.add_lit, Nat.zero_add]; exact HV1.out j v hj) HL1.out h1 (fun b => b = g) w C1.out (.inl rfl) ?_)
  intro w2 G2 C2 O2
  go_wp2
  go_ret
  exact ⟨g, cap, rfl, ⟨HYl.out, .inr ⟨g, cap, _, rfl, Nat.zero_le _, G2.out, hroom, hmx.out, by rw [List.size_toArray]; exact HRl.out, HR.out⟩⟩, .inl rfl, C2.out.mono fun x _ hx => by subst hx; rfl⟩

theorem cells_zeroR : (Value.cells (.agg #[.int .i64 0, .int .i64 0, .pointer none])).size = 3 := rfl

set_option maxRecDepth 100000 in
set_option maxHeartbeats 1000000 in
theorem insR_grow (g n cap i : Nat) (cur : Array Value) (xs : List Value) (vb : Nat) (vs : List Value) (w : World) (hg : w.heap[g]? = some (.cells cur 189 (0, 0))) (hxl : xs.length = n * 3) (htk : cur.toList.take (n * 3) = xs) (hx1 : ∀ u ∈ xs, u.oneCell' = true)
    (hi : i < n) (hnc0 : n ≤ cap) (hroom : cap < n + 1) (hn : n ≤ 199) (hvl : vs.length = 3) (hvs : ∀ j u, vs[j]? = some u → w.cell? ⟨vb, j, none⟩ = some u) (h1 : ∀ u ∈ vs, u.oneCell' = true) :
    Calls Tryz.prog 93 #[.slice (some ⟨g, 0, none⟩) n cap, .int .i64 i, .slice (some ⟨vb, 0, none⟩) 1 1] w (InsPost 189 3 (.slice (some ⟨g, 0, none⟩) n cap) n (xs.take (i * 3) ++ vs ++ xs.drop (i * 3)) w) := by
  obtain rfl : cap = n := by omega
  obtain ⟨i0, hii, hz0, hzs, hzb⟩ := info_parts infoR
  have hglt : g < w.heap.size := (Array.getElem?_eq_some_iff.1 hg).1
  have hvlt : vb < w.heap.size := by
    obtain ⟨u, hu⟩ : ∃ u, vs[0]? = some u := ⟨_, List.getElem?_eq_getElem (by omega)⟩
    exact block_lt_of_cell (hvs 0 u hu)
  obtain ⟨D, hD⟩ : ∃ D, D = xs.drop (i * 3) := ⟨_, rfl⟩
  have hDl : D.length = (cap - i) * 3 := by rw [hD, List.length_drop, hxl]; omega
  have hDc : ∀ j v, D[j]? = some v → w.cell? ⟨g, i * 3 + j, none⟩ = some v := fun j v hj => by
    rw [hD, List.getElem?_drop, ← htk, List.getElem?_take] at hj
    split at hj
    · exact cell_in_row hg hj
    · cases hj
  have hD1 : ∀ u ∈ D, u.oneCell' = true := fun u hu => hx1 u (by rw [hD] at hu; exact List.mem_of_mem_drop hu)
  have hold : (Builtin.firstCells i0.size i (.slice (some ⟨g, 0, none⟩) i cap)).run Tryz.prog w.drew = .ok (xs.take (i * 3)).toArray w.drew := by
    rw [hzs]
    exact run_firstCells_some w.drew 3 i ⟨g, 0, none⟩ i cap (xs.take (i * 3)) (by rw [List.length_take]; omega) (fun j v hj => by
      rw [Addr.add_lit, Nat.zero_add]
      rw [List.getElem?_take] at hj
      split at hj
      · rw [← htk, List.getElem?_take] at hj
        split at hj
        · exact cell_in_row hg hj
        · cases hj
      · cases hj)
  have hik : i + (cap + 1 - i) = cap + 1 := by omega
  have hkk : (cap : Int) + 1 - (i : Int) = ((cap + 1 - i : Nat) : Int) := by omega
  obtain ⟨G, hG⟩ : ∃ G, G = grownCap w (cap + 1) cap 189 := ⟨_, rfl⟩
  obtain ⟨ROW, hROW⟩ : ∃ ROW : Array Value, ROW = (xs.take (i * 3)).toArray ++ Builtin.zeroCells (Value.cells (.agg #[.int .i64 0, .int .i64 0, .pointer none])) (cap + 1 - i) ++ Builtin.zeroCells (Value.cells (.agg #[.int .i64 0, .int .i64 0, .pointer none])) (G - (cap + 1)) := ⟨_, rfl⟩
  obtain ⟨W1, hW1⟩ : ∃ W1, W1 = w.drew.alloc (.cells ROW 189) := ⟨_, rfl⟩
  have hrz : ∀ ty, (Builtin.append_ #[170, 3] ty #[.slice (some ⟨g, 0, none⟩) i cap, .int .i64 ((cap : Int) + 1 - (i : Int))]).run Tryz.prog w = .ok (.slice (some ⟨w.heap.size, 0, none⟩) (cap + 1) G) W1 := fun ty => by
    have h := Lib.run_append_grow_zeros w 170 3 ty 189 i0 _ .i64 .i64 underR (by kernel_rfl) hii hz0 (some ⟨g, 0, none⟩) i cap (xs.take (i * 3)) hold (cap + 1 - i) (by omega) (by omega) (by omega) (by omega) (by rw [hzb]; omega) (by rw [hzb, hik]; exact growslice_fits hroom (by omega))
    rw [hik] at h
    rw [hkk, hW1, hROW, hG]
    exact h
  have hGn : cap + 1 ≤ G := by rw [hG]; exact grownCap_ge w _ _ _
  have hGm : G ≤ maxLen := by rw [hG]; exact grownCap_le_maxLen w (cap + 1) cap 189 (by unfold maxLen; omega)
  have hG63 : G ≤ 9223372036854775807 := by unfold maxLen at hGm; omega
  have hRs : ROW.toList.length = G * 3 := by
    rw [hROW]
    simp only [Builtin.zeroCells, cells_zeroR, Array.toList_append, List.length_append, Array.length_toList, Array.size_map, Array.size_range, List.length_take]
    omega
  have hRt : ROW.toList.take (i * 3) = xs.take (i * 3) := by
    rw [hROW, Array.toList_append, Array.toList_append, List.append_assoc, List.take_append_of_le_length (by rw [List.length_take]; omega), List.take_take, Nat.min_self]
  have hrow : (splice (splice ROW.toList (i * 3) vs) ((i + 1) * 3) D).take ((cap + 1) * 3) = xs.take (i * 3) ++ vs ++ xs.drop (i * 3) := by
    rw [show (i + 1) * 3 = i * 3 + 3 by omega, show (cap + 1) * 3 = cap * 3 + 3 by omega, hD]
    exact ins_grow ROW.toList xs vs (i * 3) (cap * 3) 3 hRt hxl hvl (by omega) (by rw [hRs]; omega)
  have hl1 : (splice ROW.toList (i * 3) vs).length = G * 3 := by rw [length_splice _ _ _ (by omega), hRs]
  have hrl : (splice (splice ROW.toList (i * 3) vs) ((i + 1) * 3) D).length = G * 3 := by rw [length_splice _ _ _ (by omega), hl1]
  obtain ⟨ys, hys⟩ : ∃ ys, ys = xs.take (i * 3) ++ vs ++ xs.drop (i * 3) := ⟨_, rfl⟩
  have hyl : ys.length = (cap + 1) * 3 := by rw [hys]; simp only [List.length_append, List.length_take, List.length_drop, hxl, hvl]; omega
  rw [← hys] at hrow ⊢
  obtain ⟨N, hN⟩ : ∃ N, N = w.heap.size := ⟨_, rfl⟩
  have HG : Hid (W1.heap[N]? = some (.cells ROW.toList.toArray 189 (0, 0))) := hide (by rw [hW1, hN]; exact (by simp : (w.heap.push (Obj.cells ROW 189))[w.heap.size]? = some (Obj.cells ROW.toList.toArray 189)))
  have HO : Hid (∀ k, k < N → W1.heap[k]? = w.heap[k]?) := hide fun k hk => by rw [hW1]; exact ((Below.refl w.heap.size w.drew).alloc (Nat.le_refl _) _).block k (by omega)
  have HCh : Hid (Chg (fun b => b = g) w W1) := hide (by rw [hW1]; exact (Chg.refl _ w).drew.alloc _)
  rw [← hN] at hrz hglt hvlt
  have HV1 : Hid (∀ j u, vs[j]? = some u → W1.cell? ⟨vb, j, none⟩ = some u) := hide fun j u hj => (World.cell?_of_block (w := w) (a := ⟨vb, j, none⟩) (HO.out vb hvlt)).trans (hvs j u hj)
  have HD2 : Hid (∀ j v, D[j]? = some v → W1.cell? ⟨g, i * 3 + j, none⟩ = some v) := hide fun j v hj => (World.cell?_of_block (w := w) (a := ⟨g, i * 3 + j, none⟩) (HO.out g hglt)).trans (hDc j v hj)
  have HDl := hide hDl
  have HD1 := hide hD1
  have HR := hide hrow
  have HRl := hide hrl
  have HRs := hide hRs
  have HL1 := hide hl1
  have HYl := hide hyl
  have HGm := hide hGm
  have HN := hide hN
  have hgN : g ≠ N := by omega
  clear hg hvs htk hxl hDl hDc hD1 hrow hrl hyl hys hD hold hik hkk hROW hRs hRt hl1 hW1 hG hGm hN HO hx1
  generalize ROW.toList = C at *
  have hb : cap ≤ 9223372036854775807 := by omega
  have hz2 : ¬ ((i : Int) = (cap : Int)) := by omega
  have hin : (i : Int) < cap := by omega
  have hnc : (cap : Int) < (cap : Int) + 1 := by omega
  have hci : ¬ (cap = i) := by omega
  have hGi : ¬ (G = i) := by omega
  have hGi1 : ¬ (G = i + 1) := by omega
  have hw1 : IntKind.i64.wrap ((i : Int) + 1) = (i : Int) + 1 := by rw [IntKind.wrap_i64]; omega
  have hw2 : IntKind.i64.wrap ((cap : Int) + 1) = (cap : Int) + 1 := by rw [IntKind.wrap_i64]; omega
  have hw3 : IntKind.i64.wrap ((cap : Int) + 1 - (i : Int)) = (cap : Int) + 1 - (i : Int) := by rw [IntKind.wrap_i64]; omega
  have htn : ((i : Int) + 1).toNat = i + 1 := by omega
  have hb1 : (0 : Int) ≤ (i : Int) + 1 := by omega
  have hb2 : i ≤ cap := by omega
  have hb3 : (i : Int) ≤ (cap : Int) + 1 := by omega
  go_enter Tryz.func93, Tryz.ntmps93
  go_wp2_with (first | (at_builtin; refine Lib.wpList_append_run _ rfl _ _ 170 3 rfl _ _ rfl rfl _ _ (hrz _) ?_) | (refine wpList_copy_wide rfl _ _ 170 170 rfl 189 3 underR sizeR N (i * 3) (cap + 1 - i) (G - i) ⟨vb, 0, none⟩ 1 1 rfl rfl C 189 HG.out vs 1 (by simp only [Nat.min_def]; split <;> omega) (by rw [hvl]) (fun j v hj => by rw [Addr.add_lit, Nat.zero_add]; exact HV1.out j v hj) (by rw [HRs.out, hvl]; omega) h1 (fun b => b = g) w HCh.out (.inr (Nat.le_of_eq HN.out.symm)) ?_))
  intro w1 G1 C1 O1
  have HD3 : Hid (∀ j v, D[j]? = some v → w1.cell? ⟨g, i * 3 + j, none⟩ = some v) := hide fun j v hj => (World.cell?_of_block (w := W1) (a := ⟨g, i * 3 + j, none⟩) (O1.out g hgN)).trans (HD2.out j v hj)
  go_wp2
  go_region_law (refine step_copy_wide rfl _ _ 170 170 rfl 189 3 underR sizeR N ((i + 1) * 3) (cap - i) (G - (i + 1)) ⟨g, i * 3, none⟩ (cap - i) (cap - i) (by simp [Act.eval, Act.put]) (by simp [Act.eval, Act.put]) (splice C (i * 3) vs) 189 G1.out D (cap - i) (by simp only [Nat.min_def]; split <;> omega) HDl.out (fun j v hj => by rw [Addr.add_lit]; exact HD3.out j v hj) (by rw [HDl.out, HL1.out]; omega) HD1.out (fun b => b = g) w C1.out.drew (.inr (Nat.le_of_eq HN.out.symm)) ?_; intro w2 G2 C2 O2)
  go_wp2
  go_ret
  exact ⟨N, G, rfl, ⟨HYl.out, .inr ⟨N, G, _, rfl, Nat.zero_le _, G2.out, hGn, HGm.out, by rw [List.size_toArray]; exact HRl.out, HR.out⟩⟩, .inr (Nat.le_of_eq HN.out.symm), C2.out.mono fun x _ hx => by subst hx; rfl⟩

/-- slices.Insert of one element. -/
theorem insR_any (sv : Value) (n i : Nat) (xs : List Value) (vb : Nat) (tv : TypeId) (kv : Nat) (vs : List Value) (w : World) (h : w.ownsRow 0 189 3 sv n xs) (hx1 : ∀ u ∈ xs, u.oneCell' = true) (hi : i ≤ n) (hn : n ≤ 199) (hvl : vs.length = 3)
    (hvs : ∀ j u, vs[j]? = some u → w.cell? ⟨vb, j, none⟩ = some u) (h1 : ∀ u ∈ vs, u.oneCell' = true) (hvb : sv.ownBlock ≠ some vb) (hsa : w.shape? vb = some (tv, kv)) (hfv : ∀ j, w.frozen? ⟨vb, j, none⟩ = false) :
    Calls Tryz.prog 93 #[sv, .int .i64 i, .slice (some ⟨vb, 0, none⟩) 1 1] w (InsPost 189 3 sv n (xs.take (i * 3) ++ vs ++ xs.drop (i * 3)) w) := by
  by_cases hin : i = n
  · subst hin
    have e1 : xs.take (i * 3) = xs := List.take_of_length_le (by rw [h.1]; exact Nat.le_refl _)
    have e2 : xs.drop (i * 3) = [] := List.drop_eq_nil_of_le (by rw [h.1]; exact Nat.le_refl _)
    rw [e1, e2, List.append_nil]
    exact insR_end sv i xs vb vs w h hn hvl hvs h1
  · have h' := h
    rcases h.2 with ⟨hv, h0⟩ | ⟨g, cap, cur, hv, _, hg, hcap, hmax, hcs, htk⟩
    · omega
    · subst hv
      by_cases hr : n + 1 ≤ cap
      · exact insR_room g n cap i cur xs vb tv kv vs w hg hmax hcs h'.1 htk hx1 (by omega) hr hn hvl hvs h1 (fun e => hvb (by rw [e]; rfl)) hsa hfv
      · exact insR_grow g n cap i cur xs vb vs w hg h'.1 htk hx1 (by omega) hcap (by omega) hn hvl hvs h1

end Go.Proofs.YtnjalelblbjfiaaGreatDoor

namespace Go.Proofs.YtnjalelblbjfiaaGreatDoor
open Go.RowKit

theorem setCells_row {w : World} {g o : Nat} {cur vs : List Value} {t : TypeId} (hg : w.heap[g]? = some (.cells cur.toArray t (0, 0))) (h : o + vs.length ≤ cur.length) (h1 : ∀ v ∈ vs, v.oneCell' = true) : w.setCells g o vs = w.setRow g (splice cur o vs).toArray := by
  have a := run_storeCells_cells (P := Tryz.prog) g o vs 0 w (fun j hj => by
    have : o + j < cur.length := by omega
    simp [World.cell?, hg, this]) (fun j hj => by simp [World.frozen?, hg]) h1
  have b := run_storeCells_at Tryz.prog g o t vs 0 cur.toArray w hg (by simpa using h) h1
  rw [a] at b
  injection b with _ e
  simpa [splice] using e

theorem step_append_wide {P : Program} {ops : Array Oper} {o : Oper} {a : Act} {w : World} {K : Act → World → Prop} {Q : Exit → Act → World → Prop} {E : Prop}
    (hgd : o.guard = none) (s x : Operand) (t : TypeId) (hop : o.op = Op.call { callee := Callee.builtin Builtin.append, args := #[s, x], argTypes := #[t, t] })
    (e : TypeId) (i : TypeInfo) (size : Nat) (h1 : P.underlying t = some (.slice e)) (h2 : P.info? e = some i) (h4 : i.size = size)
    (b n cap : Nat) (hs : a.eval s = .slice (some ⟨b, 0, none⟩) n cap)
    (ad : Addr) (m c : Nat) (news : List Value) (hx : a.eval x = .slice (some ad) m c) (hn : news.length = m * size) (hc : ∀ j u, news[j]? = some u → w.cell? (ad.add j) = some u) (h1c : ∀ u ∈ news, u.oneCell' = true)
    (hroom : n + m ≤ cap) (cur : List Value) (t' : TypeId) (hg : w.heap[b]? = some (.cells cur.toArray t' (0, 0))) (hfit : n * size + news.length ≤ cur.length)
    (X : Nat → Prop) (w0 : World) (hch : Chg X w0 w) (hX : X b ∨ w0.heap.size ≤ b)
    (hK : ∀ w', Hid (w'.heap[b]? = some (.cells (splice cur (n * size) news).toArray t' (0, 0))) → Hid (Chg X w0 w') → K (a.put o.dst (.slice (some ⟨b, 0, none⟩) (n + m) cap)) w') :
    if Region.wanted o (yielded ops a.tmps) = true then Oper.wp P o a w K Q else E := by
  refine step_append_room hgd s x t hop e i size h1 h2 h4 b 0 n cap hs ad m c news hx hn hc h1c hroom (fun j hj => ?_) ?_
  · have : n * size + j < cur.length := by omega
    simp [World.cell?, World.frozen?, hg, this]
  · rw [Nat.zero_add, setCells_row hg hfit h1c]
    exact hK _ (hide (setRow_heap w b _ _ t' _ hg)) (hide (hch.setRow hX _))

theorem run_clear_wide {P : Program} (w : World) (t e ty : TypeId) (z : Value) (ht : P.underlying t = some (.slice e)) (hv : ∀ w, (zeroValue e).run P w = .ok z w) (zs : List Value) (hz : (Builtin.zeroCells z.cells 1).toList = zs) (h1 : ∀ u ∈ zs, u.oneCell' = true) (g o c : Nat) (cur : List Value) (t' : TypeId)
    (hg : w.heap[g]? = some (.cells cur.toArray t' (0, 0))) (hfit : o + zs.length ≤ cur.length) :
    (Builtin.clear_ #[t] ty #[.slice (some ⟨g, o, none⟩) 1 c]).run P w = .ok (.tuple #[]) (w.setRow g (splice cur o zs).toArray) := by
  have hst := run_storeCells_at P g o t' zs 0 cur.toArray w hg (by simpa using hfit) h1
  simp [Builtin.clear_, run_underlying ht, hv, hz, hst, splice]

theorem wpList_clear_wide {P : Program} {w : World} {ops : Array Oper} {rest : List Oper} {o : Oper} {a : Act} {Q : Exit → Act → World → Prop} (hgd : o.guard = none) (x : Operand) (t : TypeId)
    (ho : o.op = .call { callee := .builtin .clear, args := #[x], argTypes := #[t] }) (e : TypeId) (z : Value) (ht : P.underlying t = some (.slice e)) (hv : ∀ w, (zeroValue e).run P w = .ok z w) (zs : List Value) (hz : (Builtin.zeroCells z.cells 1).toList = zs) (h1 : ∀ u ∈ zs, u.oneCell' = true)
    (g off c : Nat) (hx : a.eval x = .slice (some ⟨g, off, none⟩) 1 c) (cur : List Value) (t' : TypeId) (hg : w.heap[g]? = some (.cells cur.toArray t' (0, 0))) (hfit : off + zs.length ≤ cur.length)
    (X : Nat → Prop) (w0 : World) (hch : Chg X w0 w) (hX : X g ∨ w0.heap.size ≤ g)
    (h : ∀ w', Hid (w'.heap[g]? = some (.cells (splice cur off zs).toArray t' (0, 0))) → Hid (Chg X w0 w') → wpList P ops Q rest (a.put o.dst (.tuple #[])) w') : wpList P ops Q (o :: rest) a w := by
  refine wpList_plain hgd fun K hK => ?_
  have hrun := run_clear_wide (P := P) w t e o.type z ht hv zs hz h1 g off c cur t' hg hfit
  unfold Oper.wp
  simp [execOp, ho, resolve, invoke, builtin, hx, hrun, Result.andThen]
  exact hK _ _ (h _ (hide (setRow_heap w g _ _ t' _ hg)) (hide (hch.setRow hX _)))

/-- The row behind a deletion. -/
theorem del_row {α : Type} (L xs zs : List α) (a N s : Nat) (hx : L.take N = xs) (hl : xs.length = N) (hz : zs.length = s) (ha : a + s ≤ N) (hN : N ≤ L.length) :
    (splice (splice L a (xs.drop (a + s))) (N - s) zs).take (N - s) = xs.take a ++ xs.drop (a + s) := by
  have hd : (xs.drop (a + s)).length = N - (a + s) := by rw [List.length_drop, hl]
  have l1 : (splice L a (xs.drop (a + s))).length = L.length := length_splice _ _ _ (by omega)
  have hxg : ∀ j, j < N → xs[j]? = L[j]? := fun j hj => by rw [← hx, List.getElem?_take, if_pos hj]
  apply List.ext_getElem?
  intro j
  rw [List.getElem?_take, splice_get _ _ _ (by omega), List.getElem?_append, List.length_take, hl, Nat.min_eq_left (by omega : a ≤ N)]
  by_cases h1 : j < N - s
  · rw [if_pos h1, if_pos h1, splice_get _ _ _ (by omega)]
    by_cases h2 : j < a
    · rw [if_pos h2, if_pos h2, List.getElem?_take, if_pos h2, hxg j (by omega)]
    · rw [if_neg h2, if_neg h2, if_pos (by omega)]
  · rw [if_neg h1, if_neg (by omega)]
    symm
    rw [List.getElem?_eq_none_iff]
    omega

end Go.Proofs.YtnjalelblbjfiaaGreatDoor

namespace Go.Proofs.YtnjalelblbjfiaaGreatDoor
open Go.RowKit

theorem zerocI : (Builtin.zeroCells (Value.cells (.agg #[.int .i64 0, .pointer none])) 1).toList = [.int .i64 0, .pointer none] := by
  have e : (Value.cells (.agg #[.int .i64 0, .pointer none])) = #[.int .i64 0, .pointer none] := rfl
  rw [e]
  simp [Builtin.zeroCells, List.range, List.range.loop]

set_option maxRecDepth 100000 in
set_option maxHeartbeats 1000000 in
theorem sdelI_any (g m cap i : Nat) (xs : List Value) (w : World) (h : w.ownsRow 0 184 2 (.slice (some ⟨g, 0, none⟩) (m + 1) cap) (m + 1) xs) (hx1 : ∀ u ∈ xs, u.oneCell' = true) (hi : i ≤ m) (hn : m ≤ 199) :
    Calls Tryz.prog 97 #[.slice (some ⟨g, 0, none⟩) (m + 1) cap, .int .i64 i, .int .i64 ((i : Int) + 1)] w fun e w' => e = .returned (.slice (some ⟨g, 0, none⟩) m cap) ∧ w'.ownsRow 0 184 2 (.slice (some ⟨g, 0, none⟩) m cap) m (xs.take (i * 2) ++ xs.drop ((i + 1) * 2)) ∧ Chg (fun b => b = g) w w' ∧ ∀ j u, ([.int .i64 0, .pointer none] : List Value)[j]? = some u → w'.cell? ⟨g, m * 2 + j, none⟩ = some u := by
  obtain ⟨i0, hii, hz0, hzs, hzb⟩ := info_parts infoI
  obtain ⟨hxl, h2⟩ := h
  rcases h2 with ⟨hv, h0⟩ | ⟨g', cap', cur, hv, _, hg, hcap, hmax, hcs, htk⟩
  · cases hv
  have e1 : g' = g := by simpa using (by injection hv with a b c; exact (congrArg (fun o => o.map (·.block)) a).symm : some g' = some g)
  have e2 : cap' = cap := by injection hv with a b c; exact c.symm
  subst e1 e2
  clear hv
  have hcl : cur.toList.length = cap' * 2 := by rw [Array.length_toList]; exact hcs
  obtain ⟨D, hD⟩ : ∃ D, D = xs.drop ((i + 1) * 2) := ⟨_, rfl⟩
  have hDl : D.length = (m - i) * 2 := by rw [hD, List.length_drop, hxl]; omega
  have hDc : ∀ j v, D[j]? = some v → w.cell? ⟨g', (i + 1) * 2 + j, none⟩ = some v := fun j v hj => by
    rw [hD, List.getElem?_drop, ← htk, List.getElem?_take] at hj
    split at hj
    · exact cell_in_row hg hj
    · cases hj
  have hD1 : ∀ u ∈ D, u.oneCell' = true := fun u hu => hx1 u (by rw [hD] at hu; exact List.mem_of_mem_drop hu)
  have hrow : (splice (splice cur.toList (i * 2) D) (m * 2) [.int .i64 0, .pointer none]).take (m * 2) = xs.take (i * 2) ++ xs.drop ((i + 1) * 2) := by
    have := del_row cur.toList xs [.int .i64 0, .pointer none] (i * 2) ((m + 1) * 2) 2 htk hxl rfl (by omega) (by rw [hcl]; omega)
    rw [show (m + 1) * 2 - 2 = m * 2 by omega, show i * 2 + 2 = (i + 1) * 2 by omega, ← hD] at this
    rw [this, hD]
  have hl1 : (splice cur.toList (i * 2) D).length = cap' * 2 := by rw [length_splice _ _ _ (by omega), hcl]
  have hrl : (splice (splice cur.toList (i * 2) D) (m * 2) [.int .i64 0, .pointer none]).length = cap' * 2 := by rw [length_splice _ _ _ (by simp only [List.length_cons, List.length_nil]; omega), hl1]
  obtain ⟨ys, hys⟩ : ∃ ys, ys = xs.take (i * 2) ++ xs.drop ((i + 1) * 2) := ⟨_, rfl⟩
  have hyl : ys.length = m * 2 := by rw [hys]; simp only [List.length_append, List.length_take, List.length_drop, hxl]; omega
  rw [← hys] at hrow ⊢
  have HG : Hid (w.heap[g']? = some (.cells cur.toList.toArray 184 (0, 0))) := hide (by rw [hg])
  have HC := hide hcl
  have HDl := hide hDl
  have HDc := hide hDc
  have HD1 := hide hD1
  have HR := hide hrow
  have HRl := hide hrl
  have HL1 := hide hl1
  have HYl := hide hyl
  have hmx := hide hmax
  have hb : cap' ≤ 9223372036854775807 := by unfold maxLen at hmax; omega
  clear hg htk hxl hcs hcl hDl hDc hD1 hrow hrl hyl hys hD hx1 hmax hl1
  generalize cur.toList = C at *
  have q1 : (i : Int) ≤ (m : Int) := by omega
  have q2 : (m : Int) + 1 ≤ cap' := by omega
  have q3 : (0 : Int) ≤ (i : Int) + 1 := by omega
  have q4 : ((i : Int) + 1).toNat = i + 1 := by omega
  have q5 : ((m : Int) + 1).toNat = m + 1 := by omega
  have q6 : ¬ ((i : Int) = (i : Int) + 1) := by omega
  have q7 : (i : Int) ≤ cap' := by omega
  have q8 : ¬ (cap' = m) := by omega
  have q9 : ¬ (cap' = i) := by omega
  have q10 : (m : Int) ≤ (m : Int) + 1 := by omega
  have q11 : (i : Int) ≤ (i : Int) + 1 := by omega
  have q12 : (0 : Int) ≤ (m : Int) + 1 := by omega
  have hzv : ∀ w, (zeroValue 184).run Tryz.prog w = .ok (.agg #[.int .i64 0, .pointer none]) w := fun _ => by simp [zeroValue, typeInfo, hii, hz0]
  have HZV := hide hzv
  have hone : ∀ u ∈ ([.int .i64 0, .pointer none] : List Value), u.oneCell' = true := by simp [Value.oneCell']
  have HONE := hide hone
  have HFIN : Hid (∀ (W : World), W.heap[g']? = some (.cells (splice (splice C (i * 2) D) (m * 2) [.int .i64 0, .pointer none]).toArray 184 (0, 0)) → ∀ j u, ([.int .i64 0, .pointer none] : List Value)[j]? = some u → W.cell? ⟨g', m * 2 + j, none⟩ = some u) := hide fun W hW j u hj => by
    have hj' : j < ([.int .i64 0, .pointer none] : List Value).length := by
      rcases Nat.lt_or_ge j ([.int .i64 0, .pointer none] : List Value).length with h | h
      · exact h
      · rw [List.getElem?_eq_none h] at hj; cases hj
    refine cell_in_row hW ?_
    have hz : ([.int .i64 0, .pointer none] : List Value).length = 2 := rfl
    rw [splice_get _ _ _ (by rw [HL1.out, hz]; omega), if_neg (by omega), if_pos (by omega), Nat.add_sub_cancel_left]
    exact hj
  have HFIT : Hid (m * 2 + ([.int .i64 0, .pointer none] : List Value).length ≤ (splice C (i * 2) D).length) := hide (by rw [HL1.out]; simp only [List.length_cons, List.length_nil]; omega)
  clear hzv hone
  by_cases hc1 : cap' = i + 1
  · obtain rfl : m = i := by omega
    subst hc1
    clear q8 q9 q6 q1 q7 q11 hi
    have hD0 : D = [] := List.eq_nil_of_length_eq_zero (by rw [HDl.out]; omega)
    subst hD0
    go_enter Tryz.func97, Tryz.ntmps97
    go_wp2_with fail
    go_region_law (refine step_append_wide rfl _ _ 167 rfl 184 i0 2 underI hii hzs g' m (m + 1) (by simp [Act.eval, Act.put]) ⟨g', 0, none⟩ 0 0 [] (by simp [Act.eval, Act.put]) rfl (fun j u hj => by cases hj) HD1.out (by omega) C 184 HG.out (by rw [HDl.out, HC.out]; omega) (fun b => b = g') w (Chg.refl _ _).drew (.inl rfl) ?_; intro w1 G1 C1)
    go_wp2_with (refine wpList_clear_wide rfl _ 167 rfl 184 (.agg #[.int .i64 0, .pointer none]) underI HZV.out [.int .i64 0, .pointer none] zerocI HONE.out g' (m * 2) 1 rfl (splice C (m * 2) []) 184 G1.out HFIT.out (fun b => b = g') w C1.out (.inl rfl) ?_)
    intro w2 G2 C2
    go_wp2
    go_ret
    exact ⟨rfl, ⟨HYl.out, .inr ⟨g', (m + 1), _, rfl, Nat.zero_le _, G2.out, by omega, hmx.out, by rw [List.size_toArray]; exact HRl.out, HR.out⟩⟩, C2.out, HFIN.out w2 G2.out⟩
  · go_enter Tryz.func97, Tryz.ntmps97
    go_wp2_with fail
    go_region_law (refine step_append_wide rfl _ _ 167 rfl 184 i0 2 underI hii hzs g' i cap' (by simp [Act.eval, Act.put]) ⟨g', (i + 1) * 2, none⟩ (m - i) (cap' - (i + 1)) D (by simp [Act.eval, Act.put]) HDl.out (fun j u hj => by rw [Addr.add_lit]; exact HDc.out j u hj) HD1.out (by omega) C 184 HG.out (by rw [HDl.out, HC.out]; omega) (fun b => b = g') w (Chg.refl _ _).drew (.inl rfl) ?_; intro w1 G1 C1)
    have hmi : i + (m - i) = m := by omega
    go_wp2_with (refine wpList_clear_wide rfl _ 167 rfl 184 (.agg #[.int .i64 0, .pointer none]) underI HZV.out [.int .i64 0, .pointer none] zerocI HONE.out g' (m * 2) (cap' - m) rfl (splice C (i * 2) D) 184 G1.out HFIT.out (fun b => b = g') w C1.out (.inl rfl) ?_)
    intro w2 G2 C2
    go_wp2
    go_ret
    exact ⟨rfl, ⟨HYl.out, .inr ⟨g', cap', _, rfl, Nat.zero_le _, G2.out, by omega, hmx.out, by rw [List.size_toArray]; exact HRl.out, HR.out⟩⟩, C2.out, HFIN.out w2 G2.out⟩

end Go.Proofs.YtnjalelblbjfiaaGreatDoor

namespace Go.Proofs.YtnjalelblbjfiaaGreatDoor
open Go.RowKit

theorem zerocR : (Builtin.zeroCells (Value.cells (.agg #[.int .i64 0, .int .i64 0, .pointer none])) 1).toList = [.int .i64 0, .int .i64 0, .pointer none] := by
  have e : (Value.cells (.agg #[.int .i64 0, .int .i64 0, .pointer none])) = #[.int .i64 0, .int .i64 0, .pointer none] := rfl
  rw [e]
  simp [Builtin.zeroCells, List.range, List.range.loop]

set_option maxRecDepth 100000 in
set_option maxHeartbeats 1000000 in
theorem sdelR_any (g m cap i : Nat) (xs : List Value) (w : World) (h : w.ownsRow 0 189 3 (.slice (some ⟨g, 0, none⟩) (m + 1) cap) (m + 1) xs) (hx1 : ∀ u ∈ xs, u.oneCell' = true) (hi : i ≤ m) (hn : m ≤ 199) :
    Calls Tryz.prog 98 #[.slice (some ⟨g, 0, none⟩) (m + 1) cap, .int .i64 i, .int .i64 ((i : Int) + 1)] w fun e w' => e = .returned (.slice (some ⟨g, 0, none⟩) m cap) ∧ w'.ownsRow 0 189 3 (.slice (some ⟨g, 0, none⟩) m cap) m (xs.take (i * 3) ++ xs.drop ((i + 1) * 3)) ∧ Chg (fun b => b = g) w w' ∧ ∀ j u, ([.int .i64 0, .int .i64 0, .pointer none] : List Value)[j]? = some u → w'.cell? ⟨g, m * 3 + j, none⟩ = some u := by
  obtain ⟨i0, hii, hz0, hzs, hzb⟩ := info_parts infoR
  obtain ⟨hxl, h2⟩ := h
  rcases h2 with ⟨hv, h0⟩ | ⟨g', cap', cur, hv, _, hg, hcap, hmax, hcs, htk⟩
  · cases hv
  have e1 : g' = g := by simpa using (by injection hv with a b c; exact (congrArg (fun o => o.map (·.block)) a).symm : some g' = some g)
  have e2 : cap' = cap := by injection hv with a b c; exact c.symm
  subst e1 e2
  clear hv
  have hcl : cur.toList.length = cap' * 3 := by rw [Array.length_toList]; exact hcs
  obtain ⟨D, hD⟩ : ∃ D, D = xs.drop ((i + 1) * 3) := ⟨_, rfl⟩
  have hDl : D.length = (m - i) * 3 := by rw [hD, List.length_drop, hxl]; omega
  have hDc : ∀ j v, D[j]? = some v → w.cell? ⟨g', (i + 1) * 3 + j, none⟩ = some v := fun j v hj => by
    rw [hD, List.getElem?_drop, ← htk, List.getElem?_take] at hj
    split at hj
    · exact cell_in_row hg hj
    · cases hj
  have hD1 : ∀ u ∈ D, u.oneCell' = true := fun u hu => hx1 u (by rw [hD] at hu; exact List.mem_of_mem_drop hu)
  have hrow : (splice (splice cur.toList (i * 3) D) (m * 3) [.int .i64 0, .int .i64 0, .pointer none]).take (m * 3) = xs.take (i * 3) ++ xs.drop ((i + 1) * 3) := by
    have := del_row cur.toList xs [.int .i64 0, .int .i64 0, .pointer none] (i * 3) ((m + 1) * 3) 3 htk hxl rfl (by omega) (by rw [hcl]; omega)
    rw [show (m + 1) * 3 - 3 = m * 3 by omega, show i * 3 + 3 = (i + 1) * 3 by omega, ← hD] at this
    rw [this, hD]
  have hl1 : (splice cur.toList (i * 3) D).length = cap' * 3 := by rw [length_splice _ _ _ (by omega), hcl]
  have hrl : (splice (splice cur.toList (i * 3) D) (m * 3) [.int .i64 0, .int .i64 0, .pointer none]).length = cap' * 3 := by rw [length_splice _ _ _ (by simp only [List.length_cons, List.length_nil]; omega), hl1]
  obtain ⟨ys, hys⟩ : ∃ ys, ys = xs.take (i * 3) ++ xs.drop ((i + 1) * 3) := ⟨_, rfl⟩
  have hyl : ys.length = m * 3 := by rw [hys]; simp only [List.length_append, List.length_take, List.length_drop, hxl]; omega
  rw [← hys] at hrow ⊢
  have HG : Hid (w.heap[g']? = some (.cells cur.toList.toArray 189 (0, 0))) := hide (by rw [hg])
  have HC := hide hcl
  have HDl := hide hDl
  have HDc := hide hDc
  have HD1 := hide hD1
  have HR := hide hrow
  have HRl := hide hrl
  have HL1 := hide hl1
  have HYl := hide hyl
  have hmx := hide hmax
  have hb : cap' ≤ 9223372036854775807 := by unfold maxLen at hmax; omega
  clear hg htk hxl hcs hcl hDl hDc hD1 hrow hrl hyl hys hD hx1 hmax hl1
  generalize cur.toList = C at *
  have q1 : (i : Int) ≤ (m : Int) := by omega
  have q2 : (m : Int) + 1 ≤ cap' := by omega
  have q3 : (0 : Int) ≤ (i : Int) + 1 := by omega
  have q4 : ((i : Int) + 1).toNat = i + 1 := by omega
  have q5 : ((m : Int) + 1).toNat = m + 1 := by omega
  have q6 : ¬ ((i : Int) = (i : Int) + 1) := by omega
  have q7 : (i : Int) ≤ cap' := by omega
  have q8 : ¬ (cap' = m) := by omega
  have q9 : ¬ (cap' = i) := by omega
  have q10 : (m : Int) ≤ (m : Int) + 1 := by omega
  have q11 : (i : Int) ≤ (i : Int) + 1 := by omega
  have q12 : (0 : Int) ≤ (m : Int) + 1 := by omega
  have hzv : ∀ w, (zeroValue 189).run Tryz.prog w = .ok (.agg #[.int .i64 0, .int .i64 0, .pointer none]) w := fun _ => by simp [zeroValue, typeInfo, hii, hz0]
  have HZV := hide hzv
  have hone : ∀ u ∈ ([.int .i64 0, .int .i64 0, .pointer none] : List Value), u.oneCell' = true := by simp [Value.oneCell']
  have HONE := hide hone
  have HFIN : Hid (∀ (W : World), W.heap[g']? = some (.cells (splice (splice C (i * 3) D) (m * 3) [.int .i64 0, .int .i64 0, .pointer none]).toArray 189 (0, 0)) → ∀ j u, ([.int .i64 0, .int .i64 0, .pointer none] : List Value)[j]? = some u → W.cell? ⟨g', m * 3 + j, none⟩ = some u) := hide fun W hW j u hj => by
    have hj' : j < ([.int .i64 0, .int .i64 0, .pointer none] : List Value).length := by
      rcases Nat.lt_or_ge j ([.int .i64 0, .int .i64 0, .pointer none] : List Value).length with h | h
      · exact h
      · rw [List.getElem?_eq_none h] at hj; cases hj
    refine cell_in_row hW ?_
    have hz : ([.int .i64 0, .int .i64 0, .pointer none] : List Value).length = 3 := rfl
    rw [splice_get _ _ _ (by rw [HL1.out, hz]; omega), if_neg (by omega), if_pos (by omega), Nat.add_sub_cancel_left]
    exact hj
  have HFIT : Hid (m * 3 + ([.int .i64 0, .int .i64 0, .pointer none] : List Value).length ≤ (splice C (i * 3) D).length) := hide (by rw [HL1.out]; simp only [List.length_cons, List.length_nil]; omega)
  clear hzv hone
  by_cases hc1 : cap' = i + 1
  · obtain rfl : m = i := by omega
    subst hc1
    clear q8 q9 q6 q1 q7 q11 hi
    have hD0 : D = [] := List.eq_nil_of_length_eq_zero (by rw [HDl.out]; omega)
    subst hD0
    go_enter Tryz.func98, Tryz.ntmps98
    go_wp2_with fail
    go_region_law (refine step_append_wide rfl _ _ 170 rfl 189 i0 3 underR hii hzs g' m (m + 1) (by simp [Act.eval, Act.put]) ⟨g', 0, none⟩ 0 0 [] (by simp [Act.eval, Act.put]) rfl (fun j u hj => by cases hj) HD1.out (by omega) C 189 HG.out (by rw [HDl.out, HC.out]; omega) (fun b => b = g') w (Chg.refl _ _).drew (.inl rfl) ?_; intro w1 G1 C1)
    go_wp2_with (refine wpList_clear_wide rfl _ 170 rfl 189 (.agg #[.int .i64 0, .int .i64 0, .pointer none]) underR HZV.out [.int .i64 0, .int .i64 0, .pointer none] zerocR HONE.out g' (m * 3) 1 rfl (splice C (m * 3) []) 189 G1.out HFIT.out (fun b => b = g') w C1.out (.inl rfl) ?_)
    intro w2 G2 C2
    go_wp2
    go_ret
    exact ⟨rfl, ⟨HYl.out, .inr ⟨g', (m + 1), _, rfl, Nat.zero_le _, G2.out, by omega, hmx.out, by rw [List.size_toArray]; exact HRl.out, HR.out⟩⟩, C2.out, HFIN.out w2 G2.out⟩
  · go_enter Tryz.func98, Tryz.ntmps98
    go_wp2_with fail
    go_region_law (refine step_append_wide rfl _ _ 170 rfl 189 i0 3 underR hii hzs g' i cap' (by simp [Act.eval, Act.put]) ⟨g', (i + 1) * 3, none⟩ (m - i) (cap' - (i + 1)) D (by simp [Act.eval, Act.put]) HDl.out (fun j u hj => by rw [Addr.add_lit]; exact HDc.out j u hj) HD1.out (by omega) C 189 HG.out (by rw [HDl.out, HC.out]; omega) (fun b => b = g') w (Chg.refl _ _).drew (.inl rfl) ?_; intro w1 G1 C1)
    have hmi : i + (m - i) = m := by omega
    go_wp2_with (refine wpList_clear_wide rfl _ 170 rfl 189 (.agg #[.int .i64 0, .int .i64 0, .pointer none]) underR HZV.out [.int .i64 0, .int .i64 0, .pointer none] zerocR HONE.out g' (m * 3) (cap' - m) rfl (splice C (i * 3) D) 189 G1.out HFIT.out (fun b => b = g') w C1.out (.inl rfl) ?_)
    intro w2 G2 C2
    go_wp2
    go_ret
    exact ⟨rfl, ⟨HYl.out, .inr ⟨g', cap', _, rfl, Nat.zero_le _, G2.out, by omega, hmx.out, by rw [List.size_toArray]; exact HRl.out, HR.out⟩⟩, C2.out, HFIN.out w2 G2.out⟩

end Go.Proofs.YtnjalelblbjfiaaGreatDoor
