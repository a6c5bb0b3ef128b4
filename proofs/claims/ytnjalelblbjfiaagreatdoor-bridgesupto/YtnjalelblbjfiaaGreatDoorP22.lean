import Derived.Test.YtnjalelblbjfiaaGreatDoorP21
import Derived.Test.YtnjalelblbjfiaaGreatDoorP10
import Derived.Test.YtnjalelblbjfiaaGreatDoorShelf
import Derived.Deep.RegionHeld3
namespace Go.Proofs.YtnjalelblbjfiaaGreatDoor
open Go.RowKit

theorem infoP : (Tryz.prog.info? 308).map (fun i => (i.zero, i.size, i.bytes)) = some (some (.agg #[.int .i64 0, .string ByteArray.empty, .int .i64 0, .int .i64 0]), 4, 40) := by kernel_rfl
theorem underP : Tryz.prog.underlying 303 = some (.slice 308) := by kernel_rfl
theorem sizeP : (Tryz.prog.info? 308).map (·.size) = some 4 := by kernel_rfl

set_option maxRecDepth 100000 in
set_option maxHeartbeats 1000000 in
theorem insP_end (sv : Value) (n : Nat) (xs : List Value) (vb : Nat) (vs : List Value) (w : World) (h : w.ownsRow 0 308 4 sv n xs) (hn : n ≤ 199) (hvl : vs.length = 4) (hvs : ∀ j u, vs[j]? = some u → w.cell? ⟨vb, j, none⟩ = some u) (h1 : ∀ u ∈ vs, u.oneCell' = true) :
    Calls Tryz.prog 221 #[sv, .int .i64 n, .slice (some ⟨vb, 0, none⟩) 1 1] w (InsPost 308 4 sv n (xs ++ vs) w) := by
  obtain ⟨i0, hi, hz0, hz1, hz2⟩ := info_parts infoP
  have H := hide h
  have HV := hide hvs
  have hnn : (n : Int) ≤ 199 := by omega
  rcases h.2 with ⟨hv, h0⟩ | ⟨g, cap, cur, hv, _, hg, hcap, hmax, hcs, htk⟩
  · subst hv h0
    clear h hvs
    go_enter Tryz.func221, Tryz.ntmps221
    go_wp2_with (first | (at_builtin; refine wpList_append_lies _ rfl _ _ 303 rfl 0 308 i0 (.agg #[.int .i64 0, .string ByteArray.empty, .int .i64 0, .int .i64 0]) 4 40 underP hi hz0 hz1 hz2 rfl (by decide) _ 0 xs rfl H.out ⟨vb, 0, none⟩ 1 1 vs rfl (by rw [hvl]) (fun j u hj => by rw [Addr.add_lit, Nat.zero_add]; exact HV.out j u hj) h1 (by decide) (by unfold maxLen; omega) (by omega) (Nat.zero_le _) _ rfl ?_))
    intro g1 cap1 w1 hown1 hgrow1 hat1 hlt1
    have P1 := hide (show InsPost 308 4 (.slice none 0 0) 0 (xs ++ vs) w (.returned (.slice (some ⟨g1, 0, none⟩) 1 cap1)) w1 from ⟨g1, cap1, rfl, hown1, by rcases hat1 with e | e; exact .inl e; exact .inr (by omega), Chg.grown hgrow1 fun _ e => e⟩)
    clear hown1 hgrow1 hat1
    go_wp2
    go_ret
    exact P1.out
  · subst hv
    clear h hvs htk hcs hg
    have hb : cap ≤ 9223372036854775807 := by unfold maxLen at hmax; omega
    have hcn : (n : Int) ≤ cap := by omega
    go_enter Tryz.func221, Tryz.ntmps221
    go_wp2_with (first | (at_builtin; refine wpList_append_lies _ rfl _ _ 303 rfl 0 308 i0 (.agg #[.int .i64 0, .string ByteArray.empty, .int .i64 0, .int .i64 0]) 4 40 underP hi hz0 hz1 hz2 rfl (by decide) _ n xs rfl H.out ⟨vb, 0, none⟩ 1 1 vs rfl (by rw [hvl]) (fun j u hj => by rw [Addr.add_lit, Nat.zero_add]; exact HV.out j u hj) h1 (by decide) (by unfold maxLen; omega) (by omega) (Nat.zero_le _) _ rfl ?_))
    all_goals
      intro g1 cap1 w1 hown1 hgrow1 hat1 hlt1
      have P1 := hide (show InsPost 308 4 (.slice (some ⟨g, 0, none⟩) n cap) n (xs ++ vs) w (.returned (.slice (some ⟨g1, 0, none⟩) (n + 1) cap1)) w1 from ⟨g1, cap1, rfl, hown1, by rcases hat1 with e | e; exact .inl e; exact .inr (by omega), Chg.grown hgrow1 fun _ e => e⟩)
      clear hown1 hgrow1 hat1
      go_wp2
      go_ret
      exact P1.out

set_option maxRecDepth 100000 in
set_option maxHeartbeats 1000000 in
theorem insP_room (g n cap i : Nat) (cur : Array Value) (xs : List Value) (vb : Nat) (tv : TypeId) (kv : Nat) (vs : List Value) (w : World) (hg : w.heap[g]? = some (.cells cur 308 (0, 0))) (hmax : cap ≤ maxLen) (hcs : cur.size = cap * 4) (hxl : xs.length = n * 4) (htk : cur.toList.take (n * 4) = xs) (hx1 : ∀ u ∈ xs, u.oneCell' = true)
    (hi : i < n) (hroom : n + 1 ≤ cap) (hn : n ≤ 199) (hvl : vs.length = 4) (hvs : ∀ j u, vs[j]? = some u → w.cell? ⟨vb, j, none⟩ = some u) (h1 : ∀ u ∈ vs, u.oneCell' = true) (hvb : vb ≠ g) (hsa : w.shape? vb = some (tv, kv)) (hfv : ∀ j, w.frozen? ⟨vb, j, none⟩ = false) :
    Calls Tryz.prog 221 #[.slice (some ⟨g, 0, none⟩) n cap, .int .i64 i, .slice (some ⟨vb, 0, none⟩) 1 1] w (InsPost 308 4 (.slice (some ⟨g, 0, none⟩) n cap) n (xs.take (i * 4) ++ vs ++ xs.drop (i * 4)) w) := by
  have hsb : w.shape? g = some (308, cur.size) := by simp [World.shape?, hg]
  have hov : ∀ lb cb, (callFunc 233 #[.slice (some ⟨vb, 0, none⟩) 1 1, .slice (some ⟨g, (i + 1) * 4, none⟩) lb cb]).run Tryz.prog w = .ok (.value (.bool false)) w := fun lb cb => by
    rw [run_callFunc_extern Tryz.func233 (by kernel_rfl) (by kernel_rfl) (by kernel_rfl) (e := Extern.SlicesOverlaps.overlaps #[303, 303] #[4]) (by kernel_rfl),
      Lib.run_overlaps_apart w 303 4 308 underP 4 (fun _ => rfl) ⟨vb, 0, none⟩ ⟨g, (i + 1) * 4, none⟩ 1 1 lb cb hvb tv 308 kv cur.size hsa hsb (by omega) (hfv _) (hfv _)]
    rfl
  have hb : cap ≤ 9223372036854775807 := by unfold maxLen at hmax; omega
  have hcn : (n : Int) ≤ cap := by omega
  have hcn1 : (n : Int) + 1 ≤ cap := by omega
  have hz2 : ¬ ((i : Int) = (n : Int)) := by omega
  have hin : (i : Int) < n := by omega
  have hnc : ¬ ((cap : Int) < (n : Int) + 1) := by omega
  have hci : ¬ (cap = i) := by omega
  have hci1 : ¬ (cap = i + 1) := by omega
  have hw1 : IntKind.i64.wrap ((i : Int) + 1) = (i : Int) + 1 := by rw [IntKind.wrap_i64]; omega
  have hw2 : IntKind.i64.wrap ((n : Int) + 1) = (n : Int) + 1 := by rw [IntKind.wrap_i64]; omega
  have htn : ((i : Int) + 1).toNat = i + 1 := by omega
  have htn2 : ((n : Int) + 1).toNat = n + 1 := by omega
  have hb1 : (0 : Int) ≤ (i : Int) + 1 := by omega
  have hb2 : i ≤ n := by omega
  have hb3 : (i : Int) ≤ (n : Int) + 1 := by omega
  have hcl : cur.toList.length = cap * 4 := by rw [Array.length_toList]; exact hcs
  obtain ⟨D, hD⟩ : ∃ D, D = xs.drop (i * 4) := ⟨_, rfl⟩
  have hDl : D.length = (n - i) * 4 := by rw [hD, List.length_drop, hxl]; omega
  have hDc : ∀ j v, D[j]? = some v → w.cell? ⟨g, i * 4 + j, none⟩ = some v := fun j v hj => by
    rw [hD, List.getElem?_drop, ← htk, List.getElem?_take] at hj
    split at hj
    · exact cell_in_row hg hj
    · cases hj
  have hD1 : ∀ u ∈ D, u.oneCell' = true := fun u hu => hx1 u (by rw [hD] at hu; exact List.mem_of_mem_drop hu)
  have hrow : (splice (splice cur.toList ((i + 1) * 4) D) (i * 4) vs).take ((n + 1) * 4) = xs.take (i * 4) ++ vs ++ xs.drop (i * 4) := by
    rw [show (i + 1) * 4 = i * 4 + 4 by omega, show (n + 1) * 4 = n * 4 + 4 by omega, hD]
    exact ins_room cur.toList xs vs (i * 4) (n * 4) 4 htk hxl hvl (by omega) (by rw [hcl]; omega)
  have hrl : (splice (splice cur.toList ((i + 1) * 4) D) (i * 4) vs).length = cap * 4 := by
    rw [length_splice _ _ _ (by rw [length_splice _ _ _ (by omega)]; omega), length_splice _ _ _ (by omega), hcl]
  obtain ⟨ys, hys⟩ : ∃ ys, ys = xs.take (i * 4) ++ vs ++ xs.drop (i * 4) := ⟨_, rfl⟩
  have hyl : ys.length = (n + 1) * 4 := by rw [hys]; simp only [List.length_append, List.length_take, List.length_drop, hxl, hvl]; omega
  rw [← hys] at hrow ⊢
  have HG : Hid (w.heap[g]? = some (.cells cur.toList.toArray 308 (0, 0))) := hide (by rw [hg])
  have HV := hide hvs
  have HC := hide hcl
  have HDl := hide hDl
  have HDc := hide hDc
  have HD1 := hide hD1
  have HR := hide hrow
  have HRl := hide hrl
  have HYl := hide hyl
  clear hg hvs htk hxl hcs hsb hcl hDl hDc hD1 hrow hrl hyl hys hD
  generalize cur.toList = C at *
  have hmx := hide hmax
  clear hmax
  go_enter Tryz.func221, Tryz.ntmps221
  go_wp2_with (simp only [hov])
  go_region_law (refine step_copy_wide rfl _ _ 303 303 rfl 308 4 underP sizeP g ((i + 1) * 4) (n - i) (cap - (i + 1)) ⟨g, i * 4, none⟩ (n + 1 - i) (cap - i) (by simp [Act.eval, Act.put]) (by simp [Act.eval, Act.put]) C 308 HG.out D (n - i) (by simp only [Nat.min_def]; split <;> omega) HDl.out (fun j v hj => by rw [Addr.add_lit]; exact HDc.out j v hj) (by rw [HDl.out, HC.out]; omega) HD1.out (fun b => b = g) w (Chg.refl _ _).drew (.inl rfl) ?_; intro w1 G1 C1 O1)
  have HV1 : Hid (∀ j u, vs[j]? = some u → w1.cell? ⟨vb, j, none⟩ = some u) := hide fun j u hj => (World.cell?_of_block (w := w) (a := ⟨vb, j, none⟩) (O1.out vb hvb)).trans (HV.out j u hj)
  have HL1 : Hid (i * 4 + vs.length ≤ (splice C ((i + 1) * 4) D).length) := hide (by rw [length_splice _ _ _ (by rw [HDl.out, HC.out]; omega), HC.out, hvl]; omega)
  go_wp2_with (refine wpList_copy_wide rfl _ _ 303 303 rfl 308 4 underP sizeP g (i * 4) (n + 1 - i) (cap - i) ⟨vb, 0, none⟩ 1 1 rfl rfl (splice C ((i + 1) * 4) D) 308 G1.out vs 1 (by simp only [Nat.min_def]; split <;> omega) (by rw [hvl]) (fun j v hj => by rw [Addr.add_lit, Nat.zero_add]; exact HV1.out j v hj) HL1.out h1 (fun b => b = g) w C1.out (.inl rfl) ?_)
  intro w2 G2 C2 O2
  go_wp2
  go_ret
  exact ⟨g, cap, rfl, ⟨HYl.out, .inr ⟨g, cap, _, rfl, Nat.zero_le _, G2.out, hroom, hmx.out, by rw [List.size_toArray]; exact HRl.out, HR.out⟩⟩, .inl rfl, C2.out.mono fun x _ hx => by subst hx; rfl⟩

theorem cells_zeroP : (Value.cells (.agg #[.int .i64 0, .string ByteArray.empty, .int .i64 0, .int .i64 0])).size = 4 := rfl

set_option maxRecDepth 100000 in
set_option maxHeartbeats 1000000 in
theorem insP_grow (g n cap i : Nat) (cur : Array Value) (xs : List Value) (vb : Nat) (vs : List Value) (w : World) (hg : w.heap[g]? = some (.cells cur 308 (0, 0))) (hxl : xs.length = n * 4) (htk : cur.toList.take (n * 4) = xs) (hx1 : ∀ u ∈ xs, u.oneCell' = true)
    (hi : i < n) (hnc0 : n ≤ cap) (hroom : cap < n + 1) (hn : n ≤ 199) (hvl : vs.length = 4) (hvs : ∀ j u, vs[j]? = some u → w.cell? ⟨vb, j, none⟩ = some u) (h1 : ∀ u ∈ vs, u.oneCell' = true) :
    Calls Tryz.prog 221 #[.slice (some ⟨g, 0, none⟩) n cap, .int .i64 i, .slice (some ⟨vb, 0, none⟩) 1 1] w (InsPost 308 4 (.slice (some ⟨g, 0, none⟩) n cap) n (xs.take (i * 4) ++ vs ++ xs.drop (i * 4)) w) := by
  obtain rfl : cap = n := by omega
  obtain ⟨i0, hii, hz0, hzs, hzb⟩ := info_parts infoP
  have hglt : g < w.heap.size := (Array.getElem?_eq_some_iff.1 hg).1
  have hvlt : vb < w.heap.size := by
    obtain ⟨u, hu⟩ : ∃ u, vs[0]? = some u := ⟨_, List.getElem?_eq_getElem (by omega)⟩
    exact block_lt_of_cell (hvs 0 u hu)
  obtain ⟨D, hD⟩ : ∃ D, D = xs.drop (i * 4) := ⟨_, rfl⟩
  have hDl : D.length = (cap - i) * 4 := by rw [hD, List.length_drop, hxl]; omega
  have hDc : ∀ j v, D[j]? = some v → w.cell? ⟨g, i * 4 + j, none⟩ = some v := fun j v hj => by
    rw [hD, List.getElem?_drop, ← htk, List.getElem?_take] at hj
    split at hj
    · exact cell_in_row hg hj
    · cases hj
  have hD1 : ∀ u ∈ D, u.oneCell' = true := fun u hu => hx1 u (by rw [hD] at hu; exact List.mem_of_mem_drop hu)
  have hold : (Builtin.firstCells i0.size i (.slice (some ⟨g, 0, none⟩) i cap)).run Tryz.prog w.drew = .ok (xs.take (i * 4)).toArray w.drew := by
    rw [hzs]
    exact run_firstCells_some w.drew 4 i ⟨g, 0, none⟩ i cap (xs.take (i * 4)) (by rw [List.length_take]; omega) (fun j v hj => by
      rw [Addr.add_lit, Nat.zero_add]
      rw [List.getElem?_take] at hj
      split at hj
      · rw [← htk, List.getElem?_take] at hj
        split at hj
        · exact cell_in_row hg hj
        · cases hj
      · cases hj)
  have hik : i + (cap + 1 - i) = cap + 1 := by omega
  have hkk : (cap : Int) + 1 - (i : Int) = ((cap + 1 - i : Nat) : Int) := by omega
  obtain ⟨G, hG⟩ : ∃ G, G = grownCap w (cap + 1) cap 308 := ⟨_, rfl⟩
  obtain ⟨ROW, hROW⟩ : ∃ ROW : Array Value, ROW = (xs.take (i * 4)).toArray ++ Builtin.zeroCells (Value.cells (.agg #[.int .i64 0, .string ByteArray.empty, .int .i64 0, .int .i64 0])) (cap + 1 - i) ++ Builtin.zeroCells (Value.cells (.agg #[.int .i64 0, .string ByteArray.empty, .int .i64 0, .int .i64 0])) (G - (cap + 1)) := ⟨_, rfl⟩
  obtain ⟨W1, hW1⟩ : ∃ W1, W1 = w.drew.alloc (.cells ROW 308) := ⟨_, rfl⟩
  have hrz : ∀ ty, (Builtin.append_ #[303, 3] ty #[.slice (some ⟨g, 0, none⟩) i cap, .int .i64 ((cap : Int) + 1 - (i : Int))]).run Tryz.prog w = .ok (.slice (some ⟨w.heap.size, 0, none⟩) (cap + 1) G) W1 := fun ty => by
    have h := Lib.run_append_grow_zeros w 303 3 ty 308 i0 _ .i64 .i64 underP (by kernel_rfl) hii hz0 (some ⟨g, 0, none⟩) i cap (xs.take (i * 4)) hold (cap + 1 - i) (by omega) (by omega) (by omega) (by omega) (by rw [hzb]; omega) (by rw [hzb, hik]; exact growslice_fits hroom (by omega))
    rw [hik] at h
    rw [hkk, hW1, hROW, hG]
    exact h
  have hGn : cap + 1 ≤ G := by rw [hG]; exact grownCap_ge w _ _ _
  have hGm : G ≤ maxLen := by rw [hG]; exact grownCap_le_maxLen w (cap + 1) cap 308 (by unfold maxLen; omega)
  have hG63 : G ≤ 9223372036854775807 := by unfold maxLen at hGm; omega
  have hRs : ROW.toList.length = G * 4 := by
    rw [hROW]
    simp only [Builtin.zeroCells, cells_zeroP, Array.toList_append, List.length_append, Array.length_toList, Array.size_map, Array.size_range, List.length_take]
    omega
  have hRt : ROW.toList.take (i * 4) = xs.take (i * 4) := by
    rw [hROW, Array.toList_append, Array.toList_append, List.append_assoc, List.take_append_of_le_length (by rw [List.length_take]; omega), List.take_take, Nat.min_self]
  have hrow : (splice (splice ROW.toList (i * 4) vs) ((i + 1) * 4) D).take ((cap + 1) * 4) = xs.take (i * 4) ++ vs ++ xs.drop (i * 4) := by
    rw [show (i + 1) * 4 = i * 4 + 4 by omega, show (cap + 1) * 4 = cap * 4 + 4 by omega, hD]
    exact ins_grow ROW.toList xs vs (i * 4) (cap * 4) 4 hRt hxl hvl (by omega) (by rw [hRs]; omega)
  have hl1 : (splice ROW.toList (i * 4) vs).length = G * 4 := by rw [length_splice _ _ _ (by omega), hRs]
  have hrl : (splice (splice ROW.toList (i * 4) vs) ((i + 1) * 4) D).length = G * 4 := by rw [length_splice _ _ _ (by omega), hl1]
  obtain ⟨ys, hys⟩ : ∃ ys, ys = xs.take (i * 4) ++ vs ++ xs.drop (i * 4) := ⟨_, rfl⟩
  have hyl : ys.length = (cap + 1) * 4 := by rw [hys]; simp only [List.length_append, List.length_take, List.length_drop, hxl, hvl]; omega
  rw [← hys] at hrow ⊢
  obtain ⟨N, hN⟩ : ∃ N, N = w.heap.size := ⟨_, rfl⟩
  have HG : Hid (W1.heap[N]? = some (.cells ROW.toList.toArray 308 (0, 0))) := hide (by rw [hW1, hN]; exact (by simp : (w.heap.push (Obj.cells ROW 308))[w.heap.size]? = some (Obj.cells ROW.toList.toArray 308)))
  have HO : Hid (∀ k, k < N → W1.heap[k]? = w.heap[k]?) := hide fun k hk => by rw [hW1]; exact ((Below.refl w.heap.size w.drew).alloc (Nat.le_refl _) _).block k (by omega)
  have HCh : Hid (Chg (fun b => b = g) w W1) := hide (by rw [hW1]; exact (Chg.refl _ w).drew.alloc _)
  rw [← hN] at hrz hglt hvlt
  have HV1 : Hid (∀ j u, vs[j]? = some u → W1.cell? ⟨vb, j, none⟩ = some u) := hide fun j u hj => (World.cell?_of_block (w := w) (a := ⟨vb, j, none⟩) (HO.out vb hvlt)).trans (hvs j u hj)
  have HD2 : Hid (∀ j v, D[j]? = some v → W1.cell? ⟨g, i * 4 + j, none⟩ = some v) := hide fun j v hj => (World.cell?_of_block (w := w) (a := ⟨g, i * 4 + j, none⟩) (HO.out g hglt)).trans (hDc j v hj)
  have HDl := hide hDl
  have HD1 := hide hD1
  have HR := hide hrow
  have HRl := hide hrl
  have HRs := hide hRs
  have HL1 := hide hl1
  have HYl := hide hyl
  have HGm := hide hGm
  have HN := hide hN
  have hgN : g ≠ N := by omega
  clear hg hvs htk hxl hDl hDc hD1 hrow hrl hyl hys hD hold hik hkk hROW hRs hRt hl1 hW1 hG hGm hN HO hx1
  generalize ROW.toList = C at *
  have hb : cap ≤ 9223372036854775807 := by omega
  have hz2 : ¬ ((i : Int) = (cap : Int)) := by omega
  have hin : (i : Int) < cap := by omega
  have hnc : (cap : Int) < (cap : Int) + 1 := by omega
  have hci : ¬ (cap = i) := by omega
  have hGi : ¬ (G = i) := by omega
  have hGi1 : ¬ (G = i + 1) := by omega
  have hw1 : IntKind.i64.wrap ((i : Int) + 1) = (i : Int) + 1 := by rw [IntKind.wrap_i64]; omega
  have hw2 : IntKind.i64.wrap ((cap : Int) + 1) = (cap : Int) + 1 := by rw [IntKind.wrap_i64]; omega
  have hw3 : IntKind.i64.wrap ((cap : Int) + 1 - (i : Int)) = (cap : Int) + 1 - (i : Int) := by rw [IntKind.wrap_i64]; omega
  have htn : ((i : Int) + 1).toNat = i + 1 := by omega
  have hb1 : (0 : Int) ≤ (i : Int) + 1 := by omega
  have hb2 : i ≤ cap := by omega
  have hb3 : (i : Int) ≤ (cap : Int) + 1 := by omega
  go_enter Tryz.func221, Tryz.ntmps221
  go_wp2_with (first | (at_builtin; refine Lib.wpList_append_run _ rfl _ _ 303 3 rfl _ _ rfl rfl _ _ (hrz _) ?_) | (refine wpList_copy_wide rfl _ _ 303 303 rfl 308 4 underP sizeP N (i * 4) (cap + 1 - i) (G - i) ⟨vb, 0, none⟩ 1 1 rfl rfl C 308 HG.out vs 1 (by simp only [Nat.min_def]; split <;> omega) (by rw [hvl]) (fun j v hj => by rw [Addr.add_lit, Nat.zero_add]; exact HV1.out j v hj) (by rw [HRs.out, hvl]; omega) h1 (fun b => b = g) w HCh.out (.inr (Nat.le_of_eq HN.out.symm)) ?_))
  intro w1 G1 C1 O1
  have HD3 : Hid (∀ j v, D[j]? = some v → w1.cell? ⟨g, i * 4 + j, none⟩ = some v) := hide fun j v hj => (World.cell?_of_block (w := W1) (a := ⟨g, i * 4 + j, none⟩) (O1.out g hgN)).trans (HD2.out j v hj)
  go_wp2
  go_region_law (refine step_copy_wide rfl _ _ 303 303 rfl 308 4 underP sizeP N ((i + 1) * 4) (cap - i) (G - (i + 1)) ⟨g, i * 4, none⟩ (cap - i) (cap - i) (by simp [Act.eval, Act.put]) (by simp [Act.eval, Act.put]) (splice C (i * 4) vs) 308 G1.out D (cap - i) (by simp only [Nat.min_def]; split <;> omega) HDl.out (fun j v hj => by rw [Addr.add_lit]; exact HD3.out j v hj) (by rw [HDl.out, HL1.out]; omega) HD1.out (fun b => b = g) w C1.out.drew (.inr (Nat.le_of_eq HN.out.symm)) ?_; intro w2 G2 C2 O2)
  go_wp2
  go_ret
  exact ⟨N, G, rfl, ⟨HYl.out, .inr ⟨N, G, _, rfl, Nat.zero_le _, G2.out, hGn, HGm.out, by rw [List.size_toArray]; exact HRl.out, HR.out⟩⟩, .inr (Nat.le_of_eq HN.out.symm), C2.out.mono fun x _ hx => by subst hx; rfl⟩

/-- slices.Insert of one element. -/
theorem insP_any (sv : Value) (n i : Nat) (xs : List Value) (vb : Nat) (tv : TypeId) (kv : Nat) (vs : List Value) (w : World) (h : w.ownsRow 0 308 4 sv n xs) (hx1 : ∀ u ∈ xs, u.oneCell' = true) (hi : i ≤ n) (hn : n ≤ 199) (hvl : vs.length = 4)
    (hvs : ∀ j u, vs[j]? = some u → w.cell? ⟨vb, j, none⟩ = some u) (h1 : ∀ u ∈ vs, u.oneCell' = true) (hvb : sv.ownBlock ≠ some vb) (hsa : w.shape? vb = some (tv, kv)) (hfv : ∀ j, w.frozen? ⟨vb, j, none⟩ = false) :
    Calls Tryz.prog 221 #[sv, .int .i64 i, .slice (some ⟨vb, 0, none⟩) 1 1] w (InsPost 308 4 sv n (xs.take (i * 4) ++ vs ++ xs.drop (i * 4)) w) := by
  by_cases hin : i = n
  · subst hin
    have e1 : xs.take (i * 4) = xs := List.take_of_length_le (by rw [h.1]; exact Nat.le_refl _)
    have e2 : xs.drop (i * 4) = [] := List.drop_eq_nil_of_le (by rw [h.1]; exact Nat.le_refl _)
    rw [e1, e2, List.append_nil]
    exact insP_end sv i xs vb vs w h hn hvl hvs h1
  · have h' := h
    rcases h.2 with ⟨hv, h0⟩ | ⟨g, cap, cur, hv, _, hg, hcap, hmax, hcs, htk⟩
    · omega
    · subst hv
      by_cases hr : n + 1 ≤ cap
      · exact insP_room g n cap i cur xs vb tv kv vs w hg hmax hcs h'.1 htk hx1 (by omega) hr hn hvl hvs h1 (fun e => hvb (by rw [e]; rfl)) hsa hfv
      · exact insP_grow g n cap i cur xs vb vs w hg h'.1 htk hx1 (by omega) hcap (by omega) hn hvl hvs h1

end Go.Proofs.YtnjalelblbjfiaaGreatDoor

namespace Go.Proofs.YtnjalelblbjfiaaGreatDoor
open Go.RowKit
open Go.Sort (grow)

/-- A map of places; without entries it has no array. -/
def MapQ (w : World) (m : Nat) (sv : Value) (K : List Mc) : Prop := MapP w m sv K ∧ (K = [] → sv = .slice none 0 0)
theorem MapQ.head {w : World} {m : Nat} {sv : Value} {K : List Mc} (h : MapQ w m sv K) {g : Nat} (hg : sv.ownBlock = some g) : (∃ v, w.cell? ⟨g, 0, none⟩ = some (.int .i64 v)) ∧ g < w.heap.size ∧ m ≠ g := by
  have h0 : 0 < K.length := by
    rcases Nat.eq_zero_or_pos K.length with e | e
    · rw [h.2 (List.eq_nil_of_length_eq_zero e)] at hg
      cases hg
    · exact e
  obtain ⟨a, cap, g', rfl, hc⟩ := rowP_cells h.1.2.2.1
  obtain ⟨rfl, c0, _⟩ := hc 0 h0
  obtain rfl : g' = g := by simpa [Value.ownBlock] using hg
  rw [Nat.zero_mul] at c0
  refine ⟨⟨_, c0⟩, block_lt_of_cell c0, ?_⟩
  rintro rfl
  have := h.1.1
  rw [c0] at this
  cases this
theorem MapQ.below {w w' : World} {m : Nat} {sv : Value} {K : List Mc} (h : MapQ w m sv K) (hb : Below w.heap.size w w') : MapQ w' m sv K := ⟨h.1.below hb, h.2⟩
theorem rowP_one (K : List Mc) : ∀ u ∈ rowP K, u.oneCell' = true := by
  intro u hu
  obtain ⟨r, _, h⟩ := List.mem_flatMap.1 hu
  simp only [List.mem_cons, List.not_mem_nil, or_false] at h
  rcases h with h | h | h | h <;> (rw [h]; rfl)
theorem rowP_take (K : List Mc) (k : Nat) (hk : k ≤ K.length) : (rowP K).take (k * 4) = rowP (K.take k) := by
  have h := rowP_append (K.take k) (K.drop k)
  rw [List.take_append_drop] at h
  have hl : (rowP (K.take k)).length = k * 4 := by rw [rowP_length, List.length_take, Nat.min_eq_left hk]
  rw [h, ← hl, List.take_left]
theorem rowP_drop (K : List Mc) (k : Nat) (hk : k ≤ K.length) : (rowP K).drop (k * 4) = rowP (K.drop k) := by
  have h := rowP_append (K.take k) (K.drop k)
  rw [List.take_append_drop] at h
  have hl : (rowP (K.take k)).length = k * 4 := by rw [rowP_length, List.length_take, Nat.min_eq_left hk]
  rw [h, ← hl, List.drop_left]

theorem ownsRow_set {w : World} {B : Nat} {t : TypeId} {s n g cap : Nat} {xs : List Value} (h : w.ownsRow B t s (.slice (some ⟨g, 0, none⟩) n cap) n xs) {j : Nat} (_hj : j < n * s) (v : Value) : (w.setCell ⟨g, j, none⟩ v).ownsRow B t s (.slice (some ⟨g, 0, none⟩) n cap) n (xs.set j v) := by
  refine ⟨by rw [List.length_set]; exact h.1, ?_⟩
  rcases h.2 with ⟨e, _⟩ | ⟨g', cap', cur, e, hb, hg, hc, hm, hsz, htk⟩
  · cases e
  · cases e
    refine .inr ⟨g, cap, cur.setIfInBounds j v, rfl, hb, heap_setCell_same w g j cur t v hg, hc, hm, by simpa using hsz, ?_⟩
    rw [Array.toList_setIfInBounds, ← htk, List.take_set]
theorem ownsRow_frozen {w : World} {B : Nat} {t : TypeId} {s n g cap : Nat} {xs : List Value} (h : w.ownsRow B t s (.slice (some ⟨g, 0, none⟩) n cap) n xs) (j : Nat) : w.frozen? ⟨g, j, none⟩ = false := by
  rcases h.2 with ⟨e, _⟩ | ⟨g', cap', cur, e, hb, hg, hc, hm, hsz, htk⟩
  · cases e
  · cases e
    simp [World.frozen?, hg]
theorem rowP_set : ∀ (K : List Mc) (i : Nat) (hi : i < K.length) (e : Mc), e.vlan = K[i].vlan → e.mac = K[i].mac → rowP (K.set i e) = ((rowP K).set (i * 4 + 2) (.int .i64 e.port)).set (i * 4 + 3) (.int .i64 e.age)
  | [], i, hi, _, _, _ => absurd hi (by simp)
  | p :: t, 0, _, e, h1, h2 => by
    have a : e.vlan = p.vlan := h1
    have b : e.mac = p.mac := h2
    simp [rowP, a, b]
  | p :: t, i + 1, hi, e, h1, h2 => by
    have ih := rowP_set t i (by simpa using hi) e h1 h2
    have e1 : (i + 1) * 4 + 2 = (i * 4 + 2) + 1 + 1 + 1 + 1 := by omega
    have e2 : (i + 1) * 4 + 3 = (i * 4 + 3) + 1 + 1 + 1 + 1 := by omega
    rw [e1, e2]
    show _ :: _ :: _ :: _ :: rowP (t.set i e) = _
    rw [ih]
    rfl

/-- What Put leaves. -/
def PutQ (m : Nat) (sv : Value) (K : List Mc) (e0 : Mc) (w w3 : World) : Prop :=
  ∃ sv' K', MapQ w3 m sv' K' ∧ SortedP K' ∧ (∀ q, q ∈ K' ↔ q = e0 ∨ (q ∈ K ∧ cmpM q e0.vlan e0.mac ≠ 0)) ∧ K'.length = (if (known K e0.vlan e0.mac).isSome then K.length else K.length + 1) ∧ (∀ b, sv'.ownBlock = some b → sv.ownBlock = some b ∨ w.heap.size ≤ b) ∧ Chg (fun b => b = m ∨ sv.ownBlock = some b) w w3

theorem PutQ.drew {m : Nat} {sv : Value} {K : List Mc} {e0 : Mc} {w w3 : World} (h : PutQ m sv K e0 w w3) : PutQ m sv K e0 w w3.drew := by
  obtain ⟨sv', K', h1, h2, h3, h4, h5, h6⟩ := h
  exact ⟨sv', K', h1, h2, h3, h4, h5, h6.drew⟩

theorem cmpM_flip {a b : Mc} (h : 0 < cmpM a b.vlan b.mac) : cmpM b a.vlan a.mac < 0 := by
  unfold cmpM at *
  rw [cmpPl_neg]
  have n1 : ¬ (cmpPl a.vlan a.mac.toList b.vlan b.mac.toList < 0) := by omega
  have n2 : ¬ (cmpPl a.vlan a.mac.toList b.vlan b.mac.toList = 0) := by omega
  rw [cmpPl_neg] at n1
  rw [cmpPl_zero] at n2
  rcases Int.lt_trichotomy a.vlan b.vlan with h1 | h1 | h1
  · exact absurd (.inl h1) n1
  · refine .inr ⟨h1.symm, ?_⟩
    rcases bytesLess_tri a.mac.toList b.mac.toList with h2 | h2 | h2
    · exact absurd (.inr ⟨h1, h2⟩) n1
    · exact absurd ⟨h1, h2⟩ n2
    · exact h2
  · exact .inl h1

theorem putP_ins (m : Nat) (a : Option Addr) (cap i : Nat) (K : List Mc) (e0 : Mc) (w w1 W : World) (hM : MapQ w m (.slice a K.length cap) K) (hs : SortedP K) (hn : K.length ≤ 199) (hi : i ≤ K.length)
    (hL : ∀ j, j < i → cmpM (kAt K j) e0.vlan e0.mac < 0) (hR : ∀ j, i ≤ j → j < K.length → 0 ≤ cmpM (kAt K j) e0.vlan e0.mac) (hno : ¬ (i < K.length ∧ cmpM (kAt K i) e0.vlan e0.mac = 0)) (hb : Below w.heap.size w w1) (BW : Below w1.heap.size w1 W) (hWn : W.heap[w1.heap.size]? = some (.cells #[.int .i64 e0.vlan, .string e0.mac, .int .i64 e0.port, .int .i64 e0.age] 308 (0, 0))) :
    Calls Tryz.prog 221 #[.slice a K.length cap, .int .i64 i, .slice (some ⟨w1.heap.size, 0, none⟩) 1 1] W fun e w2 => ∃ g2 cap2, e = .returned (.slice (some ⟨g2, 0, none⟩) (K.length + 1) cap2) ∧ w2.cell? ⟨m, 1, none⟩ = some (.slice a K.length cap) ∧ w2.frozen? ⟨m, 1, none⟩ = false ∧ (∀ b j v, w.heap.size ≤ b → w1.cell? ⟨b, j, none⟩ = some v → w2.cell? ⟨b, j, none⟩ = some v) ∧ PutQ m (.slice a K.length cap) K e0 w (w2.setCell ⟨m, 1, none⟩ (.slice (some ⟨g2, 0, none⟩) (K.length + 1) cap2)) := by
  have hhd := fun g hg => hM.head (g := g) hg
  have hpos := after_pos hR hs hno
  have hkn : known K e0.vlan e0.mac = none := by rw [known_get hL hR hs, dif_neg hno]
  obtain ⟨⟨h0, h1, h2, h3, h4⟩, _⟩ := hM
  have hmlt : m < w.heap.size := block_lt_of_cell h0
  have hne : ∀ b, (Value.slice a K.length cap).ownBlock = some b → m ≠ b := fun b hb => (hhd b hb).2.2
  have hlt : ∀ b, (Value.slice a K.length cap).ownBlock = some b → b < w.heap.size := fun b hb => (hhd b hb).2.1
  have hsz := hb.size
  have hm1 : m < w1.heap.size := by omega
  have hWs := BW.size
  have oW : W.ownsRow 0 308 4 (.slice a K.length cap) K.length (rowP K) := ownsRow_keep h2 fun b hb' => (BW.block b (by have := hlt b hb'; omega)).trans (hb.block b (hlt b hb'))
  refine (insP_any (.slice a K.length cap) K.length i (rowP K) w1.heap.size 308 4 [.int .i64 e0.vlan, .string e0.mac, .int .i64 e0.port, .int .i64 e0.age] W oW (rowP_one K) hi hn rfl
    (fun j u hj => cell_in_row hWn hj) (by simp [Value.oneCell']) (fun hb' => by have : w1.heap.size < w.heap.size := hlt _ hb'; omega) (by simp [World.shape?, hWn]) (fun j => by simp [World.frozen?, hWn])).mono ?_
  rintro e w2 ⟨g2, cap2, rfl, hown2, hat2, hch2⟩
  have hb2 : w2.heap[m]? = w.heap[m]? := (hch2.block m (by omega) fun h => hne m h rfl).trans ((BW.block m hm1).trans (hb.block m hmlt))
  have hc2 : ∀ j, w2.cell? ⟨m, j, none⟩ = w.cell? ⟨m, j, none⟩ := fun j => World.cell?_of_block (a := ⟨m, j, none⟩) hb2
  have hf2 : ∀ j, w2.frozen? ⟨m, j, none⟩ = false := fun j => (World.frozen?_of_block (a := ⟨m, j, none⟩) hb2).trans (h3 j)
  have hlen : (K.take i ++ e0 :: K.drop i).length = K.length + 1 := length_ins e0 hi
  have hrow : (rowP K).take (i * 4) ++ [.int .i64 e0.vlan, .string e0.mac, .int .i64 e0.port, .int .i64 e0.age] ++ (rowP K).drop (i * 4) = rowP (K.take i ++ e0 :: K.drop i) := by
    rw [rowP_take K i hi, rowP_drop K i hi, rowP_append]; simp [rowP]
  rw [hrow] at hown2
  have hgm : m ≠ g2 := by
    rcases hat2 with h | h
    · exact hne _ h
    · omega
  refine ⟨g2, cap2, rfl, (hc2 1).trans h1, hf2 1, fun b j v hb' hc => ?_, ?_⟩
  · have hlt' : b < w1.heap.size := block_lt_of_cell hc
    exact (World.cell?_of_block (a := ⟨b, j, none⟩) ((hch2.block b (by omega) fun h => by have := hlt b h; omega).trans (BW.block b hlt'))).trans hc
  · refine ⟨.slice (some ⟨g2, 0, none⟩) (K.length + 1) cap2, K.take i ++ e0 :: K.drop i, ⟨⟨?_, ?_, ?_, fun j => ?_, by omega⟩, fun e => by simp at e⟩, ?_, fun q => ?_, by rw [hlen, hkn]; rfl, ?_, ?_⟩
    · rw [World.cell?_setCell_other _ _ _ _ (by simp)]; exact (hc2 0).trans h0
    · exact World.cell?_setCell_same _ _ _ ((hc2 1).trans h1)
    · rw [hlen]
      refine ownsRow_keep hown2 fun g hg => ?_
      obtain rfl : g2 = g := by simpa [Value.ownBlock] using hg
      exact Below.heap_setCell _ _ _ _ (Ne.symm hgm)
    · rw [World.frozen?_setCell]; exact hf2 j
    · refine pw_ins i e0 hs (fun x hx => ?_) (fun x hx => ?_)
      · obtain ⟨j, hj, rfl⟩ := List.getElem_of_mem hx
        rw [List.length_take] at hj
        rw [List.getElem_take]
        have := hL j (by omega)
        rwa [kAt_eq (by omega)] at this
      · obtain ⟨j, hj, rfl⟩ := List.getElem_of_mem hx
        rw [List.length_drop] at hj
        rw [List.getElem_drop]
        have := hpos (i + j) (by omega) (by omega)
        rw [kAt_eq (by omega)] at this
        exact cmpM_flip this
    · rw [mem_ins]
      refine or_congr Iff.rfl ⟨fun h => ⟨h, ?_⟩, fun h => h.1⟩
      obtain ⟨j, hj, rfl⟩ := List.getElem_of_mem h
      rw [← kAt_eq hj]
      rcases Nat.lt_or_ge j i with h' | h'
      · have := hL j h'; omega
      · have := hpos j h' hj; omega
    · intro b hb
      obtain rfl : g2 = b := by simpa [Value.ownBlock] using hb
      rcases hat2 with h | h
      · exact .inl h
      · exact .inr (by omega)
    · refine Chg.setCell ?_ (.inl (.inl rfl)) _
      exact (Chg.of_below hb).trans ((Chg.of_below BW).trans (hch2.mono fun x _ hx => .inr hx))

/-- An entry has been given a new value in place. -/
theorem putP_set {m g cap i : Nat} {K : List Mc} {e0 : Mc} {w w1 : World} (hM : MapQ w m (.slice (some ⟨g, 0, none⟩) K.length cap) K) (hs : SortedP K) (hi : i < K.length) (hz : cmpM (kAt K i) e0.vlan e0.mac = 0) (hb : Below w.heap.size w w1) :
    PutQ m (.slice (some ⟨g, 0, none⟩) K.length cap) K e0 w ((w1.setCell ⟨g, i * 4 + 2, none⟩ (.int .i64 e0.port)).setCell ⟨g, i * 4 + 3, none⟩ (.int .i64 e0.age)) := by
  obtain ⟨_, hglt, hne⟩ := hM.head (g := g) rfl
  have hM1 := hM.below hb
  obtain ⟨⟨h0, h1, h2, h3, h4⟩, _⟩ := hM1
  rw [kAt_eq hi] at hz
  have hz' := hz
  unfold cmpM at hz'
  rw [cmpPl_zero] at hz'
  have e1 : e0.vlan = K[i].vlan := hz'.1.symm
  have e2 : e0.mac = K[i].mac := (ba_ext hz'.2).symm
  have hkn : (known K e0.vlan e0.mac).isSome = true := by
    rw [known, List.find?_isSome]
    exact ⟨K[i], List.getElem_mem hi, cmpM_zero.1 hz⟩
  have ho := ownsRow_set (ownsRow_set h2 (j := i * 4 + 2) (by omega) (.int .i64 e0.port)) (j := i * 4 + 3) (by omega) (.int .i64 e0.age)
  rw [← rowP_set K i hi e0 e1 e2] at ho
  have hother : ∀ j, ((w1.setCell ⟨g, i * 4 + 2, none⟩ (.int .i64 e0.port)).setCell ⟨g, i * 4 + 3, none⟩ (.int .i64 e0.age)).cell? ⟨m, j, none⟩ = w1.cell? ⟨m, j, none⟩ := fun j => by
    rw [set_other (.inl (Ne.symm hne)), set_other (.inl (Ne.symm hne))]
  have hcmp : ∀ q : Mc, cmpM e0 q.vlan q.mac = cmpM K[i] q.vlan q.mac ∧ cmpM q e0.vlan e0.mac = cmpM q K[i].vlan K[i].mac := fun q => by
    unfold cmpM
    rw [e1, e2]
    exact ⟨rfl, rfl⟩
  have hpw := List.pairwise_iff_getElem.1 hs
  refine ⟨.slice (some ⟨g, 0, none⟩) K.length cap, K.set i e0, ⟨⟨(hother 0).trans h0, (hother 1).trans h1, ?_, fun j => by rw [World.frozen?_setCell, World.frozen?_setCell]; exact h3 j, by rw [List.length_set]; exact h4⟩, fun e => ?_⟩, ?_, fun q => ?_, by rw [List.length_set, if_pos hkn], fun b hb => .inl hb, ?_⟩
  · rw [List.length_set]; exact ho
  · have := congrArg List.length e
    rw [List.length_set] at this
    exact absurd hi (by rw [this]; simp)
  · refine List.pairwise_iff_getElem.2 ?_
    intro a b ha hb hab
    rw [List.length_set] at ha hb
    rw [List.getElem_set, List.getElem_set]
    split
    · rename_i e
      rw [if_neg (by omega)]
      rw [(hcmp _).1]
      exact hpw i b hi hb (by omega)
    · split
      · rename_i e
        rw [(hcmp _).2]
        exact hpw a i ha hi (by omega)
      · exact hpw a b ha hb hab
  · constructor
    · intro hq
      obtain ⟨j, hj, rfl⟩ := List.getElem_of_mem hq
      rw [List.length_set] at hj
      rw [List.getElem_set]
      split
      · exact .inl rfl
      · rename_i hne
        refine .inr ⟨List.getElem_mem hj, ?_⟩
        rw [(hcmp _).2]
        rcases Nat.lt_or_ge j i with h' | h'
        · have := hpw j i hj hi h'; omega
        · have h3 := hpw i j hi hj (by omega)
          intro e
          unfold cmpM at h3 e
          rw [cmpPl_zero] at e
          rw [e.1, e.2, cmpPl_neg, bytesLess_irrefl] at h3
          simp at h3
    · rintro (rfl | ⟨hq, hne⟩)
      · exact List.mem_set hi _
      · obtain ⟨j, hj, rfl⟩ := List.getElem_of_mem hq
        have hji : i ≠ j := by
          rintro rfl
          exact hne hz
        have h5 : (K.set i e0)[j]'(by rw [List.length_set]; exact hj) = K[j] := by rw [List.getElem_set, if_neg hji]
        rw [← h5]
        exact List.getElem_mem _
  · exact Chg.setCell (Chg.setCell (Chg.of_below hb) (.inl (.inr rfl)) _) (.inl (.inr rfl)) _

set_option maxRecDepth 100000 in
set_option maxHeartbeats 1000000 in
theorem putP_any (m : Nat) (sv : Value) (K : List Mc) (e0 : Mc) (w : World) (hm : MapQ w m sv K) (hs : SortedP K) (hn : K.length ≤ 199) :
    Calls Tryz.prog 199 #[.pointer (some ⟨m, 0, none⟩), .agg #[.int .i64 e0.vlan, .string e0.mac], .agg #[.int .i64 e0.port, .int .i64 e0.age]] w fun e w' => e = .returned (.tuple #[]) ∧ PutQ m sv K e0 w w' := by
  have hmlt : m < w.heap.size := block_lt_of_cell hm.1.1
  obtain ⟨w0, hw0⟩ : ∃ w0, w0 = (w.alloc (.cells #[.int .i64 e0.vlan, .string e0.mac] 236)).alloc (.cells #[.int .i64 e0.port, .int .i64 e0.age] 238) := ⟨_, rfl⟩
  have hb0 : Below w.heap.size w w0 := by rw [hw0]; exact ((Below.refl _ w).alloc (Nat.le_refl _) _).alloc (by rw [alloc_size]; omega) _
  have hs0 : w0.heap.size = w.heap.size + 2 := by rw [hw0, alloc_size, alloc_size]
  have hm0 : MapQ w0 m sv K := hm.below hb0
  have b0 : w0.heap[w.heap.size]? = some (.cells #[.int .i64 e0.vlan, .string e0.mac] 236 (0, 0)) := by
    rw [hw0]; exact (((Below.refl _ (w.alloc (.cells #[.int .i64 e0.vlan, .string e0.mac] 236))).alloc (Nat.le_refl _) _).block _ (by rw [alloc_size]; omega)).trans (alloc_new _ _)
  have b1 : w0.heap[w.heap.size + 1]? = some (.cells #[.int .i64 e0.port, .int .i64 e0.age] 238 (0, 0)) := by
    rw [hw0, ← alloc_size w (.cells #[.int .i64 e0.vlan, .string e0.mac] 236)]; exact alloc_new _ _
  have c0 : w0.cell? ⟨w.heap.size, 0, none⟩ = some (.int .i64 e0.vlan) := cell_in_row b0 rfl
  have c1 : w0.cell? ⟨w.heap.size, 1, none⟩ = some (.string e0.mac) := cell_in_row b0 rfl
  have c2 : w0.cell? ⟨w.heap.size + 1, 0, none⟩ = some (.int .i64 e0.port) := cell_in_row b1 rfl
  have c3 : w0.cell? ⟨w.heap.size + 1, 1, none⟩ = some (.int .i64 e0.age) := cell_in_row b1 rfl
  have CP := hide (placeP_any m sv K e0.vlan e0.mac w0 hm0.1 hs)
  obtain ⟨a, cap, g, rfl, hc⟩ := rowP_cells hm.1.2.2.1
  have CI := hide fun i (hi : i ≤ K.length) hL hR hno w1 hb W => putP_ins m a cap i K e0 w w1 W hm hs hn hi hL hR hno hb
  have h1 := hm0.1.2.1
  have HB0 := hide hb0
  have HW0 := hide hw0
  have HM := hide hm
  have HC := hide hc
  clear hm hm0 hc hb0 b0 b1
  go_enter Tryz.func199, Tryz.ntmps199
  go_wp2_with fail
  rw [← HW0.out]
  refine CP.out.mono ?_
  rintro e w1 ⟨i, hi, hL, hR, rfl, hb⟩
  have k1 := cell_later hb h1
  have kb0 := cell_later hb c0
  have kb1 := cell_later hb c1
  have kb2 := cell_later hb c2
  have kb3 := cell_later hb c3
  have hsz := hb.size
  have hmlt1 : m < w1.heap.size := by omega
  have hbx : w.heap.size < w1.heap.size := by omega
  have hby : w.heap.size + 1 < w1.heap.size := by omega
  have hmx : ¬ m = w.heap.size := by omega
  have hmy : ¬ m = w.heap.size + 1 := by omega
  by_cases h : i < K.length ∧ cmpM (kAt K i) e0.vlan e0.mac = 0
  · have hx : (decide (i < K.length) && (cmpM (kAt K i) e0.vlan e0.mac == 0)) = true := by
      rw [Bool.and_eq_true, decide_eq_true_eq, beq_iff_eq]; exact h
    have hbb := HB0.out.trans (hb.mono (by omega))
    obtain ⟨hik, hz⟩ := h
    obtain ⟨rfl, d0, d1, d2, d3⟩ := HC.out i hik
    have HS := hide (putP_set (i := i) HM.out hs hik hz hbb)
    have l2 := cell_later hbb d2
    have l3 := cell_later hbb d3
    have ff := ownsRow_frozen (HM.out.below hbb).1.2.2.1
    have f2 : w1.frozen? ⟨g, i * 4 + 2, none⟩ = false := ff _
    have f3 : w1.frozen? ⟨g, i * 4 + 3, none⟩ = false := ff _
    have hglt := (HM.out.head (g := g) rfl).2.1
    have hgx : ¬ g = w.heap.size := by omega
    have hgy : ¬ g = w.heap.size + 1 := by omega
    clear ff
    clear CP CI hL hR hb h1 c0 c1 c2 c3 HW0 HB0 hbb d0 d1 d2 d3
    go_wp2_with fail
    go_region_with fail
    all_goals go_wp2_with fail
    all_goals refine bodyPost_ret (results_none rfl _ _ _) rfl ?_
    all_goals exact ⟨rfl, HS.out.drew⟩
  · have hx : (decide (i < K.length) && (cmpM (kAt K i) e0.vlan e0.mac == 0)) = false := by
      rw [← Bool.not_eq_true, Bool.and_eq_true, decide_eq_true_eq, beq_iff_eq]; exact h
    have CJ := hide (CI.out i hi hL hR h w1 (HB0.out.trans (hb.mono (by omega))))
    clear CP hL hR hb h1 c0 c1 c2 c3 CI h HW0 HB0
    go_wp2_with fail
    go_region_with
      (first | (go_at_call 221; refine (CJ.out _ ?_ ?_).mono ?_; (first | exact ((Below.refl _ w1).alloc (Nat.le_refl _) _).drew | exact ((Below.refl _ w1).drew).alloc (Nat.le_refl _) _); (exact alloc_new w1 _); rintro e w2 ⟨g2, cap2, rfl, m1, mf, mb, hp⟩; have j0 := mb _ _ _ (Nat.le_refl _) kb0; have j1 := mb _ _ _ (Nat.le_refl _) kb1; have j2 := mb _ _ _ (Nat.le_succ _) kb2; have j3 := mb _ _ _ (Nat.le_succ _) kb3; have HP := hide hp; clear hp mb))
    all_goals go_end0
    all_goals exact ⟨rfl, HP.out⟩

end Go.Proofs.YtnjalelblbjfiaaGreatDoor

namespace Go.Proofs.YtnjalelblbjfiaaGreatDoor
open Go.RowKit
open Go.Sort (grow)

/-- Known holds a map of places. -/
def KnownAt (w : World) (k m : Nat) (sv : Value) (K : List Mc) : Prop := w.cell? ⟨k, 0, none⟩ = some (.pointer (some ⟨m, 0, none⟩)) ∧ (∀ j, w.frozen? ⟨k, j, none⟩ = false) ∧ MapQ w m sv K ∧ SortedP K
theorem KnownAt.below {w w' : World} {k m : Nat} {sv : Value} {K : List Mc} (h : KnownAt w k m sv K) (hb : Below w.heap.size w w') : KnownAt w' k m sv K :=
  ⟨cell_later hb h.1, fun j => (World.frozen?_of_block (a := ⟨k, j, none⟩) (hb.block k (block_lt_of_cell h.1))).trans (h.2.1 j), h.2.2.1.below hb, h.2.2.2⟩

theorem clone_any (s : ByteArray) (w : World) (hl : s.size ≤ 281474976710656) : Calls Tryz.prog 143 #[.string s] w fun e w' => e = .returned (.string s) ∧ Below w.heap.size w w' := by
  have C := hide (fun W => Tryz.stringslite_Clone s W hl)
  go_enter Tryz.func143, Tryz.ntmps143
  go_wp2_with fail
  refine (C.out _).mono ?_
  rintro e w1 ⟨rfl, hb⟩
  go_wp2_with fail
  go_ret
  exact ⟨rfl, hb⟩

/-- The port that is told of a place. -/
def portOf (o : Option Mc) : Int := match o with | some e => e.port | none => 0
set_option maxRecDepth 100000 in
theorem mPort_any (k m : Nat) (sv : Value) (K : List Mc) (x : Int) (b : ByteArray) (w : World) (h : KnownAt w k m sv K) :
    Calls Tryz.prog 118 #[.pointer (some ⟨k, 0, none⟩), .int .i64 x, .string b] w fun e w' => e = .returned (.tuple #[.int .i64 (portOf (known K x b)), .bool (known K x b).isSome]) ∧ Below w.heap.size w w' := by
  have C := hide (getP_any m sv K x b w h.2.2.1.1 h.2.2.2)
  have h0 := h.1
  obtain ⟨p, a, hv⟩ : ∃ p a, seenV (known K x b) = .agg #[.int .i64 p, .int .i64 a] ∧ p = portOf (known K x b) := by
    cases known K x b with
    | none => exact ⟨_, _, rfl, rfl⟩
    | some e => exact ⟨_, _, rfl, rfl⟩
  obtain ⟨hv, hp⟩ := hv
  rw [hv] at C
  rw [← hp]
  clear hv hp h
  go_enter Tryz.func118, Tryz.ntmps118
  go_wp2_with fail
  refine C.out.mono ?_
  rintro e w1 ⟨rfl, hb⟩
  go_wp2_with fail
  go_ret2
  exact ⟨rfl, hb.alloc hb.size _⟩

theorem noPlaces_any (w : World) : Calls Tryz.prog 102 #[] w fun e w' => e = .returned (.pointer (some ⟨w.heap.size, 0, none⟩)) ∧ w' = w.alloc (.cells #[.func (.func 167) #[] #[], .slice none 0 0] 305) := by
  have C := hide (newP_any w)
  go_enter Tryz.func102, Tryz.ntmps102
  go_wp2_with fail
  refine C.out.mono ?_
  rintro e w1 ⟨rfl, rfl⟩
  go_wp2_with fail
  go_ret
  exact ⟨rfl, rfl⟩

theorem frz_row {w : World} {b : Nat} {c : Array Value} {t : TypeId} (h : w.heap[b]? = some (.cells c t (0, 0))) (j : Nat) : w.frozen? ⟨b, j, none⟩ = false := by
  unfold World.frozen?; simp only [h]; rfl

theorem mapQ_new (w : World) : MapQ (w.alloc (.cells #[.func (.func 167) #[] #[], .slice none 0 0] 305)) w.heap.size (.slice none 0 0) [] := by
  have b := alloc_new w (.cells #[.func (.func 167) #[] #[], .slice none 0 0] 305)
  refine ⟨⟨cell_in_row b rfl, cell_in_row b rfl, ⟨rfl, .inl ⟨rfl, rfl⟩⟩, fun j => frz_row b j, by simp⟩, fun _ => rfl⟩

end Go.Proofs.YtnjalelblbjfiaaGreatDoor

namespace Go.Proofs.YtnjalelblbjfiaaGreatDoor
open Go.RowKit
open Go.Sort (grow)

/-- What PutWithin leaves. -/
def PutW (m : Nat) (sv : Value) (K : List Mc) (e0 : Mc) (ok : Bool) (w w3 : World) : Prop :=
  if ok = true then PutQ m sv K e0 w w3 else Below w.heap.size w w3

theorem known_at {K : List Mc} {x : Int} {b : ByteArray} {i : Nat} (hL : ∀ j, j < i → cmpM (kAt K j) x b < 0) (hR : ∀ j, i ≤ j → j < K.length → 0 ≤ cmpM (kAt K j) x b) (hs : SortedP K) :
    (decide (i < K.length) && (cmpM (kAt K i) x b == 0)) = (known K x b).isSome := by
  rw [known_get hL hR hs]
  by_cases h : i < K.length ∧ cmpM (kAt K i) x b = 0
  · rw [dif_pos h]
    simp [h.1, h.2]
  · rw [dif_neg h]
    simp only [Option.isSome_none]
    rw [← Bool.not_eq_true, Bool.and_eq_true, decide_eq_true_eq, beq_iff_eq]
    exact h

theorem putQ_from {m : Nat} {sv : Value} {K : List Mc} {e0 : Mc} {w W w3 : World} (hB : Below w.heap.size w W) (hP : PutQ m sv K e0 W w3) : PutQ m sv K e0 w w3 := by
  obtain ⟨sv', K', h1, h2, h3, h4, h5, h6⟩ := hP
  exact ⟨sv', K', h1, h2, h3, h4, fun b hb => (h5 b hb).imp id fun h' => Nat.le_trans hB.size h', (Chg.of_below hB).trans h6⟩

set_option maxRecDepth 100000 in
set_option maxHeartbeats 1000000 in
theorem putWP_any (m : Nat) (sv : Value) (K : List Mc) (e0 : Mc) (most : Int) (w : World) (hm : MapQ w m sv K) (hs : SortedP K) (hn : K.length ≤ 199) :
    Calls Tryz.prog 170 #[.pointer (some ⟨m, 0, none⟩), .int .i64 most, .agg #[.int .i64 e0.vlan, .string e0.mac], .agg #[.int .i64 e0.port, .int .i64 e0.age]] w fun e w' => ∃ ok : Bool, ok = ((known K e0.vlan e0.mac).isSome || decide ((K.length : Int) < most)) ∧ e = .returned (.bool ok) ∧ PutW m sv K e0 ok w w' := by
  have hmlt : m < w.heap.size := block_lt_of_cell hm.1.1
  obtain ⟨w0, hw0⟩ : ∃ w0, w0 = (w.alloc (.cells #[.int .i64 e0.vlan, .string e0.mac] 236)).alloc (.cells #[.int .i64 e0.port, .int .i64 e0.age] 238) := ⟨_, rfl⟩
  have hb0 : Below w.heap.size w w0 := by rw [hw0]; exact ((Below.refl _ w).alloc (Nat.le_refl _) _).alloc (by rw [alloc_size]; omega) _
  have hs0 : w0.heap.size = w.heap.size + 2 := by rw [hw0, alloc_size, alloc_size]
  have hm0 : MapQ w0 m sv K := hm.below hb0
  have b0 : w0.heap[w.heap.size]? = some (.cells #[.int .i64 e0.vlan, .string e0.mac] 236 (0, 0)) := by
    rw [hw0]; exact (((Below.refl _ (w.alloc (.cells #[.int .i64 e0.vlan, .string e0.mac] 236))).alloc (Nat.le_refl _) _).block _ (by rw [alloc_size]; omega)).trans (alloc_new _ _)
  have b1 : w0.heap[w.heap.size + 1]? = some (.cells #[.int .i64 e0.port, .int .i64 e0.age] 238 (0, 0)) := by
    rw [hw0, ← alloc_size w (.cells #[.int .i64 e0.vlan, .string e0.mac] 236)]; exact alloc_new _ _
  have c0 : w0.cell? ⟨w.heap.size, 0, none⟩ = some (.int .i64 e0.vlan) := cell_in_row b0 rfl
  have c1 : w0.cell? ⟨w.heap.size, 1, none⟩ = some (.string e0.mac) := cell_in_row b0 rfl
  have c2 : w0.cell? ⟨w.heap.size + 1, 0, none⟩ = some (.int .i64 e0.port) := cell_in_row b1 rfl
  have c3 : w0.cell? ⟨w.heap.size + 1, 1, none⟩ = some (.int .i64 e0.age) := cell_in_row b1 rfl
  have CP := hide (placeP_any m sv K e0.vlan e0.mac w0 hm0.1 hs)
  have h1 := hm0.1.2.1
  have HB0 := hide hb0
  have HW0 := hide hw0
  have HM := hide hm
  clear hm hm0 hb0 b0 b1
  go_enter Tryz.func170, Tryz.ntmps170
  go_wp2_with fail
  rw [← HW0.out]
  refine CP.out.mono ?_
  rintro e w1 ⟨i, hi, hL, hR, rfl, hb⟩
  rw [known_at hL hR hs]
  have kb0 := cell_later hb c0
  have kb1 := cell_later hb c1
  have kb2 := cell_later hb c2
  have kb3 := cell_later hb c3
  have hsz := hb.size
  have hB1 : Hid (Below w.heap.size w w1) := hide (HB0.out.trans (hb.mono (by omega)))
  have CQ := hide fun (W : World) (h : Below w.heap.size w W) => putP_any m sv K e0 W (HM.out.below h) hs hn
  obtain ⟨a0, cap, g, rfl, hcs⟩ := rowP_cells HM.out.1.2.2.1
  have CLn := hide (lenP_any m a0 K.length cap w1 (HM.out.below hB1.out).1.2.1)
  clear hcs hL hR hb h1 c0 c1 c2 c3 HW0 HB0 CP
  cases hk : (known K e0.vlan e0.mac).isSome with
  | true =>
    have HK := hide hk
    clear hk
    go_wp2_with fail
    refine (CQ.out _ hB1.out).mono ?_
    rintro e w2 ⟨rfl, hp⟩
    have HP := hide (putQ_from hB1.out hp)
    clear hp
    go_wp2_with fail
    go_ret
    exact ⟨true, by rw [HK.out]; rfl, rfl, HP.out⟩
  | false =>
    have HK := hide hk
    clear hk
    go_wp2_with fail
    refine CLn.out.mono ?_
    rintro e w2 ⟨rfl, rfl⟩
    by_cases hlen : (K.length : Int) < most
    · have hle : ¬ most ≤ (K.length : Int) := by omega
      have HLE := hide hlen
      clear hlen
      go_wp2_with fail
      refine (CQ.out _ hB1.out).mono ?_
      rintro e w3 ⟨rfl, hp⟩
      have HP := hide (putQ_from hB1.out hp)
      clear hp
      go_wp2_with fail
      go_ret
      exact ⟨true, by rw [HK.out]; exact (decide_eq_true HLE.out).symm, rfl, HP.out⟩
    · have hle : most ≤ (K.length : Int) := by omega
      have HLE := hide hlen
      clear hlen
      go_wp2_with fail
      go_ret
      exact ⟨false, by rw [HK.out]; exact (decide_eq_false (Int.not_lt.2 HLE.out)).symm, rfl, hB1.out⟩

/-- What Learn leaves. -/
def LearnQ (k m : Nat) (sv : Value) (K : List Mc) (e0 : Mc) (w w3 : World) : Prop :=
  ∃ sv' K', KnownAt w3 k m sv' K' ∧ (if (known K e0.vlan e0.mac).isSome || decide (K.length < 64) then (∀ q, q ∈ K' ↔ q = e0 ∨ (q ∈ K ∧ cmpM q e0.vlan e0.mac ≠ 0)) ∧ K'.length = (if (known K e0.vlan e0.mac).isSome then K.length else K.length + 1) else K' = K) ∧ (∀ b, sv'.ownBlock = some b → sv.ownBlock = some b ∨ w.heap.size ≤ b) ∧ Chg (fun b => b = m ∨ sv.ownBlock = some b) w w3

theorem learn_done {k m : Nat} {sv : Value} {K : List Mc} {e0 : Mc} {w W w3 : World} (h : KnownAt w k m sv K) (hB : Below w.heap.size w W) (ho : ((known K e0.vlan e0.mac).isSome || decide (K.length < 64)) = true) (hP : PutQ m sv K e0 W w3) : LearnQ k m sv K e0 w w3 := by
  obtain ⟨sv', K', h1, h2, h3, h4, h5, h6⟩ := hP
  have hk : k < w.heap.size := block_lt_of_cell h.1
  have hkm : k ≠ m := by
    rintro rfl
    have := h.1
    rw [h.2.2.1.1.1] at this
    cases this
  have hkg : ∀ g, sv.ownBlock = some g → k ≠ g := by
    rintro g hg rfl
    obtain ⟨v, hv⟩ := (h.2.2.1.head hg).1
    have := h.1
    rw [hv] at this
    cases this
  have hnx : ¬ (k = m ∨ sv.ownBlock = some k) := by
    rintro (e | e)
    · exact hkm e
    · exact hkg k e rfl
  have hKW := h.below hB
  have hblk := h6.block k (block_lt_of_cell hKW.1) hnx
  refine ⟨sv', K', ⟨h6.block.cell hnx hKW.1, fun j => (World.frozen?_of_block (a := ⟨k, j, none⟩) hblk).trans (hKW.2.1 j), h1, h2⟩, ?_, fun b hb => (h5 b hb).imp id fun h' => Nat.le_trans hB.size h', (Chg.of_below hB).trans h6⟩
  rw [if_pos ho]
  exact ⟨h3, h4⟩

theorem learn_within {k m : Nat} {sv : Value} {K : List Mc} {e0 : Mc} {w W w3 : World} {ok : Bool} (h : KnownAt w k m sv K) (hB : Below w.heap.size w W) (ho : ok = ((known K e0.vlan e0.mac).isSome || decide ((K.length : Int) < 64))) (hP : PutW m sv K e0 ok W w3) : LearnQ k m sv K e0 w w3 := by
  have e : decide ((K.length : Int) < 64) = decide (K.length < 64) := by
    rw [decide_eq_decide]; omega
  rw [e] at ho
  unfold PutW at hP
  by_cases hok : ok = true
  · rw [if_pos hok] at hP
    exact learn_done h hB (ho ▸ hok) hP
  · rw [if_neg hok] at hP
    have hB3 : Below w.heap.size w w3 := hB.trans (hP.mono hB.size)
    refine ⟨sv, K, h.below hB3, ?_, fun b hb => .inl hb, Chg.of_below hB3⟩
    rw [if_neg (by rw [← ho]; exact hok)]

set_option maxRecDepth 100000 in
set_option maxHeartbeats 1000000 in
theorem learn_any (k m : Nat) (sv : Value) (K : List Mc) (x : Int) (b : ByteArray) (p : Int) (w : World) (h : KnownAt w k m sv K) (hl : b.size ≤ 281474976710656) (hK : K.length ≤ 64) :
    Calls Tryz.prog 107 #[.pointer (some ⟨k, 0, none⟩), .int .i64 x, .string b, .int .i64 p] w fun e w' => e = .returned (.tuple #[]) ∧ LearnQ k m sv K ⟨x, b, p, 0⟩ w w' := by
  have CC := hide (clone_any b w hl)
  have CPut := hide fun (W : World) (hb : Below w.heap.size w W) => putWP_any m sv K ⟨x, b, p, 0⟩ 64 W (h.2.2.1.below hb) h.2.2.2 (by omega)
  have hD := hide fun (W w3 : World) (ok : Bool) (hb : Below w.heap.size w W) ho hp => learn_within (e0 := ⟨x, b, p, 0⟩) (w3 := w3) (ok := ok) h hb ho hp
  have h0 := h.1
  have hk : k < w.heap.size := block_lt_of_cell h0
  clear h
  go_enter Tryz.func107, Tryz.ntmps107
  go_wp2_with fail
  refine CC.out.mono ?_
  rintro e w1 ⟨rfl, hb1⟩
  have k1 := cell_later hb1 h0
  have hz1 := hb1.size
  have hk1 : k < w1.heap.size := by omega
  clear CC h0
  go_wp2_with fail
  generalize hW : w1.alloc _ = W
  have hBW : Below w.heap.size w W := by rw [← hW]; exact hb1.alloc hz1 _
  have b0 : W.heap[w1.heap.size]? = some (.cells #[.int .i64 x, .string b] 236 (0, 0)) := by rw [← hW]; exact alloc_new _ _
  have c0 : W.cell? ⟨w1.heap.size, 0, none⟩ = some (.int .i64 x) := cell_in_row b0 rfl
  have c1 : W.cell? ⟨w1.heap.size, 1, none⟩ = some (.string b) := cell_in_row b0 rfl
  have k2 : W.cell? ⟨k, 0, none⟩ = some (.pointer (some ⟨m, 0, none⟩)) := by rw [← hW]; exact cell_later ((Below.refl _ w1).alloc (Nat.le_refl _) _) k1
  clear hW b0 k1
  go_region_with (first | (go_at_call 170; refine (CPut.out _ ?_).mono ?_; (exact (by repeat (first | exact Below.refl _ _ | assumption | refine Below.drewN ?_ | refine Below.drew ?_ | refine Below.setCell ?_ (by first | exact Nat.le_refl _ | omega | (simp; done) | (simp; omega)) _ | refine Below.alloc ?_ (by first | exact Nat.le_refl _ | omega | (simp; done) | (simp; omega)) _))); rintro e w3 ⟨ok, hok, rfl, hp⟩; have HL := hide (hD.out _ _ _ (by repeat (first | exact Below.refl _ _ | assumption | refine Below.drewN ?_ | refine Below.drew ?_ | refine Below.setCell ?_ (by first | exact Nat.le_refl _ | omega | (simp; done) | (simp; omega)) _ | refine Below.alloc ?_ (by first | exact Nat.le_refl _ | omega | (simp; done) | (simp; omega)) _)) hok hp)))
  all_goals go_end0
  all_goals exact ⟨rfl, HL.out⟩
end Go.Proofs.YtnjalelblbjfiaaGreatDoor
