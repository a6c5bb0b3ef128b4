import Derived.Test.YtnjalelblbjfiaaGreatDoorP22
import Derived.Test.YtnjalelblbjfiaaGreatDoorP23
import Derived.Test.YtnjalelblbjfiaaGreatDoorP24
namespace Go.Proofs.YtnjalelblbjfiaaGreatDoor
open Go.RowKit
open Go.Sort (grow)
attribute [local go_sem] Oper.semAt_some cell?_regrown
attribute [local go_sem ↓ high] xLoad_fold

set_option maxRecDepth 100000 in
set_option maxHeartbeats 4000000 in
theorem ltables_find (w : World) (wb : Nat) (tv sv kv : Value) (n : Nat) (Ts : List TabD) (Ks : List KeptD) (col : Nat → Nat) (oa oN oM oK : Int) (oS : ByteArray) (la : Option Addr) (ll lc : Nat) (r : Rl) (x0 x1 x2 x3 x4 : Int) (h : LW w wb tv sv kv n Ts Ks col) (ha : Agree Ts) (hoa : -9223372036854775808 ≤ oa ∧ oa ≤ 9223372036854775807) (hT0 : 0 < Ts.length) (hTl : Ts.length ≤ 1000000000) :
    Calls Tryz.prog 23 #[.pointer (some ⟨wb, 0, none⟩), .agg #[.int .i64 4, .int .i64 oa, .int .i64 oN, .int .i64 oM, .int .i64 oK, .string oS, .slice la ll lc, .int .i64 r.id, .int .i64 r.pr, .int .i64 r.k0, .int .i64 r.v0, .int .i64 r.m0, .int .i64 r.k1, .int .i64 r.v1, .int .i64 r.m1, .int .i64 r.k2, .int .i64 r.v2, .int .i64 r.m2, .int .i64 r.k3, .int .i64 r.v3, .int .i64 r.m3, .int .i64 r.k4, .int .i64 r.v4, .int .i64 r.m4, .int .i64 r.ac, .int .i64 r.po, .int .i64 x0, .int .i64 x1, .int .i64 x2, .int .i64 x3, .int .i64 x4]] w fun e W => e = .returned (.bool true) ∧ Below w.heap.size w W := by
  obtain ⟨dr, hur, hdr⟩ := underRule
  obtain ⟨i, hi, hpk⟩ := pk_ex oa hT0
  obtain ⟨W1, hW1⟩ : ∃ W1, W1 = w.alloc (.cells #[.int .i64 4, .int .i64 oa, .int .i64 oN, .int .i64 oM, .int .i64 oK, .string oS, .slice la ll lc, .int .i64 r.id, .int .i64 r.pr, .int .i64 r.k0, .int .i64 r.v0, .int .i64 r.m0, .int .i64 r.k1, .int .i64 r.v1, .int .i64 r.m1, .int .i64 r.k2, .int .i64 r.v2, .int .i64 r.m2, .int .i64 r.k3, .int .i64 r.v3, .int .i64 r.m3, .int .i64 r.k4, .int .i64 r.v4, .int .i64 r.m4, .int .i64 r.ac, .int .i64 r.po, .int .i64 x0, .int .i64 x1, .int .i64 x2, .int .i64 x3, .int .i64 x4] 41) := ⟨_, rfl⟩
  obtain ⟨bk, hbk⟩ : ∃ bk, bk = w.heap.size := ⟨_, rfl⟩
  have hb1 : Below w.heap.size w W1 := by rw [hW1]; exact (Below.refl _ w).alloc (Nat.le_refl _) _
  have hk : W1.rangeAt bk 0 [.int .i64 4, .int .i64 oa, .int .i64 oN, .int .i64 oM, .int .i64 oK, .string oS, .slice la ll lc, .int .i64 r.id, .int .i64 r.pr, .int .i64 r.k0, .int .i64 r.v0, .int .i64 r.m0, .int .i64 r.k1, .int .i64 r.v1, .int .i64 r.m1, .int .i64 r.k2, .int .i64 r.v2, .int .i64 r.m2, .int .i64 r.k3, .int .i64 r.v3, .int .i64 r.m3, .int .i64 r.k4, .int .i64 r.v4, .int .i64 r.m4, .int .i64 r.ac, .int .i64 r.po, .int .i64 x0, .int .i64 x1, .int .i64 x2, .int .i64 x3, .int .i64 x4] := by rw [hW1, hbk]; exact range_new _ _ _
  obtain ⟨ta, tc, tg, htv, hrow⟩ := h.rT.tabs
  have hwc := cell_later hb1 h.c0
  have hwl : wb < w.heap.size := block_lt_of_cell h.c0
  have hwl1 : wb < W1.heap.size := block_lt_of_cell hwc
  rw [htv] at hwc
  obtain ⟨hta, hcell⟩ := hrow i hi
  have hcell1 := cell_later hb1 hcell
  have htg1 : tg < W1.heap.size := block_lt_of_cell hcell1
  have k0 : W1.cell? ⟨bk, 0, none⟩ = some (.int .i64 4) := hk 0 _ rfl
  have k1 : W1.cell? ⟨bk, 1, none⟩ = some (.int .i64 oa) := hk 1 _ rfl
  have hbl : bk < W1.heap.size := block_lt_of_cell k0
  have hT1 : ¬ (Ts.length : Int) = 0 := by omega
  have hii : (i : Int) < Ts.length := by omega
  have HTV := hide htv
  subst hta
  have CPK : Hid (∀ (d : Nat) (os : Array Obj), Calls Tryz.prog 26 #[.int .i64 oa, .int .i64 Ts.length] (grow (redrawn W1 d) os) fun e w' => e = .returned (.int .i64 i) ∧ Below (grow (redrawn W1 d) os).heap.size (grow (redrawn W1 d) os) w') := hide fun d os => (lpick_at oa Ts.length i (grow (redrawn W1 d) os) hoa (by omega) hpk hi).mono fun e w' hh => And.intro hh.1 (by rw [hh.2]; exact Below.refl _ _)
  have HH := hide h
  have HA := hide ha
  have HB1 := hide hb1
  have HK := hide hk
  have h00 := h.c0
  rw [htv] at h00
  obtain ⟨D, hD⟩ : ∃ D, D = Ts[i] := ⟨_, rfl⟩
  rw [← hD] at hcell1
  have HD := hide hD
  clear hD htv hrow hcell h ha hb1 hk hpk hoa
  go_enter Tryz.func23, Tryz.ntmps23
  go_wp2_with fail
  rw [← hW1, ← hbk]
  have HBK := hide hbk
  clear hW1 h00 hbk
  refine wp_region_quiet_below (by kernel_rfl) (by kernel_rfl) ?_
  repeat (quiet_step (exact Calls.regrown_of (CPK.out _ _)))
  refine wpQuiet_nil ?_; intro wq hwq; replace hwq := below_of_regrown hwq; obtain ⟨hcq, hfq⟩ := bcell hwq; have hzq := hwq.size
  have j0 := cell_later hwq k0
  have hbq : bk < wq.heap.size := block_lt_of_cell j0
  have HBQ := hide (HB1.out.trans (hwq.mono HB1.out.size))
  have HKQ := hide (rangeAt_below HK.out hwq)
  clear hwq hcq hfq hzq hwc hwl1 hcell1 htg1 k0 k1 hbl CPK HB1 HK
  have hd := (HH.out.tab i hi)
  have hag : D.rs = rls D.L := by rw [HD.out]; exact HA.out _ (List.getElem_mem hi)
  rw [← HD.out] at hd
  obtain ⟨y0, y1, y2, y3, y4⟩ := step_key HKQ.out
  have CF := hide (lfind_any wq D.p D.t D.y D.F D.L D.v x0 x1 x2 x3 x4 (cell_later HBQ.out hd.c0) (cell_later HBQ.out hd.c1) (hd.tab.still HBQ.out) (by have := hd.ref.below HBQ.out; rwa [hag] at this))
  clear hd hag hur hdr HKQ HH HA HD HBK
  go_wp2_with fail
  refine CF.out.mono ?_
  rintro e W ⟨rfl, hb⟩
  have HF := hide (HBQ.out.trans (hb.mono HBQ.out.size))
  clear hb
  go_wp2
  go_ret
  exact ⟨rfl, HF.out⟩

set_option maxRecDepth 100000 in
set_option maxHeartbeats 4000000 in
theorem ltables_rules (w : World) (wb : Nat) (tv sv kv : Value) (n : Nat) (Ts : List TabD) (Ks : List KeptD) (col : Nat → Nat) (ki : Int) (oa oN oM oK : Int) (oS : ByteArray) (la : Option Addr) (ll lc : Nat) (r : Rl) (x0 x1 x2 x3 x4 : Int) (h : LW w wb tv sv kv n Ts Ks col) (ha : Agree Ts) (hoa : -9223372036854775808 ≤ oa ∧ oa ≤ 9223372036854775807) (hT0 : 0 < Ts.length) (hTl : Ts.length ≤ 1000000000) (h1 : ki ≠ 1) (h2 : ki ≠ 2) (h3 : ki ≠ 3) (h4 : ki ≠ 4) (hn : n < 1000000000) (hK : Ks.length + 4 ≤ 1000000000) :
    Calls Tryz.prog 23 #[.pointer (some ⟨wb, 0, none⟩), .agg #[.int .i64 ki, .int .i64 oa, .int .i64 oN, .int .i64 oM, .int .i64 oK, .string oS, .slice la ll lc, .int .i64 r.id, .int .i64 r.pr, .int .i64 r.k0, .int .i64 r.v0, .int .i64 r.m0, .int .i64 r.k1, .int .i64 r.v1, .int .i64 r.m1, .int .i64 r.k2, .int .i64 r.v2, .int .i64 r.m2, .int .i64 r.k3, .int .i64 r.v3, .int .i64 r.m3, .int .i64 r.k4, .int .i64 r.v4, .int .i64 r.m4, .int .i64 r.ac, .int .i64 r.po, .int .i64 x0, .int .i64 x1, .int .i64 x2, .int .i64 x3, .int .i64 x4]] w fun e W => e = .returned (.bool true) ∧ ∃ kv' Ks' col', Ks'.length = Ks.length + 4 ∧ LW W wb tv sv kv' (n + 1) Ts Ks' col' ∧ Went w W col col' := by
  obtain ⟨dr, hur, hdr⟩ := underRule
  obtain ⟨i, hi, hpk⟩ := pk_ex oa hT0
  obtain ⟨W1, hW1⟩ : ∃ W1, W1 = w.alloc (.cells #[.int .i64 ki, .int .i64 oa, .int .i64 oN, .int .i64 oM, .int .i64 oK, .string oS, .slice la ll lc, .int .i64 r.id, .int .i64 r.pr, .int .i64 r.k0, .int .i64 r.v0, .int .i64 r.m0, .int .i64 r.k1, .int .i64 r.v1, .int .i64 r.m1, .int .i64 r.k2, .int .i64 r.v2, .int .i64 r.m2, .int .i64 r.k3, .int .i64 r.v3, .int .i64 r.m3, .int .i64 r.k4, .int .i64 r.v4, .int .i64 r.m4, .int .i64 r.ac, .int .i64 r.po, .int .i64 x0, .int .i64 x1, .int .i64 x2, .int .i64 x3, .int .i64 x4] 41) := ⟨_, rfl⟩
  obtain ⟨bk, hbk⟩ : ∃ bk, bk = w.heap.size := ⟨_, rfl⟩
  have hb1 : Below w.heap.size w W1 := by rw [hW1]; exact (Below.refl _ w).alloc (Nat.le_refl _) _
  have hk : W1.rangeAt bk 0 [.int .i64 ki, .int .i64 oa, .int .i64 oN, .int .i64 oM, .int .i64 oK, .string oS, .slice la ll lc, .int .i64 r.id, .int .i64 r.pr, .int .i64 r.k0, .int .i64 r.v0, .int .i64 r.m0, .int .i64 r.k1, .int .i64 r.v1, .int .i64 r.m1, .int .i64 r.k2, .int .i64 r.v2, .int .i64 r.m2, .int .i64 r.k3, .int .i64 r.v3, .int .i64 r.m3, .int .i64 r.k4, .int .i64 r.v4, .int .i64 r.m4, .int .i64 r.ac, .int .i64 r.po, .int .i64 x0, .int .i64 x1, .int .i64 x2, .int .i64 x3, .int .i64 x4] := by rw [hW1, hbk]; exact range_new _ _ _
  obtain ⟨ta, tc, tg, htv, hrow⟩ := h.rT.tabs
  have hwc := cell_later hb1 h.c0
  have hwl : wb < w.heap.size := block_lt_of_cell h.c0
  have hwl1 : wb < W1.heap.size := block_lt_of_cell hwc
  rw [htv] at hwc
  obtain ⟨hta, hcell⟩ := hrow i hi
  have hcell1 := cell_later hb1 hcell
  have htg1 : tg < W1.heap.size := block_lt_of_cell hcell1
  have k0 : W1.cell? ⟨bk, 0, none⟩ = some (.int .i64 ki) := hk 0 _ rfl
  have k1 : W1.cell? ⟨bk, 1, none⟩ = some (.int .i64 oa) := hk 1 _ rfl
  have hbl : bk < W1.heap.size := block_lt_of_cell k0
  have hT1 : ¬ (Ts.length : Int) = 0 := by omega
  have hii : (i : Int) < Ts.length := by omega
  have HTV := hide htv
  subst hta
  have CPK : Hid (∀ (d : Nat) (os : Array Obj), Calls Tryz.prog 26 #[.int .i64 oa, .int .i64 Ts.length] (grow (redrawn W1 d) os) fun e w' => e = .returned (.int .i64 i) ∧ Below (grow (redrawn W1 d) os).heap.size (grow (redrawn W1 d) os) w') := hide fun d os => (lpick_at oa Ts.length i (grow (redrawn W1 d) os) hoa (by omega) hpk hi).mono fun e w' hh => And.intro hh.1 (by rw [hh.2]; exact Below.refl _ _)
  have HH := hide h
  have HA := hide ha
  have HB1 := hide hb1
  have HK := hide hk
  have h00 := h.c0
  rw [htv] at h00
  obtain ⟨D, hD⟩ : ∃ D, D = Ts[i] := ⟨_, rfl⟩
  rw [← hD] at hcell1
  have HD := hide hD
  clear hD htv hrow hcell h ha hb1 hk hpk hoa
  go_enter Tryz.func23, Tryz.ntmps23
  go_wp2_with fail
  rw [← hW1, ← hbk]
  have HBK := hide hbk
  clear hW1 h00 hbk
  refine wp_region_quiet_below (by kernel_rfl) (by kernel_rfl) ?_
  repeat (quiet_step (exact Calls.regrown_of (CPK.out _ _)))
  refine wpQuiet_nil ?_; intro wq hwq; replace hwq := below_of_regrown hwq; obtain ⟨hcq, hfq⟩ := bcell hwq; have hzq := hwq.size
  have j0 := cell_later hwq k0
  have hbq : bk < wq.heap.size := block_lt_of_cell j0
  have HBQ := hide (HB1.out.trans (hwq.mono HB1.out.size))
  have HKQ := hide (rangeAt_below HK.out hwq)
  clear hwq hcq hfq hzq hwc hwl1 hcell1 htg1 k0 k1 hbl CPK HB1 HK
  have hag : Ts[i].rs = rls Ts[i].L := HA.out _ (List.getElem_mem hi)
  have CF : Hid (Calls Tryz.prog 12 #[.pointer (some ⟨wb, 0, none⟩), .pointer (some ⟨D.p, 0, none⟩)] wq fun e W => e = .returned (.bool true) ∧ ∃ kv' Ks' col', Ks'.length = Ks.length + 4 ∧ LW W wb tv sv kv' (n + 1) Ts Ks' col' ∧ Went w W col col') := hide (by
    have hq : LW wq wb tv sv kv n Ts Ks col := HH.out.below HBQ.out fun _ _ _ => rfl
    have := llisted_any wq wb i tv sv kv n Ts Ks col hq hi hag hn hK
    rw [← HD.out] at this
    refine this.mono ?_
    rintro e W ⟨he, kv', Ks', col', hk, hl, hwent⟩
    exact ⟨he, kv', Ks', col', hk, hl, hwent.under HBQ.out⟩)
  clear hag hur hdr HKQ HH HA HD HBK hn hK
  go_wp2_with fail
  refine CF.out.mono ?_
  rintro e W ⟨rfl, hb⟩
  have HF := hide hb
  clear hb
  go_wp2
  go_ret
  exact ⟨rfl, HF.out⟩
end Go.Proofs.YtnjalelblbjfiaaGreatDoor

namespace Go.Proofs.YtnjalelblbjfiaaGreatDoor
open Go.RowKit
attribute [local go_sem] Oper.semAt_some cell?_regrown
attribute [local go_sem ↓ high] xApp_fold

set_option maxRecDepth 100000 in
set_option maxHeartbeats 4000000 in
theorem ltables_new (w : World) (wb : Nat) (tv sv kv : Value) (n : Nat) (Ts : List TabD) (Ks : List KeptD) (col : Nat → Nat) (oa oN oM oK : Int) (oS : ByteArray) (la : Option Addr) (ll lc : Nat) (r : Rl) (x0 x1 x2 x3 x4 : Int) (h : LW w wb tv sv kv n Ts Ks col) (ha : Agree Ts) (hTl : Ts.length ≤ 1000000000) :
    Calls Tryz.prog 23 #[.pointer (some ⟨wb, 0, none⟩), .agg #[.int .i64 1, .int .i64 oa, .int .i64 oN, .int .i64 oM, .int .i64 oK, .string oS, .slice la ll lc, .int .i64 r.id, .int .i64 r.pr, .int .i64 r.k0, .int .i64 r.v0, .int .i64 r.m0, .int .i64 r.k1, .int .i64 r.v1, .int .i64 r.m1, .int .i64 r.k2, .int .i64 r.v2, .int .i64 r.m2, .int .i64 r.k3, .int .i64 r.v3, .int .i64 r.m3, .int .i64 r.k4, .int .i64 r.v4, .int .i64 r.m4, .int .i64 r.ac, .int .i64 r.po, .int .i64 x0, .int .i64 x1, .int .i64 x2, .int .i64 x3, .int .i64 x4]] w fun e W => e = .returned (.bool true) ∧ ∃ tv' Ts' col', Ts'.length = Ts.length + 1 ∧ Agree Ts' ∧ LW W wb tv' sv kv n Ts' Ks col' ∧ Went w W col col' := by
  obtain ⟨W1, hW1⟩ : ∃ W1, W1 = w.alloc (.cells #[.int .i64 1, .int .i64 oa, .int .i64 oN, .int .i64 oM, .int .i64 oK, .string oS, .slice la ll lc, .int .i64 r.id, .int .i64 r.pr, .int .i64 r.k0, .int .i64 r.v0, .int .i64 r.m0, .int .i64 r.k1, .int .i64 r.v1, .int .i64 r.m1, .int .i64 r.k2, .int .i64 r.v2, .int .i64 r.m2, .int .i64 r.k3, .int .i64 r.v3, .int .i64 r.m3, .int .i64 r.k4, .int .i64 r.v4, .int .i64 r.m4, .int .i64 r.ac, .int .i64 r.po, .int .i64 x0, .int .i64 x1, .int .i64 x2, .int .i64 x3, .int .i64 x4] 41) := ⟨_, rfl⟩
  have hb1 : Below w.heap.size w W1 := by rw [hW1]; exact (Below.refl _ w).alloc (Nat.le_refl _) _
  have h1 : LW W1 wb tv sv kv n Ts Ks col := h.below hb1 fun _ _ _ => rfl
  have CN := hide (tnew_any W1 h1.laid)
  have HH := hide h
  have H1 := hide h1
  have HA := hide ha
  have HB1 := hide hb1
  clear h h1 ha hb1
  go_enter Tryz.func23, Tryz.ntmps23
  go_wp2_with fail
  rw [← hW1]
  clear hW1
  refine CN.out.mono ?_
  rintro e w2 ⟨t, F, rfl, hT, hF, hb2⟩
  have hb := HB1.out.trans (hb2.mono HB1.out.size)
  have H2 := hide (H1.out.below (col' := col) hb2 fun _ _ _ => rfl)
  have c0 := H2.out.c0
  have f0 := H2.out.frz 0
  have hwl : wb < w2.heap.size := block_lt_of_cell c0
  obtain ⟨W4, hW4⟩ : ∃ W4, W4 = (w2.alloc (.cells #[.slice none 0 0] 83)).alloc (.cells #[.pointer (some ⟨t, 0, none⟩), .pointer (some ⟨w2.heap.size, 0, none⟩)] 81) := ⟨_, rfl⟩
  have hb24 : Below w2.heap.size w2 W4 := by rw [hW4]; exact ((Below.refl _ w2).alloc (Nat.le_refl _) _).alloc (by simp) _
  have h4 : LW W4 wb tv sv kv n Ts Ks col := H2.out.below hb24 fun _ _ _ => rfl
  have s4 : W4.heap.size = w2.heap.size + 2 := by rw [hW4]; simp
  obtain ⟨g, cap, W5, hap, hown, hc, hg, hq⟩ := append_tab (p := w2.heap.size + 1) h4.rT h4.pT hTl h4.pos
  have FIN := hide (new_done HH.out HA.out hb hT (fun x hx => Nat.le_trans HB1.out.size (hF x hx)) hW4 hown hc hg hq)
  have hap5 := xApp_run hap
  rw [s4, hW4] at hap5
  have e0 : W5.cell? ⟨wb, 0, none⟩ = some tv := hc.block.cell (fun e => by have := h4.cT wb e; rw [h4.cw] at this; omega) h4.c0
  have f5 : W5.frozen? ⟨wb, 0, none⟩ = false := by
    rw [(OnlyAt.of_block (hc.block wb (block_lt_of_cell h4.c0) (fun e => by have := h4.cT wb e; rw [h4.cw] at this; omega)) 0).2]
    exact h4.frz 0
  have hwl5 : wb < W5.heap.size := block_lt_of_cell e0
  obtain ⟨⟨ta, tm, tc, htv⟩, -⟩ := h4.slices
  rw [htv] at c0 e0 hap5
  clear hown hc hg hq hap h4 hb24 s4 hW4 hb hT hF hb2 CN
  go_wp2_with fail
  go_ret
  obtain ⟨Ts', col', f1, f2, f3, f4⟩ := FIN.out
  exact ⟨rfl, _, Ts', col', f1, f2, f3, f4⟩

set_option maxRecDepth 100000 in
set_option maxHeartbeats 4000000 in
theorem ltables_none (w : World) (wb : Nat) (tv sv kv : Value) (n : Nat) (Ts : List TabD) (Ks : List KeptD) (col : Nat → Nat) (ki oa oN oM oK : Int) (oS : ByteArray) (la : Option Addr) (ll lc : Nat) (r : Rl) (x0 x1 x2 x3 x4 : Int) (h : LW w wb tv sv kv n Ts Ks col) (h1 : ki ≠ 1) (hT : Ts.length = 0) :
    Calls Tryz.prog 23 #[.pointer (some ⟨wb, 0, none⟩), .agg #[.int .i64 ki, .int .i64 oa, .int .i64 oN, .int .i64 oM, .int .i64 oK, .string oS, .slice la ll lc, .int .i64 r.id, .int .i64 r.pr, .int .i64 r.k0, .int .i64 r.v0, .int .i64 r.m0, .int .i64 r.k1, .int .i64 r.v1, .int .i64 r.m1, .int .i64 r.k2, .int .i64 r.v2, .int .i64 r.m2, .int .i64 r.k3, .int .i64 r.v3, .int .i64 r.m3, .int .i64 r.k4, .int .i64 r.v4, .int .i64 r.m4, .int .i64 r.ac, .int .i64 r.po, .int .i64 x0, .int .i64 x1, .int .i64 x2, .int .i64 x3, .int .i64 x4]] w fun e W => e = .returned (.bool true) ∧ Below w.heap.size w W := by
  have c0 := h.c0
  have htv := h.rT.2 hT
  rw [htv] at c0
  have hwl : wb < w.heap.size := block_lt_of_cell c0
  have HB := hide (show Below w.heap.size w (w.alloc (.cells #[.int .i64 ki, .int .i64 oa, .int .i64 oN, .int .i64 oM, .int .i64 oK, .string oS, .slice la ll lc, .int .i64 r.id, .int .i64 r.pr, .int .i64 r.k0, .int .i64 r.v0, .int .i64 r.m0, .int .i64 r.k1, .int .i64 r.v1, .int .i64 r.m1, .int .i64 r.k2, .int .i64 r.v2, .int .i64 r.m2, .int .i64 r.k3, .int .i64 r.v3, .int .i64 r.m3, .int .i64 r.k4, .int .i64 r.v4, .int .i64 r.m4, .int .i64 r.ac, .int .i64 r.po, .int .i64 x0, .int .i64 x1, .int .i64 x2, .int .i64 x3, .int .i64 x4] 41)) from (Below.refl _ w).alloc (Nat.le_refl _) _)
  clear h htv hT
  go_enter Tryz.func23, Tryz.ntmps23
  go_wp2
  go_ret
  exact ⟨rfl, HB.out⟩
end Go.Proofs.YtnjalelblbjfiaaGreatDoor

namespace Go.Proofs.YtnjalelblbjfiaaGreatDoor
open Go.RowKit

/-- Behind so many steps. -/
def TS (w : World) (wb : Nat) (sv : Value) (N : Nat) (col : Nat → Nat) : Prop := ∃ tv kv n Ts Ks, LW w wb tv sv kv n Ts Ks col ∧ Agree Ts ∧ n ≤ N ∧ Ks.length ≤ 4 * N ∧ Ts.length ≤ N
theorem TS.below {w W : World} {wb N : Nat} {sv : Value} {col : Nat → Nat} (h : TS w wb sv N col) (hb : Below w.heap.size w W) : ∃ col', TS W wb sv (N + 1) col' ∧ Went w W col col' := by
  obtain ⟨tv, kv, n, Ts, Ks, h, ha, h1, h2, h3⟩ := h
  exact ⟨col, ⟨tv, kv, n, Ts, Ks, h.below hb fun _ _ _ => rfl, ha, by omega, by omega, by omega⟩, Went.below hb fun _ _ _ => rfl⟩
theorem ltables_any (w : World) (wb : Nat) (sv : Value) (N : Nat) (col : Nat → Nat) (ki oa oN oM oK : Int) (oS : ByteArray) (la : Option Addr) (ll lc : Nat) (r : Rl) (x0 x1 x2 x3 x4 : Int) (h : TS w wb sv N col) (hoa : -9223372036854775808 ≤ oa ∧ oa ≤ 9223372036854775807) (hN : N ≤ 100000000) :
    Calls Tryz.prog 23 #[.pointer (some ⟨wb, 0, none⟩), .agg #[.int .i64 ki, .int .i64 oa, .int .i64 oN, .int .i64 oM, .int .i64 oK, .string oS, .slice la ll lc, .int .i64 r.id, .int .i64 r.pr, .int .i64 r.k0, .int .i64 r.v0, .int .i64 r.m0, .int .i64 r.k1, .int .i64 r.v1, .int .i64 r.m1, .int .i64 r.k2, .int .i64 r.v2, .int .i64 r.m2, .int .i64 r.k3, .int .i64 r.v3, .int .i64 r.m3, .int .i64 r.k4, .int .i64 r.v4, .int .i64 r.m4, .int .i64 r.ac, .int .i64 r.po, .int .i64 x0, .int .i64 x1, .int .i64 x2, .int .i64 x3, .int .i64 x4]] w fun e W => e = .returned (.bool true) ∧ ∃ col', TS W wb sv (N + 1) col' ∧ Went w W col col' := by
  have HT := h
  obtain ⟨tv, kv, n, Ts, Ks, h, ha, h1, h2, h3⟩ := h
  by_cases k1 : ki = 1
  · subst k1
    refine (ltables_new w wb tv sv kv n Ts Ks col oa oN oM oK oS la ll lc r x0 x1 x2 x3 x4 h ha (by omega)).mono ?_
    rintro e W ⟨he, tv', Ts', col', hl, ha', hw, hg⟩
    exact ⟨he, col', ⟨tv', kv, n, Ts', Ks, hw, ha', by omega, by omega, by omega⟩, hg⟩
  by_cases hT : Ts.length = 0
  · refine (ltables_none w wb tv sv kv n Ts Ks col ki oa oN oM oK oS la ll lc r x0 x1 x2 x3 x4 h k1 hT).mono ?_
    rintro e W ⟨he, hb⟩
    exact ⟨he, HT.below hb⟩
  by_cases k2 : ki = 2
  · subst k2
    refine (ltables_put w wb tv sv kv n Ts Ks col oa oN oM oK oS la ll lc r x0 x1 x2 x3 x4 h ha hoa (by omega) (by omega)).mono ?_
    rintro e W ⟨he, Ts', col', hl, ha', hw, hg⟩
    exact ⟨he, col', ⟨tv, kv, n, Ts', Ks, hw, ha', by omega, by omega, by omega⟩, hg⟩
  by_cases k3 : ki = 3
  · subst k3
    refine (ltables_take w wb tv sv kv n Ts Ks col oa oN oM oK oS la ll lc r x0 x1 x2 x3 x4 h ha hoa (by omega) (by omega)).mono ?_
    rintro e W ⟨he, Ts', col', hl, ha', hw, hg⟩
    exact ⟨he, col', ⟨tv, kv, n, Ts', Ks, hw, ha', by omega, by omega, by omega⟩, hg⟩
  by_cases k4 : ki = 4
  · subst k4
    refine (ltables_find w wb tv sv kv n Ts Ks col oa oN oM oK oS la ll lc r x0 x1 x2 x3 x4 h ha hoa (by omega) (by omega)).mono ?_
    rintro e W ⟨he, hb⟩
    exact ⟨he, HT.below hb⟩
  · refine (ltables_rules w wb tv sv kv n Ts Ks col ki oa oN oM oK oS la ll lc r x0 x1 x2 x3 x4 h ha hoa (by omega) (by omega) k1 k2 k3 k4 (by omega) (by omega)).mono ?_
    rintro e W ⟨he, kv', Ks', col', hl, hw, hg⟩
    exact ⟨he, col', ⟨tv, kv', n + 1, Ts, Ks', hw, ha, by omega, by omega, by omega⟩, hg⟩
theorem underStep : ∃ d, Tryz.prog.underlying 41 = some d ∧ d.isRow = true := isRow_of (by kernel_rfl)
theorem sizeStep : (Tryz.prog.info? 41).map (·.size) = some 31 := by kernel_rfl
def xLoadS (v : Value) : Sem Value := Instr.loadAt 41 v
theorem xLoadS_fold (v : Value) : Instr.loadAt 41 v = xLoadS v := rfl
attribute [local go_sem ↓ high] xLoadS_fold

set_option maxRecDepth 100000 in
set_option maxHeartbeats 4000000 in
theorem lstep_tab (w : World) (wb : Nat) (sv : Value) (N : Nat) (col : Nat → Nat) (ki oa oN oM oK : Int) (oS : ByteArray) (la : Option Addr) (ll lc : Nat) (r : Rl) (x0 x1 x2 x3 x4 : Int) (h : TS w wb sv N col) (hoa : -9223372036854775808 ≤ oa ∧ oa ≤ 9223372036854775807) (hN : N ≤ 100000000) (hki : ki < 6) :
    Calls Tryz.prog 10 #[.pointer (some ⟨wb, 0, none⟩), .agg #[.int .i64 ki, .int .i64 oa, .int .i64 oN, .int .i64 oM, .int .i64 oK, .string oS, .slice la ll lc, .int .i64 r.id, .int .i64 r.pr, .int .i64 r.k0, .int .i64 r.v0, .int .i64 r.m0, .int .i64 r.k1, .int .i64 r.v1, .int .i64 r.m1, .int .i64 r.k2, .int .i64 r.v2, .int .i64 r.m2, .int .i64 r.k3, .int .i64 r.v3, .int .i64 r.m3, .int .i64 r.k4, .int .i64 r.v4, .int .i64 r.m4, .int .i64 r.ac, .int .i64 r.po, .int .i64 x0, .int .i64 x1, .int .i64 x2, .int .i64 x3, .int .i64 x4]] w fun e W => e = .returned (.bool true) ∧ ∃ col', TS W wb sv (N + 1) col' ∧ Went w W col col' := by
  obtain ⟨ds, hus, hds⟩ := underStep
  have hb1 : Below w.heap.size w (w.alloc (.cells #[.int .i64 ki, .int .i64 oa, .int .i64 oN, .int .i64 oM, .int .i64 oK, .string oS, .slice la ll lc, .int .i64 r.id, .int .i64 r.pr, .int .i64 r.k0, .int .i64 r.v0, .int .i64 r.m0, .int .i64 r.k1, .int .i64 r.v1, .int .i64 r.m1, .int .i64 r.k2, .int .i64 r.v2, .int .i64 r.m2, .int .i64 r.k3, .int .i64 r.v3, .int .i64 r.m3, .int .i64 r.k4, .int .i64 r.v4, .int .i64 r.m4, .int .i64 r.ac, .int .i64 r.po, .int .i64 x0, .int .i64 x1, .int .i64 x2, .int .i64 x3, .int .i64 x4] 41)) := (Below.refl _ w).alloc (Nat.le_refl _) _
  by_cases k1 : ki < 1
  · have HF := hide (h.below hb1)
    clear h hb1 hoa
    go_enter Tryz.func10, Tryz.ntmps10
    go_wp2
    go_ret
    exact ⟨rfl, HF.out⟩
  · have hk : (w.alloc (.cells #[.int .i64 ki, .int .i64 oa, .int .i64 oN, .int .i64 oM, .int .i64 oK, .string oS, .slice la ll lc, .int .i64 r.id, .int .i64 r.pr, .int .i64 r.k0, .int .i64 r.v0, .int .i64 r.m0, .int .i64 r.k1, .int .i64 r.v1, .int .i64 r.m1, .int .i64 r.k2, .int .i64 r.v2, .int .i64 r.m2, .int .i64 r.k3, .int .i64 r.v3, .int .i64 r.m3, .int .i64 r.k4, .int .i64 r.v4, .int .i64 r.m4, .int .i64 r.ac, .int .i64 r.po, .int .i64 x0, .int .i64 x1, .int .i64 x2, .int .i64 x3, .int .i64 x4] 41)).rangeAt w.heap.size 0 [.int .i64 ki, .int .i64 oa, .int .i64 oN, .int .i64 oM, .int .i64 oK, .string oS, .slice la ll lc, .int .i64 r.id, .int .i64 r.pr, .int .i64 r.k0, .int .i64 r.v0, .int .i64 r.m0, .int .i64 r.k1, .int .i64 r.v1, .int .i64 r.m1, .int .i64 r.k2, .int .i64 r.v2, .int .i64 r.m2, .int .i64 r.k3, .int .i64 r.v3, .int .i64 r.m3, .int .i64 r.k4, .int .i64 r.v4, .int .i64 r.m4, .int .i64 r.ac, .int .i64 r.po, .int .i64 x0, .int .i64 x1, .int .i64 x2, .int .i64 x3, .int .i64 x4] := range_new _ _ _
    have hld : (xLoadS (.pointer (some ⟨w.heap.size, 0, none⟩))).run Tryz.prog (w.alloc (.cells #[.int .i64 ki, .int .i64 oa, .int .i64 oN, .int .i64 oM, .int .i64 oK, .string oS, .slice la ll lc, .int .i64 r.id, .int .i64 r.pr, .int .i64 r.k0, .int .i64 r.v0, .int .i64 r.m0, .int .i64 r.k1, .int .i64 r.v1, .int .i64 r.m1, .int .i64 r.k2, .int .i64 r.v2, .int .i64 r.m2, .int .i64 r.k3, .int .i64 r.v3, .int .i64 r.m3, .int .i64 r.k4, .int .i64 r.v4, .int .i64 r.m4, .int .i64 r.ac, .int .i64 r.po, .int .i64 x0, .int .i64 x1, .int .i64 x2, .int .i64 x3, .int .i64 x4] 41)) = .ok (.agg #[.int .i64 ki, .int .i64 oa, .int .i64 oN, .int .i64 oM, .int .i64 oK, .string oS, .slice la ll lc, .int .i64 r.id, .int .i64 r.pr, .int .i64 r.k0, .int .i64 r.v0, .int .i64 r.m0, .int .i64 r.k1, .int .i64 r.v1, .int .i64 r.m1, .int .i64 r.k2, .int .i64 r.v2, .int .i64 r.m2, .int .i64 r.k3, .int .i64 r.v3, .int .i64 r.m3, .int .i64 r.k4, .int .i64 r.v4, .int .i64 r.m4, .int .i64 r.ac, .int .i64 r.po, .int .i64 x0, .int .i64 x1, .int .i64 x2, .int .i64 x3, .int .i64 x4]) (w.alloc (.cells #[.int .i64 ki, .int .i64 oa, .int .i64 oN, .int .i64 oM, .int .i64 oK, .string oS, .slice la ll lc, .int .i64 r.id, .int .i64 r.pr, .int .i64 r.k0, .int .i64 r.v0, .int .i64 r.m0, .int .i64 r.k1, .int .i64 r.v1, .int .i64 r.m1, .int .i64 r.k2, .int .i64 r.v2, .int .i64 r.m2, .int .i64 r.k3, .int .i64 r.v3, .int .i64 r.m3, .int .i64 r.k4, .int .i64 r.v4, .int .i64 r.m4, .int .i64 r.ac, .int .i64 r.po, .int .i64 x0, .int .i64 x1, .int .i64 x2, .int .i64 x3, .int .i64 x4] 41)) := run_loadAt_mid _ w.heap.size 0 41 [.int .i64 ki, .int .i64 oa, .int .i64 oN, .int .i64 oM, .int .i64 oK, .string oS, .slice la ll lc, .int .i64 r.id, .int .i64 r.pr, .int .i64 r.k0, .int .i64 r.v0, .int .i64 r.m0, .int .i64 r.k1, .int .i64 r.v1, .int .i64 r.m1, .int .i64 r.k2, .int .i64 r.v2, .int .i64 r.m2, .int .i64 r.k3, .int .i64 r.v3, .int .i64 r.m3, .int .i64 r.k4, .int .i64 r.v4, .int .i64 r.m4, .int .i64 r.ac, .int .i64 r.po, .int .i64 x0, .int .i64 x1, .int .i64 x2, .int .i64 x3, .int .i64 x4] ds hk hus hds sizeStep
    have h1 : TS (w.alloc (.cells #[.int .i64 ki, .int .i64 oa, .int .i64 oN, .int .i64 oM, .int .i64 oK, .string oS, .slice la ll lc, .int .i64 r.id, .int .i64 r.pr, .int .i64 r.k0, .int .i64 r.v0, .int .i64 r.m0, .int .i64 r.k1, .int .i64 r.v1, .int .i64 r.m1, .int .i64 r.k2, .int .i64 r.v2, .int .i64 r.m2, .int .i64 r.k3, .int .i64 r.v3, .int .i64 r.m3, .int .i64 r.k4, .int .i64 r.v4, .int .i64 r.m4, .int .i64 r.ac, .int .i64 r.po, .int .i64 x0, .int .i64 x1, .int .i64 x2, .int .i64 x3, .int .i64 x4] 41)) wb sv N col := by
      obtain ⟨tv, kv, n, Ts, Ks, h, ha, h1, h2, h3⟩ := h
      exact ⟨tv, kv, n, Ts, Ks, h.below hb1 fun _ _ _ => rfl, ha, by omega, by omega, by omega⟩
    have CT := hide (ltables_any (w.alloc (.cells #[.int .i64 ki, .int .i64 oa, .int .i64 oN, .int .i64 oM, .int .i64 oK, .string oS, .slice la ll lc, .int .i64 r.id, .int .i64 r.pr, .int .i64 r.k0, .int .i64 r.v0, .int .i64 r.m0, .int .i64 r.k1, .int .i64 r.v1, .int .i64 r.m1, .int .i64 r.k2, .int .i64 r.v2, .int .i64 r.m2, .int .i64 r.k3, .int .i64 r.v3, .int .i64 r.m3, .int .i64 r.k4, .int .i64 r.v4, .int .i64 r.m4, .int .i64 r.ac, .int .i64 r.po, .int .i64 x0, .int .i64 x1, .int .i64 x2, .int .i64 x3, .int .i64 x4] 41)) wb sv N col ki oa oN oM oK oS la ll lc r x0 x1 x2 x3 x4 h1 hoa hN)
    have HB := hide hb1
    clear h h1 hk hb1 hoa hN
    go_enter Tryz.func10, Tryz.ntmps10
    go_wp2_with fail
    refine CT.out.mono ?_
    rintro e W ⟨rfl, col', ht, hw⟩
    have HF := hide (⟨col', ht, hw.under HB.out⟩ : ∃ col', TS W wb sv (N + 1) col' ∧ Went w W col col')
    clear ht hw CT HB hld
    go_wp2
    go_ret
    exact ⟨rfl, HF.out⟩
end Go.Proofs.YtnjalelblbjfiaaGreatDoor

namespace Go.Proofs.YtnjalelblbjfiaaGreatDoor
open Go.RowKit

/-- The rules of the document's first example. -/
def fst1 : Rl := ⟨1, 5, 0, 0, 0, 0, 0, 0, 0, 0, 0, 0, 0, 0, 0, 0, 0, 0, 0⟩
def fst2 : Rl := ⟨2, 9, 0, 0, 0, 0, 0, 0, 0, 0, 0, 0, 0, 0, 1, 80, 90, 1, 0⟩
def fst3 : Rl := ⟨3, 9, 0, 0, 0, 0, 0, 0, 0, 6, 255, 0, 0, 0, 0, 0, 0, 0, 0⟩
theorem first_list {L1 L2 L3 : List Ent} {b1 b2 b3 : Nat} (h1 : ∀ x, x ∈ L1 ↔ x = (b1, fst1) ∨ x ∈ []) (h2 : ∀ x, x ∈ L2 ↔ x = (b2, fst2) ∨ x ∈ L1) (h3 : ∀ x, x ∈ L3 ↔ x = (b3, fst3) ∨ x ∈ L2) (hs : Sorted L3) : L3 = [(b2, fst2), (b3, fst3), (b1, fst1)] := by
  refine sorted_ext hs ?_ fun x => ?_
  · refine List.Pairwise.cons (fun x hx => ?_) (List.Pairwise.cons (fun x hx => ?_) (List.Pairwise.cons (fun x hx => by cases hx) List.Pairwise.nil))
    · simp only [List.mem_cons, List.not_mem_nil, or_false] at hx
      rcases hx with rfl | rfl <;> dsimp only <;> decide
    · simp only [List.mem_cons, List.not_mem_nil, or_false] at hx
      rcases hx with rfl
      dsimp only
      decide
  · rw [h3, h2, h1]
    simp only [List.mem_cons, List.not_mem_nil, or_false]
    constructor
    · rintro (h | h | h)
      · exact .inr (.inl h)
      · exact .inl h
      · exact .inr (.inr h)
    · rintro (h | h | h)
      · exact .inr (.inl h)
      · exact .inl h
      · exact .inr (.inr h)
theorem first_code1 : insCode [] fst1 = 0 := by decide
theorem first_code2 {L1 : List Ent} {b1 : Nat} (h1 : ∀ x, x ∈ L1 ↔ x = (b1, fst1) ∨ x ∈ []) (hl : L1.length = 0 + 1) : insCode L1 fst2 = 0 := by
  have ha : (L1.any fun a => a.2.id == fst2.id) = false := by
    rw [List.any_eq_false]
    intro x hx
    rcases (h1 x).1 hx with rfl | h
    · dsimp only
      decide
    · cases h
  unfold insCode
  rw [ha, if_pos (by decide), if_neg (by decide), if_neg (by omega)]
theorem first_code3 {L1 L2 : List Ent} {b1 b2 : Nat} (h1 : ∀ x, x ∈ L1 ↔ x = (b1, fst1) ∨ x ∈ []) (h2 : ∀ x, x ∈ L2 ↔ x = (b2, fst2) ∨ x ∈ L1) (hl : L2.length ≤ 2) : insCode L2 fst3 = 0 := by
  have ha : (L2.any fun a => a.2.id == fst3.id) = false := by
    rw [List.any_eq_false]
    intro x hx
    rcases (h2 x).1 hx with rfl | h
    · dsimp only
      decide
    · rcases (h1 x).1 h with rfl | h
      · dsimp only
        decide
      · cases h
  unfold insCode
  rw [ha, if_pos (by decide), if_neg (by decide), if_neg (by omega)]
theorem first_find1 (b1 b2 b3 : Nat) : FindIs [(b2, fst2), (b3, fst3), (b1, fst1)] 0 0 6 0 85 2 0 := by
  unfold FindIs
  rw [if_pos (by decide)]
  refine ⟨some (b2, fst2), ⟨by simp, by dsimp only; decide, fun e he hh => ?_⟩, rfl, rfl⟩
  simp only [List.mem_cons, List.not_mem_nil, or_false] at he
  rcases he with rfl | rfl | rfl
  · revert hh; dsimp only; decide
  · revert hh; dsimp only; decide
  · revert hh; dsimp only; decide
theorem first_find2 (b1 b2 b3 : Nat) : FindIs [(b2, fst2), (b3, fst3), (b1, fst1)] 0 0 6 0 91 3 0 := by
  unfold FindIs
  rw [if_pos (by decide)]
  refine ⟨some (b3, fst3), ⟨by simp, by dsimp only; decide, fun e he hh => ?_⟩, rfl, rfl⟩
  simp only [List.mem_cons, List.not_mem_nil, or_false] at he
  rcases he with rfl | rfl | rfl
  · revert hh; dsimp only; decide
  · revert hh; dsimp only; decide
  · revert hh; dsimp only; decide
theorem first_find3 (b1 b2 b3 : Nat) : FindIs [(b2, fst2), (b3, fst3), (b1, fst1)] 0 0 17 0 91 1 0 := by
  unfold FindIs
  rw [if_pos (by decide)]
  refine ⟨some (b1, fst1), ⟨by simp, by dsimp only; decide, fun e he hh => ?_⟩, rfl, rfl⟩
  simp only [List.mem_cons, List.not_mem_nil, or_false] at he
  rcases he with rfl | rfl | rfl
  · revert hh; dsimp only; decide
  · revert hh; dsimp only; decide
  · revert hh; dsimp only; decide

theorem findsV (t : Nat) (x0 x1 x2 x3 x4 a b : Int) (w : World) (F : Nat → Prop) (L : List Ent) (h : TabIs w t F L) (hf : FindIs L x0 x1 x2 x3 x4 a b) :
    Calls Tryz.prog 16 #[.pointer (some ⟨t, 0, none⟩), .agg #[.int .i64 x0, .int .i64 x1, .int .i64 x2, .int .i64 x3, .int .i64 x4]] w fun e w' => e = .returned (.tuple #[.int .i64 a, .int .i64 b]) ∧ Below w.heap.size w w' := by
  have := tfindV t x0 x1 x2 x3 x4 w F L h
  rw [fndV_eq hf] at this
  exact this

set_option maxRecDepth 100000 in
set_option maxHeartbeats 4000000 in
theorem lfirst_any (w : World) (hl : Laid w) : Calls Tryz.prog 7 #[] w fun e W => e = .returned (.bool true) ∧ Below w.heap.size w W := by
  have CN := hide (tnew_any w hl)
  clear hl
  go_enter Tryz.func7, Tryz.ntmps7
  go_wp2_with fail
  refine CN.out.mono ?_
  rintro e w1 ⟨t, F, rfl, hT, hF, hb1⟩
  have C1 : Hid (Calls Tryz.prog 15 #[.pointer (some ⟨t, 0, none⟩), .agg #[.int .i64 1, .int .i64 5, .int .i64 0, .int .i64 0, .int .i64 0, .int .i64 0, .int .i64 0, .int .i64 0, .int .i64 0, .int .i64 0, .int .i64 0, .int .i64 0, .int .i64 0, .int .i64 0, .int .i64 0, .int .i64 0, .int .i64 0, .int .i64 0, .int .i64 0]] w1 fun e w' => e = .returned (.int .i64 0) ∧ InsTab w1 w' t F [] fst1) := hide (by
    have := tins_any t fst1 w1 F [] hT
    rw [first_code1] at this
    exact this)
  have HF := hide hF
  have HB1 := hide hb1
  clear CN hT hF hb1
  go_wp2_with fail
  refine C1.out.mono ?_
  rintro e w2 ⟨rfl, F1, L1, hT1, hF1, hc1, hi1⟩
  rw [if_pos first_code1] at hi1
  obtain ⟨b1, hm1, hl1⟩ := hi1
  have hB2 : Below w.heap.size w w2 := HB1.out.trans (hc1.below HB1.out.size HF.out)
  have hF1' : ∀ x, F1 x → w.heap.size ≤ x := fun x hx => (hF1 x hx).elim (HF.out x) fun h => Nat.le_trans HB1.out.size h
  have C2 : Hid (Calls Tryz.prog 15 #[.pointer (some ⟨t, 0, none⟩), .agg #[.int .i64 2, .int .i64 9, .int .i64 0, .int .i64 0, .int .i64 0, .int .i64 0, .int .i64 0, .int .i64 0, .int .i64 0, .int .i64 0, .int .i64 0, .int .i64 0, .int .i64 0, .int .i64 0, .int .i64 1, .int .i64 80, .int .i64 90, .int .i64 1, .int .i64 0]] w2 fun e w' => e = .returned (.int .i64 0) ∧ InsTab w2 w' t F1 L1 fst2) := hide (by
    have := tins_any t fst2 w2 F1 L1 hT1
    rw [first_code2 hm1 hl1] at this
    exact this)
  have HF1 := hide hF1'
  have HB2 := hide hB2
  have HM1 := hide (And.intro hm1 hl1)
  clear C1 hT1 hF1 hc1 hm1 hl1 hF1' hB2 HF HB1
  go_wp2_with fail
  refine C2.out.mono ?_
  rintro e w3 ⟨rfl, F2, L2, hT2, hF2, hc2, hi2⟩
  rw [if_pos (first_code2 HM1.out.1 HM1.out.2)] at hi2
  obtain ⟨b2, hm2, hl2⟩ := hi2
  have hB3 : Below w.heap.size w w3 := HB2.out.trans (hc2.below HB2.out.size HF1.out)
  have hF2' : ∀ x, F2 x → w.heap.size ≤ x := fun x hx => (hF2 x hx).elim (HF1.out x) fun h => Nat.le_trans HB2.out.size h
  have hl2' : L2.length ≤ 2 := by have := HM1.out.2; rw [List.length_nil] at this; omega
  have C3 : Hid (Calls Tryz.prog 15 #[.pointer (some ⟨t, 0, none⟩), .agg #[.int .i64 3, .int .i64 9, .int .i64 0, .int .i64 0, .int .i64 0, .int .i64 0, .int .i64 0, .int .i64 0, .int .i64 0, .int .i64 6, .int .i64 255, .int .i64 0, .int .i64 0, .int .i64 0, .int .i64 0, .int .i64 0, .int .i64 0, .int .i64 0, .int .i64 0]] w3 fun e w' => e = .returned (.int .i64 0) ∧ InsTab w3 w' t F2 L2 fst3) := hide (by
    have := tins_any t fst3 w3 F2 L2 hT2
    rw [first_code3 HM1.out.1 hm2 hl2'] at this
    exact this)
  have HF2 := hide hF2'
  have HB3 := hide hB3
  have HM2 := hide (And.intro hm2 hl2')
  clear C2 hT2 hF2 hc2 hm2 hl2 hl2' hF2' hB3 HF1 HB2
  go_wp2_with fail
  refine C3.out.mono ?_
  rintro e w4 ⟨rfl, F3, L3, hT3, hF3, hc3, hi3⟩
  rw [if_pos (first_code3 HM1.out.1 HM2.out.1 HM2.out.2)] at hi3
  obtain ⟨b3, hm3, -⟩ := hi3
  have hL3 := first_list HM1.out.1 HM2.out.1 hm3 hT3.sorted'
  have hB4 : Below w.heap.size w w4 := HB3.out.trans (hc3.below HB3.out.size HF2.out)
  have hF3' : ∀ x, F3 x → w.heap.size ≤ x := fun x hx => (hF3 x hx).elim (HF2.out x) fun h => Nat.le_trans HB3.out.size h
  subst hL3
  have HT3 := hide hT3
  have HB4 := hide hB4
  have HF3 := hide hF3'
  have C4 := hide (findsV t 0 0 6 0 85 2 0 w4 F3 _ hT3 (first_find1 b1 b2 b3))
  clear C3 hT3 hF3 hc3 hm3 hF3' hB4 HF2 HB3 HM1 HM2
  go_wp2_with fail
  refine C4.out.mono ?_
  rintro e w5 ⟨rfl, hb5⟩
  have hT5 := HT3.out.still hb5
  have hB5 := HB4.out.trans (hb5.mono HB4.out.size)
  have C5 := hide (findsV t 0 0 6 0 91 3 0 w5 F3 _ hT5 (first_find2 b1 b2 b3))
  have HT5 := hide hT5
  have HB5 := hide hB5
  clear C4 hb5 hT5 hB5 HT3 HB4
  go_wp2_with fail
  refine C5.out.mono ?_
  rintro e w6 ⟨rfl, hb6⟩
  have hT6 := HT5.out.still hb6
  have hB6 := HB5.out.trans (hb6.mono HB5.out.size)
  have C6 := hide (findsV t 0 0 17 0 91 1 0 w6 F3 _ hT6 (first_find3 b1 b2 b3))
  have HT6 := hide hT6
  have HB6 := hide hB6
  clear C5 hb6 hT6 hB6 HT5 HB5
  go_wp2_with fail
  refine C6.out.mono ?_
  rintro e w7 ⟨rfl, hb7⟩
  have hT7 := HT6.out.still hb7
  have hB7 := HB6.out.trans (hb7.mono HB6.out.size)
  have C7 : Hid (Calls Tryz.prog 17 #[.pointer (some ⟨t, 0, none⟩), .int .i64 9] w7 fun e w' => e = .returned (.int .i64 7) ∧ TabIs w' t F3 [(b2, fst2), (b3, fst3), (b1, fst1)] ∧ Chg F3 w7 w') := hide (tdel_any t 9 w7 F3 _ hT7)
  have HB7 := hide hB7
  clear C6 hb7 hT7 hB7 HT6 HB6
  go_wp2_with fail
  refine C7.out.mono ?_
  rintro e w8 ⟨rfl, hT8, hc8⟩
  have hB8 := HB7.out.trans (hc8.below HB7.out.size HF3.out)
  have C8 := hide (trules_any t w8 F3 _ hT8)
  have HB8 := hide hB8
  clear C7 hT8 hc8 hB8 HB7 HF3
  go_wp2_with fail
  refine C8.out.mono ?_
  rintro e w9 ⟨g, cap, rfl, hown, hb9⟩
  have c0 : w9.cell? ⟨g, 0, none⟩ = some (.int .i64 2) := by
    have := hown.cells (g := g) rfl 0 (.int .i64 2) rfl
    rwa [Addr.add_mid] at this
  have hgl : g < w9.heap.size := block_lt_of_cell c0
  have HB9 := hide (HB8.out.trans (hb9.mono HB8.out.size))
  clear hown hb9 C8 HB8
  go_wp2
  go_ret
  exact ⟨rfl, HB9.out⟩
end Go.Proofs.YtnjalelblbjfiaaGreatDoor
