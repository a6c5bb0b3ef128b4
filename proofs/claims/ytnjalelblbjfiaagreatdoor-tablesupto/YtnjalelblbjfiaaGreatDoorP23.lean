import Derived.Test.YtnjalelblbjfiaaGreatDoorP22
namespace Go.Proofs.YtnjalelblbjfiaaGreatDoor
open Go.RowKit
open Go.Sort (grow)
attribute [local go_sem] Oper.semAt_some cell?_regrown
attribute [local go_sem ↓ high] xLoad_fold

set_option maxRecDepth 100000 in
set_option maxHeartbeats 4000000 in
theorem ltables_put (w : World) (wb : Nat) (tv sv kv : Value) (n : Nat) (Ts : List TabD) (Ks : List KeptD) (col : Nat → Nat) (oa oN oM oK : Int) (oS : ByteArray) (la : Option Addr) (ll lc : Nat) (r : Rl) (x0 x1 x2 x3 x4 : Int) (h : LW w wb tv sv kv n Ts Ks col) (ha : Agree Ts) (hoa : -9223372036854775808 ≤ oa ∧ oa ≤ 9223372036854775807) (hT0 : 0 < Ts.length) (hTl : Ts.length ≤ 1000000000) :
    Calls Tryz.prog 23 #[.pointer (some ⟨wb, 0, none⟩), .agg #[.int .i64 2, .int .i64 oa, .int .i64 oN, .int .i64 oM, .int .i64 oK, .string oS, .slice la ll lc, .int .i64 r.id, .int .i64 r.pr, .int .i64 r.k0, .int .i64 r.v0, .int .i64 r.m0, .int .i64 r.k1, .int .i64 r.v1, .int .i64 r.m1, .int .i64 r.k2, .int .i64 r.v2, .int .i64 r.m2, .int .i64 r.k3, .int .i64 r.v3, .int .i64 r.m3, .int .i64 r.k4, .int .i64 r.v4, .int .i64 r.m4, .int .i64 r.ac, .int .i64 r.po, .int .i64 x0, .int .i64 x1, .int .i64 x2, .int .i64 x3, .int .i64 x4]] w fun e W => e = .returned (.bool true) ∧ ∃ Ts' col', Ts'.length = Ts.length ∧ Agree Ts' ∧ LW W wb tv sv kv n Ts' Ks col' ∧ Went w W col col' := by
  obtain ⟨dr, hur, hdr⟩ := underRule
  obtain ⟨i, hi, hpk⟩ := pk_ex oa hT0
  obtain ⟨W1, hW1⟩ : ∃ W1, W1 = w.alloc (.cells #[.int .i64 2, .int .i64 oa, .int .i64 oN, .int .i64 oM, .int .i64 oK, .string oS, .slice la ll lc, .int .i64 r.id, .int .i64 r.pr, .int .i64 r.k0, .int .i64 r.v0, .int .i64 r.m0, .int .i64 r.k1, .int .i64 r.v1, .int .i64 r.m1, .int .i64 r.k2, .int .i64 r.v2, .int .i64 r.m2, .int .i64 r.k3, .int .i64 r.v3, .int .i64 r.m3, .int .i64 r.k4, .int .i64 r.v4, .int .i64 r.m4, .int .i64 r.ac, .int .i64 r.po, .int .i64 x0, .int .i64 x1, .int .i64 x2, .int .i64 x3, .int .i64 x4] 41) := ⟨_, rfl⟩
  obtain ⟨bk, hbk⟩ : ∃ bk, bk = w.heap.size := ⟨_, rfl⟩
  have hb1 : Below w.heap.size w W1 := by rw [hW1]; exact (Below.refl _ w).alloc (Nat.le_refl _) _
  have hk : W1.rangeAt bk 0 [.int .i64 2, .int .i64 oa, .int .i64 oN, .int .i64 oM, .int .i64 oK, .string oS, .slice la ll lc, .int .i64 r.id, .int .i64 r.pr, .int .i64 r.k0, .int .i64 r.v0, .int .i64 r.m0, .int .i64 r.k1, .int .i64 r.v1, .int .i64 r.m1, .int .i64 r.k2, .int .i64 r.v2, .int .i64 r.m2, .int .i64 r.k3, .int .i64 r.v3, .int .i64 r.m3, .int .i64 r.k4, .int .i64 r.v4, .int .i64 r.m4, .int .i64 r.ac, .int .i64 r.po, .int .i64 x0, .int .i64 x1, .int .i64 x2, .int .i64 x3, .int .i64 x4] := by rw [hW1, hbk]; exact range_new _ _ _
  obtain ⟨ta, tc, tg, htv, hrow⟩ := h.rT.tabs
  have hwc := cell_later hb1 h.c0
  have hwl : wb < w.heap.size := block_lt_of_cell h.c0
  have hwl1 : wb < W1.heap.size := block_lt_of_cell hwc
  rw [htv] at hwc
  obtain ⟨hta, hcell⟩ := hrow i hi
  have hcell1 := cell_later hb1 hcell
  have htg1 : tg < W1.heap.size := block_lt_of_cell hcell1
  have k0 : W1.cell? ⟨bk, 0, none⟩ = some (.int .i64 2) := hk 0 _ rfl
  have k1 : W1.cell? ⟨bk, 1, none⟩ = some (.int .i64 oa) := hk 1 _ rfl
  have hbl : bk < W1.heap.size := block_lt_of_cell k0
  have hT1 : ¬ (Ts.length : Int) = 0 := by omega
  have hii : (i : Int) < Ts.length := by omega
  have HTV := hide htv
  subst hta
  have CPK : Hid (∀ (d : Nat) (os : Array Obj), Calls Tryz.prog 26 #[.int .i64 oa, .int .i64 Ts.length] (grow (redrawn W1 d) os) fun e w' => e = .returned (.int .i64 i) ∧ Below (grow (redrawn W1 d) os).heap.size (grow (redrawn W1 d) os) w') := hide fun d os => (lpick_at oa Ts.length i (grow (redrawn W1 d) os) hoa (by omega) hpk hi).mono fun e w' hh => And.intro hh.1 (by rw [hh.2]; exact Below.refl _ _)
  have HH := hide h
  have HA := hide ha
  have HB1 := hide hb1
  have HK := hide hk
  have h00 := h.c0
  rw [htv] at h00
  obtain ⟨D, hD⟩ : ∃ D, D = Ts[i] := ⟨_, rfl⟩
  rw [← hD] at hcell1
  have HD := hide hD
  clear hD htv hrow hcell h ha hb1 hk hpk hoa
  go_enter Tryz.func23, Tryz.ntmps23
  go_wp2_with fail
  rw [← hW1, ← hbk]
  have HBK := hide hbk
  clear hW1 h00 hbk
  refine wp_region_quiet_below (by kernel_rfl) (by kernel_rfl) ?_
  repeat (quiet_step (exact Calls.regrown_of (CPK.out _ _)))
  refine wpQuiet_nil ?_; intro wq hwq; replace hwq := below_of_regrown hwq; obtain ⟨hcq, hfq⟩ := bcell hwq; have hzq := hwq.size
  have j0 := cell_later hwq k0
  have hbq : bk < wq.heap.size := block_lt_of_cell j0
  have HBQ := hide (HB1.out.trans (hwq.mono HB1.out.size))
  have HKQ := hide (rangeAt_below HK.out hwq)
  clear hwq hcq hfq hzq hwc hwl1 hcell1 htg1 k0 k1 hbl CPK HB1 HK
  have hd := (HH.out.tab i hi)
  rw [← HD.out] at hd
  have q0 := cell_later HBQ.out hd.c0
  have q1 := cell_later HBQ.out hd.c1
  have hpl : D.p < wq.heap.size := block_lt_of_cell q0
  have hr7 : wq.rangeAt bk 7 [.int .i64 r.id, .int .i64 r.pr, .int .i64 r.k0, .int .i64 r.v0, .int .i64 r.m0, .int .i64 r.k1, .int .i64 r.v1, .int .i64 r.m1, .int .i64 r.k2, .int .i64 r.v2, .int .i64 r.m2, .int .i64 r.k3, .int .i64 r.v3, .int .i64 r.m3, .int .i64 r.k4, .int .i64 r.v4, .int .i64 r.m4, .int .i64 r.ac, .int .i64 r.po] := step_rule HKQ.out
  have hld : (xLoad (.pointer (some ⟨bk, 7, none⟩))).run Tryz.prog wq.drew = .ok (.agg #[.int .i64 r.id, .int .i64 r.pr, .int .i64 r.k0, .int .i64 r.v0, .int .i64 r.m0, .int .i64 r.k1, .int .i64 r.v1, .int .i64 r.m1, .int .i64 r.k2, .int .i64 r.v2, .int .i64 r.m2, .int .i64 r.k3, .int .i64 r.v3, .int .i64 r.m3, .int .i64 r.k4, .int .i64 r.v4, .int .i64 r.m4, .int .i64 r.ac, .int .i64 r.po]) wq.drew := run_loadAt_mid wq.drew bk 7 37 [.int .i64 r.id, .int .i64 r.pr, .int .i64 r.k0, .int .i64 r.v0, .int .i64 r.m0, .int .i64 r.k1, .int .i64 r.v1, .int .i64 r.m1, .int .i64 r.k2, .int .i64 r.v2, .int .i64 r.m2, .int .i64 r.k3, .int .i64 r.v3, .int .i64 r.m3, .int .i64 r.k4, .int .i64 r.v4, .int .i64 r.m4, .int .i64 r.ac, .int .i64 r.po] dr hr7 hur hdr sizeRule
  obtain ⟨c, hcode⟩ : ∃ c, c = insCode D.L r := ⟨_, rfl⟩
  have CI : Hid (Calls Tryz.prog 15 #[.pointer (some ⟨D.t, 0, none⟩), .agg #[.int .i64 r.id, .int .i64 r.pr, .int .i64 r.k0, .int .i64 r.v0, .int .i64 r.m0, .int .i64 r.k1, .int .i64 r.v1, .int .i64 r.m1, .int .i64 r.k2, .int .i64 r.v2, .int .i64 r.m2, .int .i64 r.k3, .int .i64 r.v3, .int .i64 r.m3, .int .i64 r.k4, .int .i64 r.v4, .int .i64 r.m4, .int .i64 r.ac, .int .i64 r.po]] wq.drew fun e w' => e = .returned (.int .i64 c) ∧ InsTab wq.drew w' D.t D.F D.L r) := hide (by
    rw [hcode]
    exact tins_any D.t r wq.drew D.F D.L ((hd.tab.still HBQ.out).still ((Below.refl _ wq).drew)))
  have HQ1 := hide q1
  have HR7 := hide hr7
  have HFL := hide fun x (hx : D.F x) => hd.tab.lt hx
  have HCODE := hide hcode
  clear hd hr7 hcode
  go_wp2_with fail
  go_region_with
    (first | (go_at_call 15; refine CI.out.mono ?_; rintro e w2 ⟨rfl, hI⟩; have HI := hide hI; clear hI))
  all_goals
    have hbD : Below w.heap.size w wq.drew := HBQ.out.drew
    have hI : InsTab wq.drew w2 Ts[i].t Ts[i].F Ts[i].L r := by rw [← HD.out]; exact HI.out
    have HI2 := hide hI
    obtain ⟨F', L', hT2, hF2, hC2, -⟩ := hI
    obtain ⟨hR3, -, hp1, hpos⟩ := HH.out.midRef hi hbD hT2 hF2 hC2 ((Below.refl _ w2).drew)
    rw [← HD.out] at hR3 hp1 hC2
    have p1 : w2.cell? ⟨D.p, 1, none⟩ = some (.pointer (some ⟨D.y, 0, none⟩)) := hp1
    have hpl2 : D.p < w2.heap.size := block_lt_of_cell p1
    have hnb : ¬ D.F bk := fun hx => by have := HFL.out bk hx; rw [HBK.out] at this; omega
    have hr2 : w2.rangeAt bk 7 [.int .i64 r.id, .int .i64 r.pr, .int .i64 r.k0, .int .i64 r.v0, .int .i64 r.m0, .int .i64 r.k1, .int .i64 r.v1, .int .i64 r.m1, .int .i64 r.k2, .int .i64 r.v2, .int .i64 r.m2, .int .i64 r.k3, .int .i64 r.v3, .int .i64 r.m3, .int .i64 r.k4, .int .i64 r.v4, .int .i64 r.m4, .int .i64 r.ac, .int .i64 r.po] := fun j u hu => hC2.block.cell hnb (HR7.out j u hu)
    have hbl2 : bk < w2.heap.size := block_lt_of_cell (cell_at0 hr2)
    have hld2 : (xLoad (.pointer (some ⟨bk, 7, none⟩))).run Tryz.prog w2.drew = .ok (.agg #[.int .i64 r.id, .int .i64 r.pr, .int .i64 r.k0, .int .i64 r.v0, .int .i64 r.m0, .int .i64 r.k1, .int .i64 r.v1, .int .i64 r.m1, .int .i64 r.k2, .int .i64 r.v2, .int .i64 r.m2, .int .i64 r.k3, .int .i64 r.v3, .int .i64 r.m3, .int .i64 r.k4, .int .i64 r.v4, .int .i64 r.m4, .int .i64 r.ac, .int .i64 r.po]) w2.drew := run_loadAt_mid w2.drew bk 7 37 [.int .i64 r.id, .int .i64 r.pr, .int .i64 r.k0, .int .i64 r.v0, .int .i64 r.m0, .int .i64 r.k1, .int .i64 r.v1, .int .i64 r.m1, .int .i64 r.k2, .int .i64 r.v2, .int .i64 r.m2, .int .i64 r.k3, .int .i64 r.v3, .int .i64 r.m3, .int .i64 r.k4, .int .i64 r.v4, .int .i64 r.m4, .int .i64 r.ac, .int .i64 r.po] dr hr2 hur hdr sizeRule
    have CX := hide (xInsert_any 1 D.y 0 D.v D.rs r w2.drew hR3 ⟨by decide, hpos⟩)
    have FIN : Hid (∀ e W, XIns 1 D.y 0 D.v D.rs r w2.drew e W → e = .returned (.int .i64 c) ∧ ∃ Ts' col', Ts'.length = Ts.length ∧ Agree Ts' ∧ LW W wb tv sv kv n Ts' Ks col' ∧ Went w W col col') := hide fun e W hX => by
      rw [HCODE.out]
      have := put_done (r := r) (e := e) (W := W) (w3 := w2.drew) HH.out hi HA.out hbD HI2.out ((Below.refl _ w2).drew) (by rw [← HD.out]; exact hX)
      rwa [← HD.out] at this
    clear hT2 hF2 hC2 hR3 hp1 hpos hr2 hbD HI HI2 HH HA HBQ HKQ HQ1 HR7 HFL HCODE HBK HD hnb CI hld q0 q1 hpl
    go_wp2_with fail
    go_region_with
      (first | (go_at_call 25; refine (lnum_any _ _).mono ?_; rintro e w' ⟨rfl, hww⟩; rw [hww]; clear hww w') | (go_at_call 67; refine CX.out.mono ?_; rintro e W hX; obtain ⟨he, hf⟩ := FIN.out e W hX; rw [he]; have HF := hide hf; clear he hf hX))
    all_goals
      go_wp2
      go_ret
      exact ⟨rfl, HF.out⟩
end Go.Proofs.YtnjalelblbjfiaaGreatDoor
