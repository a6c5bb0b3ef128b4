import Derived.Test.YtnjalelblbjfiaaGreatDoorP16
import Derived.Deep.WholeRow
import Derived.Test.YtnjalelblbjfiaaGreatDoorP14
import Derived.Test.YtnjalelblbjfiaaGreatDoorP15
namespace Go.Proofs.YtnjalelblbjfiaaGreatDoor
open Go.RowKit
open Go.Sort (grow)

/-- Loads and stores of a rule, and append, not laid open by the walk. -/
def xLoad (v : Value) : Sem Value := Instr.loadAt 37 v
theorem xLoad_fold (v : Value) : Instr.loadAt 37 v = xLoad v := rfl
def xStore (p v : Value) : Sem Unit := Instr.storeAt 37 p v
theorem xStore_fold (p v : Value) : Instr.storeAt 37 p v = xStore p v := rfl
def xApp (ats : Array TypeId) (ty : TypeId) (args : Array Value) : Sem Next := do pure (.value (← Builtin.append_ ats ty args))
theorem xApp_fold (ats : Array TypeId) (ty : TypeId) (cs : Array Bool) (args : Array Value) : builtin .append ats ty cs args = xApp ats ty args := rfl
theorem xApp_run {P : Program} {ats : Array TypeId} {ty : TypeId} {args : Array Value} {w w' : World} {v : Value} (h : (Builtin.append_ ats ty args).run P w = .ok v w') : (xApp ats ty args).run P w = .ok (.value v) w' := by
  simp [xApp, h, Result.andThen]
theorem range_set_ne {g o b ob : Nat} {vs cs : List Value} {W : World} (hne : b ≠ g) (h : W.rangeAt b ob cs) : (W.setCells g o vs).drew.rangeAt b ob cs := fun i u hu => (cell?_setCells_ne vs o W ⟨b, ob + i, none⟩ hne).1.trans (h i u hu)
theorem cell_set_ne {g o b ob : Nat} {vs : List Value} {v : Value} {W : World} (hne : b ≠ g) (h : W.cell? ⟨b, ob, none⟩ = some v) : (W.drew.setCells g o vs).cell? ⟨b, ob, none⟩ = some v := (cell?_setCells_ne vs o W.drew ⟨b, ob, none⟩ hne).1.trans h
theorem there_drew {g o n : Nat} {W : World} (h : W.there g o n) : W.drew.there g o n := h
theorem bub_swapped {B y o g cap j : Nat} {rs : List Rl} {r q : Rl} {w W Wb Wc : World} (h : Bub B y o g cap rs r w (j + 1) W) (hk : j + 1 ≤ rs.length) (hq : q = rs[j]'(by omega)) (hb : r.before q = true) (hWb : Wb = W.setCells g ((j + 1) * 19) q.cells.toList) (hWc : Wc = Wb.drew.setCells g (j * 19) r.cells.toList) : Bub B y o g cap rs r w j Wc := by
  subst hq
  have h1 := h.swap hk hb
  rw [← hWb] at h1
  rw [hWc, setCells_drew]
  exact h1.below (Below.refl _ _).drew
attribute [local go_sem] Oper.semAt_some cell?_regrown
attribute [local go_sem high] buildRules
attribute [local go_sem ↓ high] xLoad_fold xStore_fold xApp_fold

set_option maxRecDepth 100000 in
set_option maxHeartbeats 2000000 in
theorem xInsert_any (B y o : Nat) (v : Value) (rs : List Rl) (r : Rl) (w : World) (h : RefAt B w y o v rs) (hB : 0 < B ∧ B ≤ w.heap.size) :
    Calls Tryz.prog 67 #[.pointer (some ⟨y, o, none⟩), .agg #[.int .i64 r.id, .int .i64 r.pr, .int .i64 r.k0, .int .i64 r.v0, .int .i64 r.m0, .int .i64 r.k1, .int .i64 r.v1, .int .i64 r.m1, .int .i64 r.k2, .int .i64 r.v2, .int .i64 r.m2, .int .i64 r.k3, .int .i64 r.v3, .int .i64 r.m3, .int .i64 r.k4, .int .i64 r.v4, .int .i64 r.m4, .int .i64 r.ac, .int .i64 r.po]] w (XIns B y o v rs r w) := by
  obtain ⟨dr, hur, hdr⟩ := underRule
  have h0 := h.1
  have hyl := block_lt_of_cell h0
  have hb0 : Below w.heap.size w (w.alloc (.cells #[.int .i64 r.id, .int .i64 r.pr, .int .i64 r.k0, .int .i64 r.v0, .int .i64 r.m0, .int .i64 r.k1, .int .i64 r.v1, .int .i64 r.m1, .int .i64 r.k2, .int .i64 r.v2, .int .i64 r.m2, .int .i64 r.k3, .int .i64 r.v3, .int .i64 r.m3, .int .i64 r.k4, .int .i64 r.v4, .int .i64 r.m4, .int .i64 r.ac, .int .i64 r.po] 37)) := (Below.refl _ w).alloc (Nat.le_refl _) _
  have CR := hide (xIsRule_any r (w.alloc (.cells #[.int .i64 r.id, .int .i64 r.pr, .int .i64 r.k0, .int .i64 r.v0, .int .i64 r.m0, .int .i64 r.k1, .int .i64 r.v1, .int .i64 r.m1, .int .i64 r.k2, .int .i64 r.v2, .int .i64 r.m2, .int .i64 r.k3, .int .i64 r.v3, .int .i64 r.m3, .int .i64 r.k4, .int .i64 r.v4, .int .i64 r.m4, .int .i64 r.ac, .int .i64 r.po] 37)))
  have hrg : (w.alloc (.cells #[.int .i64 r.id, .int .i64 r.pr, .int .i64 r.k0, .int .i64 r.v0, .int .i64 r.m0, .int .i64 r.k1, .int .i64 r.v1, .int .i64 r.m1, .int .i64 r.k2, .int .i64 r.v2, .int .i64 r.m2, .int .i64 r.k3, .int .i64 r.v3, .int .i64 r.m3, .int .i64 r.k4, .int .i64 r.v4, .int .i64 r.m4, .int .i64 r.ac, .int .i64 r.po] 37)).rangeAt w.heap.size 0 [.int .i64 r.id, .int .i64 r.pr, .int .i64 r.k0, .int .i64 r.v0, .int .i64 r.m0, .int .i64 r.k1, .int .i64 r.v1, .int .i64 r.m1, .int .i64 r.k2, .int .i64 r.v2, .int .i64 r.m2, .int .i64 r.k3, .int .i64 r.v3, .int .i64 r.m3, .int .i64 r.k4, .int .i64 r.v4, .int .i64 r.m4, .int .i64 r.ac, .int .i64 r.po] := range_new _ _ _
  have hld0 : (xLoad (.pointer (some ⟨w.heap.size, 0, none⟩))).run Tryz.prog (w.alloc (.cells #[.int .i64 r.id, .int .i64 r.pr, .int .i64 r.k0, .int .i64 r.v0, .int .i64 r.m0, .int .i64 r.k1, .int .i64 r.v1, .int .i64 r.m1, .int .i64 r.k2, .int .i64 r.v2, .int .i64 r.m2, .int .i64 r.k3, .int .i64 r.v3, .int .i64 r.m3, .int .i64 r.k4, .int .i64 r.v4, .int .i64 r.m4, .int .i64 r.ac, .int .i64 r.po] 37)) = .ok (.agg #[.int .i64 r.id, .int .i64 r.pr, .int .i64 r.k0, .int .i64 r.v0, .int .i64 r.m0, .int .i64 r.k1, .int .i64 r.v1, .int .i64 r.m1, .int .i64 r.k2, .int .i64 r.v2, .int .i64 r.m2, .int .i64 r.k3, .int .i64 r.v3, .int .i64 r.m3, .int .i64 r.k4, .int .i64 r.v4, .int .i64 r.m4, .int .i64 r.ac, .int .i64 r.po]) (w.alloc (.cells #[.int .i64 r.id, .int .i64 r.pr, .int .i64 r.k0, .int .i64 r.v0, .int .i64 r.m0, .int .i64 r.k1, .int .i64 r.v1, .int .i64 r.m1, .int .i64 r.k2, .int .i64 r.v2, .int .i64 r.m2, .int .i64 r.k3, .int .i64 r.v3, .int .i64 r.m3, .int .i64 r.k4, .int .i64 r.v4, .int .i64 r.m4, .int .i64 r.ac, .int .i64 r.po] 37)) := run_loadAt_mid _ w.heap.size 0 37 [.int .i64 r.id, .int .i64 r.pr, .int .i64 r.k0, .int .i64 r.v0, .int .i64 r.m0, .int .i64 r.k1, .int .i64 r.v1, .int .i64 r.m1, .int .i64 r.k2, .int .i64 r.v2, .int .i64 r.m2, .int .i64 r.k3, .int .i64 r.v3, .int .i64 r.m3, .int .i64 r.k4, .int .i64 r.v4, .int .i64 r.m4, .int .i64 r.ac, .int .i64 r.po] dr hrg hur hdr sizeRule
  have HH := hide h
  have HB := hide hB
  have HB0 := hide hb0
  have HRG := hide hrg
  clear h hB hb0 hrg
  go_enter Tryz.func67, Tryz.ntmps67
  go_wp2_with fail
  refine CR.out.mono ?_
  rintro e W1 ⟨rfl, hb1⟩
  have hsz1 := hb1.size
  rw [World.size_alloc] at hsz1
  have hB1 : Below w.heap.size w W1 := HB0.out.trans (hb1.mono (by simp))
  have hr1 : W1.rangeAt w.heap.size 0 [.int .i64 r.id, .int .i64 r.pr, .int .i64 r.k0, .int .i64 r.v0, .int .i64 r.m0, .int .i64 r.k1, .int .i64 r.v1, .int .i64 r.m1, .int .i64 r.k2, .int .i64 r.v2, .int .i64 r.m2, .int .i64 r.k3, .int .i64 r.v3, .int .i64 r.m3, .int .i64 r.k4, .int .i64 r.v4, .int .i64 r.m4, .int .i64 r.ac, .int .i64 r.po] := rangeAt_below HRG.out hb1
  have HB1 := hide hB1
  have HR1 := hide hr1
  have c0 : W1.cell? ⟨w.heap.size, 0, none⟩ = some (.int .i64 r.id) := cell_at0 hr1
  clear hb1 hB1 hr1 HB0 HRG CR hld0
  cases hok : r.ok with
  | false =>
    have HOK := hide hok
    clear hok
    go_wp2
    go_ret
    exact .inl ⟨rfl, HOK.out, HB1.out⟩
  | true =>
    have HOK := hide hok
    have H1 := hide (HH.out.below HB1.out)
    have CF := hide (xtfind_any B y o v rs r.id W1 H1.out)
    have hwl : w.heap.size < W1.heap.size := block_lt_of_cell c0
    clear hok
    go_wp2_with fail
    refine CF.out.mono ?_
    rintro e W ⟨hww, z, rfl, hz⟩
    rw [hww]
    clear hww W CF
    rcases hz with ⟨rfl, hno⟩ | ⟨k, hk, rfl, hid, -⟩
    · have HNO := hide hno
      clear hno
      obtain ⟨a1, cap1, g1, hv, _⟩ := H1.out.slice
      have k0 := H1.out.1
      have kf := H1.out.2.1
      have hy1 := block_lt_of_cell k0
      have hmx := H1.out.2.2.2.1
      by_cases hfull : 200 ≤ rs.length
      · have hfi : (200 : Int) ≤ rs.length := by omega
        have HF := hide hfull
        subst hv
        clear hfull
        go_wp2
        go_ret
        exact .inr (.inr (.inl ⟨rfl, HOK.out, HNO.out, HF.out, HB1.out⟩))
      · have hfi : ¬ (200 : Int) ≤ rs.length := by omega
        have hld1 : (xLoad (.pointer (some ⟨w.heap.size, 0, none⟩))).run Tryz.prog W1.drew = .ok (.agg #[.int .i64 r.id, .int .i64 r.pr, .int .i64 r.k0, .int .i64 r.v0, .int .i64 r.m0, .int .i64 r.k1, .int .i64 r.v1, .int .i64 r.m1, .int .i64 r.k2, .int .i64 r.v2, .int .i64 r.m2, .int .i64 r.k3, .int .i64 r.v3, .int .i64 r.m3, .int .i64 r.k4, .int .i64 r.v4, .int .i64 r.m4, .int .i64 r.ac, .int .i64 r.po]) W1.drew := run_loadAt_mid W1.drew w.heap.size 0 37 [.int .i64 r.id, .int .i64 r.pr, .int .i64 r.k0, .int .i64 r.v0, .int .i64 r.m0, .int .i64 r.k1, .int .i64 r.v1, .int .i64 r.m1, .int .i64 r.k2, .int .i64 r.v2, .int .i64 r.m2, .int .i64 r.k3, .int .i64 r.v3, .int .i64 r.m3, .int .i64 r.k4, .int .i64 r.v4, .int .i64 r.m4, .int .i64 r.ac, .int .i64 r.po] dr HR1.out hur hdr sizeRule
        obtain ⟨g, cap, w9, hap, hO9, hC9, hg9⟩ := append_rule (r := r) H1.out.2.2.1 (by have := HB.out.2; omega) (by omega)
        have hap2 := xApp_run hap
        have y9 := hC9.block.cell (H1.out.ne) k0
        have f9 : w9.frozen? ⟨y, o, none⟩ = false := (World.frozen?_of_block (a := ⟨y, o, none⟩) (hC9.block y hy1 H1.out.ne)).trans kf
        have hy9 := block_lt_of_cell y9
        subst hv
        have BS := hide (Bub.start H1.out.2.2.2.2 hO9 y9 f9)
        have FIN := hide fun (i : Nat) (W : World) => XIns.done (B := B) (y := y) (o := o) (i := i) (W := W) (cap := cap) H1.out.2.2.2.2 hyl H1.out.ne (by omega) HOK.out HNO.out HB1.out hC9 hg9
        clear hap hO9 hC9 hg9 HH HB HB1 HR1 HOK H1 HNO hmx
        go_wp2_with fail
        go_region
        have b0 := BS.out.cell
        have by0 := block_lt_of_cell b0
        go_wp2_with fail
        generalize w9.setCell ⟨y, o, none⟩ (.slice (some ⟨g, 0, none⟩) (rs.length + 1) cap) = W2 at *
        clear hld1 hap2 y9 f9 hy9 b0 by0 h0 hyl c0 hwl k0 kf hy1 hsz1
        go_loopw [7] (fun i wr => ∃ k : Nat, k ≤ rs.length ∧ i = .int .i64 k ∧ Bub B y o g cap rs r W2 k wr) (fun i _ => (intOf i).toNat)
        case atStart => exact ⟨rs.length, Nat.le_refl _, rfl, BS.out⟩
        case round =>
          obtain ⟨k, hk, rfl, hbub⟩ := hrel
          have HBUB := hide hbub
          clear hbub
          cases k with
          | zero =>
            go_wp2
            go_ret
            exact FIN.out 0 wr HBUB.out (Nat.zero_le _) (fun h => absurd h (Nat.lt_irrefl 0))
          | succ j =>
            obtain ⟨q, hq⟩ : ∃ q, q = rs[j]'(by omega) := ⟨_, rfl⟩
            have hr0 : wr.rangeAt g ((j + 1) * 19) [.int .i64 r.id, .int .i64 r.pr, .int .i64 r.k0, .int .i64 r.v0, .int .i64 r.m0, .int .i64 r.k1, .int .i64 r.v1, .int .i64 r.m1, .int .i64 r.k2, .int .i64 r.v2, .int .i64 r.m2, .int .i64 r.k3, .int .i64 r.v3, .int .i64 r.m3, .int .i64 r.k4, .int .i64 r.v4, .int .i64 r.m4, .int .i64 r.ac, .int .i64 r.po] := HBUB.out.range hk
            have hq0 : wr.rangeAt g (j * 19) [.int .i64 q.id, .int .i64 q.pr, .int .i64 q.k0, .int .i64 q.v0, .int .i64 q.m0, .int .i64 q.k1, .int .i64 q.v1, .int .i64 q.m1, .int .i64 q.k2, .int .i64 q.v2, .int .i64 q.m2, .int .i64 q.k3, .int .i64 q.v3, .int .i64 q.m3, .int .i64 q.k4, .int .i64 q.v4, .int .i64 q.m4, .int .i64 q.ac, .int .i64 q.po] := by have := HBUB.out.range0 hk; rw [← hq] at this; exact this
            have k0 := HBUB.out.cell
            have hyl : y < wr.heap.size := block_lt_of_cell k0
            have hgl : g < wr.heap.size := block_lt_of_cell (cell_at0 hr0)
            have hj1 : (j : Int) + 1 < rs.length + 1 := by omega
            have hj2 : (j : Int) < rs.length := by omega
            have hj3 : j < rs.length := by omega
            have hj4 : (0 : Int) ≤ (j : Int) + 1 := by omega
            have hj6 : j ≤ rs.length := by omega
            have hj7 : (j : Int) ≤ rs.length := by omega
            have hj8 : j < rs.length + 1 := by omega
            have hwj : IntKind.i64.wrap (j : Int) = j := by rw [IntKind.wrap_i64]; omega
            have hj5 : ¬ (j : Int) + 1 < 0 := by omega
            have hj0 : (j : Int) < rs.length + 1 := by omega
            have hrl : rs.length ≤ 200 := by omega
            have CA := hide fun d os => xahead_any r q (grow (redrawn wr d) os)
            have HQ := hide hq
            clear hq
            go_wp2_with fail
            refine wp_region_quiet_below (by kernel_rfl) (by kernel_rfl) ?_
            repeat (first | (refine wpQuiet_load_mid rfl 37 _ rfl g ((j + 1) * 19) rfl [.int .i64 r.id, .int .i64 r.pr, .int .i64 r.k0, .int .i64 r.v0, .int .i64 r.m0, .int .i64 r.k1, .int .i64 r.v1, .int .i64 r.m1, .int .i64 r.k2, .int .i64 r.v2, .int .i64 r.m2, .int .i64 r.k3, .int .i64 r.v3, .int .i64 r.m3, .int .i64 r.k4, .int .i64 r.v4, .int .i64 r.m4, .int .i64 r.ac, .int .i64 r.po] dr (fun w' h => range_regrown hr0 h) hur hdr sizeRule ?_) | (refine wpQuiet_load_mid rfl 37 _ rfl g (j * 19) rfl [.int .i64 q.id, .int .i64 q.pr, .int .i64 q.k0, .int .i64 q.v0, .int .i64 q.m0, .int .i64 q.k1, .int .i64 q.v1, .int .i64 q.m1, .int .i64 q.k2, .int .i64 q.v2, .int .i64 q.m2, .int .i64 q.k3, .int .i64 q.v3, .int .i64 q.m3, .int .i64 q.k4, .int .i64 q.v4, .int .i64 q.m4, .int .i64 q.ac, .int .i64 q.po] dr (fun w' h => range_regrown hq0 h) hur hdr sizeRule ?_) | quiet_step (exact Calls.regrown_of (CA.out _ _)))
            refine wpQuiet_nil ?_; intro wq hwq; replace hwq := below_of_regrown hwq; obtain ⟨hcq, hfq⟩ := bcell hwq; have hzq := hwq.size
            have BQ := hide (HBUB.out.below hwq)
            have kq : wq.cell? ⟨y, o, none⟩ = some (.slice (some ⟨g, 0, none⟩) (rs.length + 1) cap) := BQ.out.cell
            have hylq : y < wq.heap.size := block_lt_of_cell kq
            have hrq : wq.rangeAt g ((j + 1) * 19) [.int .i64 r.id, .int .i64 r.pr, .int .i64 r.k0, .int .i64 r.v0, .int .i64 r.m0, .int .i64 r.k1, .int .i64 r.v1, .int .i64 r.m1, .int .i64 r.k2, .int .i64 r.v2, .int .i64 r.m2, .int .i64 r.k3, .int .i64 r.v3, .int .i64 r.m3, .int .i64 r.k4, .int .i64 r.v4, .int .i64 r.m4, .int .i64 r.ac, .int .i64 r.po] := BQ.out.range hk
            clear hr0 hq0 k0 hyl hgl hcq hfq hzq hwq CA HBUB
            cases hbe : r.before q with
            | false =>
              have HBE := hide hbe
              clear hbe
              go_wp2
              go_ret
              exact FIN.out (j + 1) wq BQ.out hk (fun _ => by show r.before (rs[j]'_) = false; rw [← HQ.out]; exact HBE.out)
            | true =>
              have HBE := hide hbe
              clear hbe
              have hld2 : (xLoad (.pointer (some ⟨g, (j + 1) * 19, none⟩))).run Tryz.prog wq = .ok (.agg #[.int .i64 r.id, .int .i64 r.pr, .int .i64 r.k0, .int .i64 r.v0, .int .i64 r.m0, .int .i64 r.k1, .int .i64 r.v1, .int .i64 r.m1, .int .i64 r.k2, .int .i64 r.v2, .int .i64 r.m2, .int .i64 r.k3, .int .i64 r.v3, .int .i64 r.m3, .int .i64 r.k4, .int .i64 r.v4, .int .i64 r.m4, .int .i64 r.ac, .int .i64 r.po]) wq := run_loadAt_mid wq g ((j + 1) * 19) 37 [.int .i64 r.id, .int .i64 r.pr, .int .i64 r.k0, .int .i64 r.v0, .int .i64 r.m0, .int .i64 r.k1, .int .i64 r.v1, .int .i64 r.m1, .int .i64 r.k2, .int .i64 r.v2, .int .i64 r.m2, .int .i64 r.k3, .int .i64 r.v3, .int .i64 r.m3, .int .i64 r.k4, .int .i64 r.v4, .int .i64 r.m4, .int .i64 r.ac, .int .i64 r.po] dr hrq hur hdr sizeRule
              have hst2 : (xStore (.pointer (some ⟨wq.heap.size, 0, none⟩)) (.agg #[.int .i64 r.id, .int .i64 r.pr, .int .i64 r.k0, .int .i64 r.v0, .int .i64 r.m0, .int .i64 r.k1, .int .i64 r.v1, .int .i64 r.m1, .int .i64 r.k2, .int .i64 r.v2, .int .i64 r.m2, .int .i64 r.k3, .int .i64 r.v3, .int .i64 r.m3, .int .i64 r.k4, .int .i64 r.v4, .int .i64 r.m4, .int .i64 r.ac, .int .i64 r.po])).run Tryz.prog (wq.alloc (.cells #[.int .i64 0, .int .i64 0, .int .i64 0, .int .i64 0, .int .i64 0, .int .i64 0, .int .i64 0, .int .i64 0, .int .i64 0, .int .i64 0, .int .i64 0, .int .i64 0, .int .i64 0, .int .i64 0, .int .i64 0, .int .i64 0, .int .i64 0, .int .i64 0, .int .i64 0] 37)) = .ok () (wq.alloc (.cells #[.int .i64 r.id, .int .i64 r.pr, .int .i64 r.k0, .int .i64 r.v0, .int .i64 r.m0, .int .i64 r.k1, .int .i64 r.v1, .int .i64 r.m1, .int .i64 r.k2, .int .i64 r.v2, .int .i64 r.m2, .int .i64 r.k3, .int .i64 r.v3, .int .i64 r.m3, .int .i64 r.k4, .int .i64 r.v4, .int .i64 r.m4, .int .i64 r.ac, .int .i64 r.po] 37)) := run_storeAt_new wq 37 #[.int .i64 0, .int .i64 0, .int .i64 0, .int .i64 0, .int .i64 0, .int .i64 0, .int .i64 0, .int .i64 0, .int .i64 0, .int .i64 0, .int .i64 0, .int .i64 0, .int .i64 0, .int .i64 0, .int .i64 0, .int .i64 0, .int .i64 0, .int .i64 0, .int .i64 0] #[.int .i64 r.id, .int .i64 r.pr, .int .i64 r.k0, .int .i64 r.v0, .int .i64 r.m0, .int .i64 r.k1, .int .i64 r.v1, .int .i64 r.m1, .int .i64 r.k2, .int .i64 r.v2, .int .i64 r.m2, .int .i64 r.k3, .int .i64 r.v3, .int .i64 r.m3, .int .i64 r.k4, .int .i64 r.v4, .int .i64 r.m4, .int .i64 r.ac, .int .i64 r.po] sizeRule rfl (ones r)
              have BA := hide (BQ.out.below (W' := (wq.alloc (.cells #[.int .i64 r.id, .int .i64 r.pr, .int .i64 r.k0, .int .i64 r.v0, .int .i64 r.m0, .int .i64 r.k1, .int .i64 r.v1, .int .i64 r.m1, .int .i64 r.k2, .int .i64 r.v2, .int .i64 r.m2, .int .i64 r.k3, .int .i64 r.v3, .int .i64 r.m3, .int .i64 r.k4, .int .i64 r.v4, .int .i64 r.m4, .int .i64 r.ac, .int .i64 r.po] 37)).drew) (((Below.refl _ wq).alloc (Nat.le_refl _) _).drew))
              have hla : (wq.alloc (.cells #[.int .i64 r.id, .int .i64 r.pr, .int .i64 r.k0, .int .i64 r.v0, .int .i64 r.m0, .int .i64 r.k1, .int .i64 r.v1, .int .i64 r.m1, .int .i64 r.k2, .int .i64 r.v2, .int .i64 r.m2, .int .i64 r.k3, .int .i64 r.v3, .int .i64 r.m3, .int .i64 r.k4, .int .i64 r.v4, .int .i64 r.m4, .int .i64 r.ac, .int .i64 r.po] 37)).drew.rangeAt wq.heap.size 0 [.int .i64 r.id, .int .i64 r.pr, .int .i64 r.k0, .int .i64 r.v0, .int .i64 r.m0, .int .i64 r.k1, .int .i64 r.v1, .int .i64 r.m1, .int .i64 r.k2, .int .i64 r.v2, .int .i64 r.m2, .int .i64 r.k3, .int .i64 r.v3, .int .i64 r.m3, .int .i64 r.k4, .int .i64 r.v4, .int .i64 r.m4, .int .i64 r.ac, .int .i64 r.po] := range_new _ _ _
              have ba0 : (wq.alloc (.cells #[.int .i64 r.id, .int .i64 r.pr, .int .i64 r.k0, .int .i64 r.v0, .int .i64 r.m0, .int .i64 r.k1, .int .i64 r.v1, .int .i64 r.m1, .int .i64 r.k2, .int .i64 r.v2, .int .i64 r.m2, .int .i64 r.k3, .int .i64 r.v3, .int .i64 r.m3, .int .i64 r.k4, .int .i64 r.v4, .int .i64 r.m4, .int .i64 r.ac, .int .i64 r.po] 37)).cell? ⟨y, o, none⟩ = some (.slice (some ⟨g, 0, none⟩) (rs.length + 1) cap) := BA.out.cell
              have hya : y < (wq.alloc (.cells #[.int .i64 r.id, .int .i64 r.pr, .int .i64 r.k0, .int .i64 r.v0, .int .i64 r.m0, .int .i64 r.k1, .int .i64 r.v1, .int .i64 r.m1, .int .i64 r.k2, .int .i64 r.v2, .int .i64 r.m2, .int .i64 r.k3, .int .i64 r.v3, .int .i64 r.m3, .int .i64 r.k4, .int .i64 r.v4, .int .i64 r.m4, .int .i64 r.ac, .int .i64 r.po] 37)).heap.size := block_lt_of_cell ba0
              have hqa : (wq.alloc (.cells #[.int .i64 r.id, .int .i64 r.pr, .int .i64 r.k0, .int .i64 r.v0, .int .i64 r.m0, .int .i64 r.k1, .int .i64 r.v1, .int .i64 r.m1, .int .i64 r.k2, .int .i64 r.v2, .int .i64 r.m2, .int .i64 r.k3, .int .i64 r.v3, .int .i64 r.m3, .int .i64 r.k4, .int .i64 r.v4, .int .i64 r.m4, .int .i64 r.ac, .int .i64 r.po] 37)).drew.rangeAt g (j * 19) [.int .i64 q.id, .int .i64 q.pr, .int .i64 q.k0, .int .i64 q.v0, .int .i64 q.m0, .int .i64 q.k1, .int .i64 q.v1, .int .i64 q.m1, .int .i64 q.k2, .int .i64 q.v2, .int .i64 q.m2, .int .i64 q.k3, .int .i64 q.v3, .int .i64 q.m3, .int .i64 q.k4, .int .i64 q.v4, .int .i64 q.m4, .int .i64 q.ac, .int .i64 q.po] := by have h := BA.out.range0 hk; rw [← HQ.out] at h; exact h
              have hld3 : (xLoad (.pointer (some ⟨g, j * 19, none⟩))).run Tryz.prog (wq.alloc (.cells #[.int .i64 r.id, .int .i64 r.pr, .int .i64 r.k0, .int .i64 r.v0, .int .i64 r.m0, .int .i64 r.k1, .int .i64 r.v1, .int .i64 r.m1, .int .i64 r.k2, .int .i64 r.v2, .int .i64 r.m2, .int .i64 r.k3, .int .i64 r.v3, .int .i64 r.m3, .int .i64 r.k4, .int .i64 r.v4, .int .i64 r.m4, .int .i64 r.ac, .int .i64 r.po] 37)).drew = .ok (.agg #[.int .i64 q.id, .int .i64 q.pr, .int .i64 q.k0, .int .i64 q.v0, .int .i64 q.m0, .int .i64 q.k1, .int .i64 q.v1, .int .i64 q.m1, .int .i64 q.k2, .int .i64 q.v2, .int .i64 q.m2, .int .i64 q.k3, .int .i64 q.v3, .int .i64 q.m3, .int .i64 q.k4, .int .i64 q.v4, .int .i64 q.m4, .int .i64 q.ac, .int .i64 q.po]) (wq.alloc (.cells #[.int .i64 r.id, .int .i64 r.pr, .int .i64 r.k0, .int .i64 r.v0, .int .i64 r.m0, .int .i64 r.k1, .int .i64 r.v1, .int .i64 r.m1, .int .i64 r.k2, .int .i64 r.v2, .int .i64 r.m2, .int .i64 r.k3, .int .i64 r.v3, .int .i64 r.m3, .int .i64 r.k4, .int .i64 r.v4, .int .i64 r.m4, .int .i64 r.ac, .int .i64 r.po] 37)).drew := run_loadAt_mid _ g (j * 19) 37 [.int .i64 q.id, .int .i64 q.pr, .int .i64 q.k0, .int .i64 q.v0, .int .i64 q.m0, .int .i64 q.k1, .int .i64 q.v1, .int .i64 q.m1, .int .i64 q.k2, .int .i64 q.v2, .int .i64 q.m2, .int .i64 q.k3, .int .i64 q.v3, .int .i64 q.m3, .int .i64 q.k4, .int .i64 q.v4, .int .i64 q.m4, .int .i64 q.ac, .int .i64 q.po] dr hqa hur hdr sizeRule
              obtain ⟨Wb, hWb⟩ : ∃ Wb, Wb = (wq.alloc (.cells #[.int .i64 r.id, .int .i64 r.pr, .int .i64 r.k0, .int .i64 r.v0, .int .i64 r.m0, .int .i64 r.k1, .int .i64 r.v1, .int .i64 r.m1, .int .i64 r.k2, .int .i64 r.v2, .int .i64 r.m2, .int .i64 r.k3, .int .i64 r.v3, .int .i64 r.m3, .int .i64 r.k4, .int .i64 r.v4, .int .i64 r.m4, .int .i64 r.ac, .int .i64 r.po] 37)).drew.setCells g ((j + 1) * 19) q.cells.toList := ⟨_, rfl⟩
              have hst3 : (xStore (.pointer (some ⟨g, (j + 1) * 19, none⟩)) (.agg #[.int .i64 q.id, .int .i64 q.pr, .int .i64 q.k0, .int .i64 q.v0, .int .i64 q.m0, .int .i64 q.k1, .int .i64 q.v1, .int .i64 q.m1, .int .i64 q.k2, .int .i64 q.v2, .int .i64 q.m2, .int .i64 q.k3, .int .i64 q.v3, .int .i64 q.m3, .int .i64 q.k4, .int .i64 q.v4, .int .i64 q.m4, .int .i64 q.ac, .int .i64 q.po])).run Tryz.prog (wq.alloc (.cells #[.int .i64 r.id, .int .i64 r.pr, .int .i64 r.k0, .int .i64 r.v0, .int .i64 r.m0, .int .i64 r.k1, .int .i64 r.v1, .int .i64 r.m1, .int .i64 r.k2, .int .i64 r.v2, .int .i64 r.m2, .int .i64 r.k3, .int .i64 r.v3, .int .i64 r.m3, .int .i64 r.k4, .int .i64 r.v4, .int .i64 r.m4, .int .i64 r.ac, .int .i64 r.po] 37)).drew = .ok () Wb := by
                rw [hWb]
                exact run_storeAt_mid _ g ((j + 1) * 19) 37 q.cells (BA.out.there hk hk) sizeRule (ones q)
              have hng : wq.heap.size ≠ g := fun e => by
                have := block_lt_of_cell (cell_at0 hrq)
                rw [e] at this
                exact Nat.lt_irrefl _ this
              have hlb : Wb.drew.rangeAt wq.heap.size 0 [.int .i64 r.id, .int .i64 r.pr, .int .i64 r.k0, .int .i64 r.v0, .int .i64 r.m0, .int .i64 r.k1, .int .i64 r.v1, .int .i64 r.m1, .int .i64 r.k2, .int .i64 r.v2, .int .i64 r.m2, .int .i64 r.k3, .int .i64 r.v3, .int .i64 r.m3, .int .i64 r.k4, .int .i64 r.v4, .int .i64 r.m4, .int .i64 r.ac, .int .i64 r.po] := by
                rw [hWb]
                exact range_set_ne hng hla
              have bb0 : Wb.cell? ⟨y, o, none⟩ = some (.slice (some ⟨g, 0, none⟩) (rs.length + 1) cap) := by
                rw [hWb]
                exact cell_set_ne (Ne.symm BQ.out.ne) ba0
              have hyb : y < Wb.heap.size := block_lt_of_cell bb0
              have hnb : wq.heap.size < Wb.heap.size := block_lt_of_cell (cell_at0 hlb)
              have hld4 : (xLoad (.pointer (some ⟨wq.heap.size, 0, none⟩))).run Tryz.prog Wb.drew = .ok (.agg #[.int .i64 r.id, .int .i64 r.pr, .int .i64 r.k0, .int .i64 r.v0, .int .i64 r.m0, .int .i64 r.k1, .int .i64 r.v1, .int .i64 r.m1, .int .i64 r.k2, .int .i64 r.v2, .int .i64 r.m2, .int .i64 r.k3, .int .i64 r.v3, .int .i64 r.m3, .int .i64 r.k4, .int .i64 r.v4, .int .i64 r.m4, .int .i64 r.ac, .int .i64 r.po]) Wb.drew := run_loadAt_mid _ wq.heap.size 0 37 [.int .i64 r.id, .int .i64 r.pr, .int .i64 r.k0, .int .i64 r.v0, .int .i64 r.m0, .int .i64 r.k1, .int .i64 r.v1, .int .i64 r.m1, .int .i64 r.k2, .int .i64 r.v2, .int .i64 r.m2, .int .i64 r.k3, .int .i64 r.v3, .int .i64 r.m3, .int .i64 r.k4, .int .i64 r.v4, .int .i64 r.m4, .int .i64 r.ac, .int .i64 r.po] dr hlb hur hdr sizeRule
              obtain ⟨Wc, hWc⟩ : ∃ Wc, Wc = Wb.drew.setCells g (j * 19) r.cells.toList := ⟨_, rfl⟩
              have hst4 : (xStore (.pointer (some ⟨g, j * 19, none⟩)) (.agg #[.int .i64 r.id, .int .i64 r.pr, .int .i64 r.k0, .int .i64 r.v0, .int .i64 r.m0, .int .i64 r.k1, .int .i64 r.v1, .int .i64 r.m1, .int .i64 r.k2, .int .i64 r.v2, .int .i64 r.m2, .int .i64 r.k3, .int .i64 r.v3, .int .i64 r.m3, .int .i64 r.k4, .int .i64 r.v4, .int .i64 r.m4, .int .i64 r.ac, .int .i64 r.po])).run Tryz.prog Wb.drew = .ok () Wc := by
                rw [hWc]
                refine run_storeAt_mid _ g (j * 19) 37 r.cells ?_ sizeRule (ones r)
                have h := BA.out.there2 hk
                rw [← HQ.out] at h
                rw [hWb]
                exact there_drew h
              have BC : Hid (Bub B y o g cap rs r W2 j Wc) := hide (bub_swapped BA.out hk HQ.out HBE.out hWb hWc)
              clear hWb hWc hqa hla hlb hrq BA BQ HBE
              go_wp2_with fail
              go_region
              go_wp2_with fail
              go_region
              go_wp2_with fail
              go_roundw
              case rel => exact ⟨j, hj6, by go_num, BC.out⟩
              case measure => simp [intOf]

    · have HX : Hid (∃ q ∈ rs, q.id = r.id) := hide ⟨_, List.getElem_mem hk, hid⟩
      have hki : (0 : Int) ≤ k := by omega
      clear hk hid
      go_wp2
      go_ret
      exact .inr (.inl ⟨rfl, HOK.out, HX.out, HB1.out⟩)
end Go.Proofs.YtnjalelblbjfiaaGreatDoor

namespace Go.Proofs.YtnjalelblbjfiaaGreatDoor
open Go.RowKit
open Go.Sort (grow)

/-- The rules of a table's entries. -/
abbrev rls (L : List Ent) : List Rl := L.map (·.2)
/-- What the first rule that matches says is what the table finds. -/
theorem first_is {L : List Ent} {x0 x1 x2 x3 x4 z : Int} (hs : Sorted L) (hk : keyB x0 x1 x2 x3 x4 = true) (h : XFirst (rls L) x0 x1 x2 x3 x4 z) : (z = -1 → FindIs L x0 x1 x2 x3 x4 0 7) ∧ ∀ k (hk : k < (rls L).length), z = k → FindIs L x0 x1 x2 x3 x4 (rls L)[k].id 0 := by
  refine ⟨fun e => ?_, fun k hl e => ?_⟩
  · rcases h with ⟨_, hn⟩ | ⟨k, _, e', _⟩
    · unfold FindIs
      rw [if_pos hk]
      exact ⟨none, fun e he => hn e.2 (List.mem_map.2 ⟨e, he, rfl⟩), rfl, rfl⟩
    · omega
  · rcases h with ⟨e', _⟩ | ⟨j, hj, e', hh, hn⟩
    · omega
    · obtain rfl : j = k := by omega
      have hl' : j < L.length := by rw [List.length_map] at hl; exact hl
      unfold FindIs
      rw [if_pos hk]
      rw [List.getElem_map] at hh
      refine ⟨some L[j], ⟨List.getElem_mem hl', hh, fun e he heh => ?_⟩, by rw [List.getElem_map], rfl⟩
      obtain ⟨i, hi, rfl⟩ := List.getElem_of_mem he
      rcases Nat.lt_trichotomy i j with hij | rfl | hij
      · have := hn i hij
        rw [List.getElem_map] at this
        rw [this] at heh; cases heh
      · exact Rl.before_irrefl _
      · exact Rl.before_asymm (List.pairwise_iff_getElem.1 hs j i hl' hi hij)
set_option maxRecDepth 100000 in
set_option maxHeartbeats 2000000 in
theorem xFind_any (B y o : Nat) (v : Value) (L : List Ent) (x0 x1 x2 x3 x4 : Int) (w : World) (h : RefAt B w y o v (rls L)) (hok : ∀ r ∈ rls L, r.ok = true) (hs : Sorted L) :
    Calls Tryz.prog 126 #[.pointer (some ⟨y, o, none⟩), .agg #[.int .i64 x0, .int .i64 x1, .int .i64 x2, .int .i64 x3, .int .i64 x4]] w fun e w' => (∃ a b, e = .returned (.tuple #[.int .i64 a, .int .i64 b]) ∧ FindIs L x0 x1 x2 x3 x4 a b) ∧ Below w.heap.size w w' := by
  have CN := hide fun (i : Nat) (n : Int) (W : World) (hi : i < 5) => xnumber_any i n W hi
  have CF := hide fun (W : World) (hb : Below w.heap.size w W) => xFirst_any B y o v (rls L) x0 x1 x2 x3 x4 W (show RefAt B W y o v (rls L) from ⟨cell_later hb h.1, (hb.frozen (p := ⟨y, o, none⟩) (block_lt_of_cell h.1)).trans h.2.1, h.2.2.1.below hb, h.2.2.2⟩) hok
  have HFI := hide fun (z : Int) (hk : keyB x0 x1 x2 x3 x4 = true) => first_is (z := z) hs hk
  obtain ⟨a, cap, g, rfl, hc⟩ := h.slice
  have hy0 := h.1
  have hn := h.2.2.2.1
  have hyl := block_lt_of_cell hy0
  have HC := hide hc
  clear h hc hok hs
  generalize rls L = rs at *
  go_enter Tryz.func126, Tryz.ntmps126
  go_wp2_with fail
  go_loopw [6, 7] (fun i _ wr => ∃ k : Nat, k ≤ 5 ∧ i = .int .i64 k ∧ Below w.heap.size w wr ∧ w.heap.size < wr.heap.size ∧ wr.rangeAt w.heap.size 0 [.int .i64 x0, .int .i64 x1, .int .i64 x2, .int .i64 x3, .int .i64 x4] ∧ (0 < k → hasB 0 4294967295 x0 = true) ∧ (1 < k → hasB 0 4294967295 x1 = true) ∧ (2 < k → hasB 0 255 x2 = true) ∧ (3 < k → hasB 0 65535 x3 = true) ∧ (4 < k → hasB 0 65535 x4 = true)) (fun i _ _ => 5 - (intOf i).toNat)
  case atStart => exact ⟨0, by omega, rfl, (by repeat (first | exact Below.refl _ _ | assumption | refine Below.drewN ?_ | refine Below.drew ?_ | refine Below.setCell ?_ (by first | exact Nat.le_refl _ | omega | (simp; done) | (simp; omega)) _ | refine Below.alloc ?_ (by first | exact Nat.le_refl _ | omega | (simp; done) | (simp; omega)) _)), by simp, range_new _ _ _, by omega, by omega, by omega, by omega, by omega⟩
  case round =>
    obtain ⟨k, hk, rfl, hb, hlt, hx, h0, h1, h2, h3, h4⟩ := hrel
    match k, hk with
    | 0, _ =>
      have cx : wr.cell? ⟨w.heap.size, 0, none⟩ = some (.int .i64 x0) := hx 0 _ rfl
      have HX := hide hx
      have HB := hide hb
      clear hx hb h0 h1 h2 h3 h4
      go_wp2_with fail
      refine (CN.out 0 x0 _ (by omega)).mono ?_
      rintro e W ⟨rfl, hww⟩
      rw [hww]
      clear hww W
      have HM : Hid (hasB 0 (mostN 0) x0 = hasB 0 4294967295 x0) := hide rfl
      generalize hasB 0 (mostN 0) x0 = q at *
      cases q with
      | false =>
        have HK : Hid (keyB x0 x1 x2 x3 x4 = false) := hide (by unfold keyB; rw [← HM.out]; simp)
        go_wp2
        go_ret2
        exact ⟨⟨0, 4, rfl, by unfold FindIs; rw [if_neg (by rw [HK.out]; decide)]; exact ⟨rfl, rfl⟩⟩, HB.out⟩
      | true =>
        go_wp2
        go_roundw
        case rel => exact ⟨1, by omega, rfl, HB.out, hlt, HX.out, fun _ => HM.out.symm, by omega, by omega, by omega, by omega⟩
        case measure => simp [intOf]
    | 1, _ =>
      have cx : wr.cell? ⟨w.heap.size, 1, none⟩ = some (.int .i64 x1) := hx 1 _ rfl
      have HX := hide hx
      have HB := hide hb
      have H0 := hide (h0 (by omega))
      clear hx hb h0 h1 h2 h3 h4
      go_wp2_with fail
      refine (CN.out 1 x1 _ (by omega)).mono ?_
      rintro e W ⟨rfl, hww⟩
      rw [hww]
      clear hww W
      have HM : Hid (hasB 0 (mostN 1) x1 = hasB 0 4294967295 x1) := hide rfl
      generalize hasB 0 (mostN 1) x1 = q at *
      cases q with
      | false =>
        have HK : Hid (keyB x0 x1 x2 x3 x4 = false) := hide (by unfold keyB; rw [← HM.out]; simp)
        go_wp2
        go_ret2
        exact ⟨⟨0, 4, rfl, by unfold FindIs; rw [if_neg (by rw [HK.out]; decide)]; exact ⟨rfl, rfl⟩⟩, HB.out⟩
      | true =>
        go_wp2
        go_roundw
        case rel => exact ⟨2, by omega, rfl, HB.out, hlt, HX.out, fun _ => H0.out, fun _ => HM.out.symm, by omega, by omega, by omega⟩
        case measure => simp [intOf]
    | 2, _ =>
      have cx : wr.cell? ⟨w.heap.size, 2, none⟩ = some (.int .i64 x2) := hx 2 _ rfl
      have HX := hide hx
      have HB := hide hb
      have H0 := hide (h0 (by omega))
      have H1 := hide (h1 (by omega))
      clear hx hb h0 h1 h2 h3 h4
      go_wp2_with fail
      refine (CN.out 2 x2 _ (by omega)).mono ?_
      rintro e W ⟨rfl, hww⟩
      rw [hww]
      clear hww W
      have HM : Hid (hasB 0 (mostN 2) x2 = hasB 0 255 x2) := hide rfl
      generalize hasB 0 (mostN 2) x2 = q at *
      cases q with
      | false =>
        have HK : Hid (keyB x0 x1 x2 x3 x4 = false) := hide (by unfold keyB; rw [← HM.out]; simp)
        go_wp2
        go_ret2
        exact ⟨⟨0, 4, rfl, by unfold FindIs; rw [if_neg (by rw [HK.out]; decide)]; exact ⟨rfl, rfl⟩⟩, HB.out⟩
      | true =>
        go_wp2
        go_roundw
        case rel => exact ⟨3, by omega, rfl, HB.out, hlt, HX.out, fun _ => H0.out, fun _ => H1.out, fun _ => HM.out.symm, by omega, by omega⟩
        case measure => simp [intOf]
    | 3, _ =>
      have cx : wr.cell? ⟨w.heap.size, 3, none⟩ = some (.int .i64 x3) := hx 3 _ rfl
      have HX := hide hx
      have HB := hide hb
      have H0 := hide (h0 (by omega))
      have H1 := hide (h1 (by omega))
      have H2 := hide (h2 (by omega))
      clear hx hb h0 h1 h2 h3 h4
      go_wp2_with fail
      refine (CN.out 3 x3 _ (by omega)).mono ?_
      rintro e W ⟨rfl, hww⟩
      rw [hww]
      clear hww W
      have HM : Hid (hasB 0 (mostN 3) x3 = hasB 0 65535 x3) := hide rfl
      generalize hasB 0 (mostN 3) x3 = q at *
      cases q with
      | false =>
        have HK : Hid (keyB x0 x1 x2 x3 x4 = false) := hide (by unfold keyB; rw [← HM.out]; simp)
        go_wp2
        go_ret2
        exact ⟨⟨0, 4, rfl, by unfold FindIs; rw [if_neg (by rw [HK.out]; decide)]; exact ⟨rfl, rfl⟩⟩, HB.out⟩
      | true =>
        go_wp2
        go_roundw
        case rel => exact ⟨4, by omega, rfl, HB.out, hlt, HX.out, fun _ => H0.out, fun _ => H1.out, fun _ => H2.out, fun _ => HM.out.symm, by omega⟩
        case measure => simp [intOf]
    | 4, _ =>
      have cx : wr.cell? ⟨w.heap.size, 4, none⟩ = some (.int .i64 x4) := hx 4 _ rfl
      have HX := hide hx
      have HB := hide hb
      have H0 := hide (h0 (by omega))
      have H1 := hide (h1 (by omega))
      have H2 := hide (h2 (by omega))
      have H3 := hide (h3 (by omega))
      clear hx hb h0 h1 h2 h3 h4
      go_wp2_with fail
      refine (CN.out 4 x4 _ (by omega)).mono ?_
      rintro e W ⟨rfl, hww⟩
      rw [hww]
      clear hww W
      have HM : Hid (hasB 0 (mostN 4) x4 = hasB 0 65535 x4) := hide rfl
      generalize hasB 0 (mostN 4) x4 = q at *
      cases q with
      | false =>
        have HK : Hid (keyB x0 x1 x2 x3 x4 = false) := hide (by unfold keyB; rw [← HM.out]; simp)
        go_wp2
        go_ret2
        exact ⟨⟨0, 4, rfl, by unfold FindIs; rw [if_neg (by rw [HK.out]; decide)]; exact ⟨rfl, rfl⟩⟩, HB.out⟩
      | true =>
        go_wp2
        go_roundw
        case rel => exact ⟨5, by omega, rfl, HB.out, hlt, HX.out, fun _ => H0.out, fun _ => H1.out, fun _ => H2.out, fun _ => H3.out, fun _ => HM.out.symm⟩
        case measure => simp [intOf]
    | 5, _ =>
      have HK : Hid (keyB x0 x1 x2 x3 x4 = true) := hide (by unfold keyB; rw [h0 (by omega), h1 (by omega), h2 (by omega), h3 (by omega), h4 (by omega)]; rfl)
      have CF2 := hide (CF.out _ hb)
      have c0 : wr.cell? ⟨w.heap.size, 0, none⟩ = some (.int .i64 x0) := hx 0 _ rfl
      have c1 : wr.cell? ⟨w.heap.size, 1, none⟩ = some (.int .i64 x1) := hx 1 _ rfl
      have c2 : wr.cell? ⟨w.heap.size, 2, none⟩ = some (.int .i64 x2) := hx 2 _ rfl
      have c3 : wr.cell? ⟨w.heap.size, 3, none⟩ = some (.int .i64 x3) := hx 3 _ rfl
      have c4 : wr.cell? ⟨w.heap.size, 4, none⟩ = some (.int .i64 x4) := hx 4 _ rfl
      have HB := hide hb
      clear h0 h1 h2 h3 h4 hx hb CN CF
      go_wp2_with fail
      refine CF2.out.mono ?_
      rintro e W ⟨⟨z, rfl, hz⟩, hbz⟩
      obtain ⟨i1, i2⟩ := HFI.out z HK.out hz
      have HBZ := hide (HB.out.trans (hbz.mono HB.out.size))
      have hyz := cell_later HBZ.out hy0
      have hyzl := block_lt_of_cell hyz
      clear hbz CF2 c0 c1 c2 c3 c4
      rcases hz with ⟨rfl, _⟩ | ⟨k, hk, rfl, _⟩
      · have HI := hide (i1 rfl)
        clear i1 i2
        go_wp2
        go_ret2
        exact ⟨⟨0, 7, rfl, HI.out⟩, HBZ.out⟩
      · have HI := hide (i2 k hk rfl)
        obtain ⟨rfl, hrk⟩ := HC.out k hk
        have c0 : W.cell? ⟨g, k * 19, none⟩ = some (.int .i64 rs[k].id) := cell_later HBZ.out (hrk 0 _ rfl)
        have hgl := block_lt_of_cell c0
        have hki : (k : Int) < rs.length := by omega
        have hki0 : ¬ (k : Int) < 0 := by omega
        clear i1 i2 hrk
        generalize rs[k].id = zid at *
        go_wp2
        go_ret2
        exact ⟨⟨_, 0, rfl, HI.out⟩, HBZ.out⟩
end Go.Proofs.YtnjalelblbjfiaaGreatDoor

namespace Go.Proofs.YtnjalelblbjfiaaGreatDoor
open Go.RowKit

/-- A block that no table's rule or tree lies in: weaker than Foreign (a list or a struct that begins with one may do). -/
structure Far (w : World) (x : Nat) : Prop where
  zero : x ≠ 0
  ent : ∀ r, ¬ EntAt w x r
  leaf : ∀ a n c, w.cell? ⟨x, 0, none⟩ = some (.slice a n c) → w.cell? ⟨x, 3, none⟩ ≠ some (.pointer none)
  node : ∀ (f l : Int) (bl : Nat), w.cell? ⟨x, 1, none⟩ = some (.int .i64 f) → w.cell? ⟨x, 2, none⟩ = some (.int .i64 l) → w.cell? ⟨x, 3, none⟩ ≠ some (.pointer (some ⟨bl, 0, none⟩))
  bunch : ∀ e r, w.cell? ⟨x, 0, none⟩ = some (.pointer (some ⟨e, 0, none⟩)) → ¬ EntAt w e r

section
variable {X : Nat → Prop} {w w' : World}

theorem EntAt.far (h : KeptBut X w w') (hX : ∀ x, X x → Far w x) {b : Nat} {r : Rl} (he : EntAt w b r) : EntAt w' b r :=
  he.same (h b he.lt fun hx => (hX b hx).ent r he)
theorem BunchAt.far (h : KeptBut X w w') (hX : ∀ x, X x → Far w x) {v : Value} {es : List Ent} (hb : BunchAt w v es) : BunchAt w' v es := by
  obtain ⟨a, cap, hv, hc, he⟩ := hb
  refine ⟨a, cap, hv, fun i hi => ?_, fun e hm => (he e hm).far h hX⟩
  obtain ⟨b, off, ⟨ha, h0⟩, hcell⟩ := hc i hi
  refine ⟨b, off, ⟨ha, h0⟩, h.cell (fun hx => ?_) hcell⟩
  obtain ⟨b', off', ⟨ha', h0'⟩, hcell'⟩ := hc 0 (by omega)
  rw [ha] at ha'
  cases ha'
  subst h0
  rw [Nat.zero_add] at hcell'
  exact (hX b hx).bunch _ _ hcell' (he es[0] (List.getElem_mem (by omega)))
theorem TreeAt.far (h : KeptBut X w w') (hX : ∀ x, X x → Far w x) : ∀ {n b : Nat} {es : List Ent}, TreeAt w n b es → TreeAt w' n b es := by
  have leafy : ∀ {b : Nat} {v : Value} {es : List Ent}, BunchAt w v es → w.cell? ⟨b, 0, none⟩ = some v → w.cell? ⟨b, 3, none⟩ = some (.pointer none) → ¬ X b := by
    intro b v es hb hc h3 hx
    obtain ⟨a, cap, hv, _, _⟩ := hb
    rw [hv] at hc
    exact (hX b hx).leaf _ _ _ hc h3
  intro n
  induction n with
  | zero =>
    rintro b es ⟨v, h1, h2, h3⟩
    exact ⟨v, h1.far h hX, h.cell (leafy h1 h2 h3) h2, h.cell (leafy h1 h2 h3) h3⟩
  | succ n ih =>
    rintro b es (⟨v, h1, h2, h3⟩ | ⟨f, last, bl, bh, hf, h1, h2, h3, h4, h5, h6⟩)
    · exact .inl ⟨v, h1.far h hX, h.cell (leafy h1 h2 h3) h2, h.cell (leafy h1 h2 h3) h3⟩
    · have hx : ¬ X b := fun hx => (hX b hx).node _ _ _ h1 h2 h3
      exact .inr ⟨f, last, bl, bh, hf, h.cell hx h1, h.cell hx h2, h.cell hx h3, h.cell hx h4, ih h5, ih h6⟩
theorem Laid.far (hl : Laid w) (h : KeptBut X w w') (hX : ∀ x, X x → Far w x) : Laid w' := by
  have e : ∀ i, w'.cell? ⟨0, i, none⟩ = w.cell? ⟨0, i, none⟩ := fun i => World.cell?_of_block (a := ⟨0, i, none⟩) (h 0 hl.pos fun hx => (hX 0 hx).zero rfl)
  simpa only [Laid, e] using hl
/-- A table is as it was when nothing of it turned. -/
theorem TabIs.far {t : Nat} {F : Nat → Prop} {L : List Ent} (h : TabIs w t F L) (hb : Chg X w w') (hX : ∀ x, X x → Far w x) (hM : ∀ x, F x → ¬ X x) : TabIs w' t F L := by
  obtain ⟨b1, b2, sv1, sv2, LI, h, hm, hl, rfl⟩ := h
  refine ⟨b1, b2, sv1, sv2, LI, ?_, hm, hl, rfl⟩
  have ht := hM t (.inl rfl)
  refine ⟨h.laid.far hb.block hX, hb.block.cell ht h.c0, hb.block.cell ht h.c1, fun j => (World.frozen?_of_block (a := ⟨t, j, none⟩) (hb.block t (block_lt_of_cell h.c0) ht)).trans (h.tf j), h.mI.chg h.hI hb (hM b1 (.inr (.inl (.inl rfl)))) (fun g hg => hM g (.inr (.inl (.inr hg)))), h.sI, h.hI.chg hb (fun g hg => hM g (.inr (.inl (.inr hg)))),
    h.mR.chg h.hR hb (hM b2 (.inr (.inr (.inl rfl)))) (fun g hg => hM g (.inr (.inr (.inr hg)))), h.sR, h.hR.chg hb (fun g hg => hM g (.inr (.inr (.inr hg)))), fun e he => ⟨(h.ent e he).1.far hb.block hX, (h.ent e he).2⟩, fun k hk => ?_⟩
  obtain ⟨tb, c, T⟩ := h.tree k hk
  exact ⟨tb, hb.block.cell ht c, T.far hb.block hX⟩

end
/-- No two rules of a table have the same ID. -/
theorem TabIs.ids {w : World} {t : Nat} {F : Nat → Prop} {L : List Ent} (h : TabIs w t F L) : ∀ i j (hi : i < L.length) (hj : j < L.length), L[i].2.id = L[j].2.id → i = j := by
  obtain ⟨b1, b2, sv1, sv2, LI, T, hm, _, rfl⟩ := h
  have hE : ∀ x y, x ∈ L → y ∈ L → x.2.id = y.2.id → x = y := fun x y hx hy e => by
    obtain ⟨p, hp, rfl⟩ := List.getElem_of_mem ((hm x).2 hx)
    obtain ⟨q, hq, rfl⟩ := List.getElem_of_mem ((hm y).2 hy)
    rcases Nat.lt_trichotomy p q with h | rfl | h
    · have := List.pairwise_iff_getElem.1 T.sI p q hp hq h
      omega
    · rfl
    · have := List.pairwise_iff_getElem.1 T.sI q p hq hp h
      omega
  intro i j hi hj e
  have e1 := hE _ _ (List.getElem_mem hi) (List.getElem_mem hj) e
  rcases Nat.lt_trichotomy i j with h | h | h
  · have := List.pairwise_iff_getElem.1 T.sR i j hi hj h
    rw [e1, Rl.before_irrefl] at this
    cases this
  · exact h
  · have := List.pairwise_iff_getElem.1 T.sR j i hj hi h
    rw [e1, Rl.before_irrefl] at this
    cases this
theorem TabIs.sorted' {w : World} {t : Nat} {F : Nat → Prop} {L : List Ent} (h : TabIs w t F L) : Sorted L := by
  obtain ⟨b1, b2, sv1, sv2, LI, T, _, _, rfl⟩ := h
  exact T.sR
section
variable {w : World} {x : Nat}
/-- Structs and rows of the walk: what lies in none of a table's trees. -/
theorem far_world {a b : Option Addr} {n m c d : Nat} (h0 : w.cell? ⟨x, 0, none⟩ = some (.slice a n c)) (h1 : w.cell? ⟨x, 1, none⟩ = some (.slice b m d)) (h3 : ∃ a n c, w.cell? ⟨x, 3, none⟩ = some (.slice a n c)) (hl : Laid w) : Far w x := by
  obtain ⟨a3, n3, c3, h3⟩ := h3
  refine ⟨?_, fun r he => ?_, fun a n c _ h => ?_, fun f l bl h _ _ => ?_, fun e r h => ?_⟩
  · rintro rfl
    have := hl.1; rw [h0] at this; cases this
  · have := he.c0; rw [h0] at this; cases this
  · rw [h3] at h; cases h
  · rw [h1] at h; cases h
  · rw [h0] at h; cases h
theorem far_one {a : Option Addr} {n c : Nat} (h0 : w.cell? ⟨x, 0, none⟩ = some (.slice a n c)) (h1 : w.cell? ⟨x, 1, none⟩ = none) (h3 : w.cell? ⟨x, 3, none⟩ = none) (hl : Laid w) : Far w x := by
  refine ⟨?_, fun r he => ?_, fun a n c _ h => ?_, fun f l bl h _ _ => ?_, fun e r h => ?_⟩
  · rintro rfl
    have := hl.1; rw [h0] at this; cases this
  · have := he.c0; rw [h0] at this; cases this
  · rw [h3] at h; cases h
  · rw [h1] at h; cases h
  · rw [h0] at h; cases h
theorem far_ptr {b : Nat} {p : Value} (h0 : w.cell? ⟨x, 0, none⟩ = some (.pointer (some ⟨b, 0, none⟩))) (hb : w.cell? ⟨b, 0, none⟩ = some p) (hp : ∀ n, p ≠ .int .i64 n) (h1 : ∀ f, w.cell? ⟨x, 1, none⟩ ≠ some (.int .i64 f)) (hl : Laid w) : Far w x := by
  refine ⟨?_, fun r he => ?_, fun a n c h => ?_, fun f l bl h _ _ => absurd h (h1 f), fun e r h he => ?_⟩
  · rintro rfl
    have := hl.1; rw [h0] at this; cases this
  · have := he.c0; rw [h0] at this; cases this
  · rw [h0] at h; cases h
  · rw [h0] at h
    cases h
    have := he.c0
    rw [hb] at this
    exact hp _ (Option.some.inj this)
theorem far_kept {n : Int} {a : Option Addr} {m c : Nat} (h0 : w.cell? ⟨x, 0, none⟩ = some (.int .i64 n)) (h1 : w.cell? ⟨x, 1, none⟩ = some (.slice a m c)) (hl : Laid w) : Far w x := by
  refine ⟨?_, fun r he => ?_, fun a n c h => ?_, fun f l bl h _ _ => ?_, fun e r h => ?_⟩
  · rintro rfl
    have := hl.2.1; rw [h1] at this; cases this
  · have := he.c1; rw [h1] at this; cases this
  · rw [h0] at h; cases h
  · rw [h1] at h; cases h
  · rw [h0] at h; cases h
theorem far_rules {B : Nat} {v : Value} {rs : List Rl} (h : RulesOwn B w v rs) {g : Nat} (hg : v.ownBlock = some g) : Far w g := by
  have hf := h.foreign hg
  obtain ⟨hz, cs, ct, cfr, a, b, c, d, hgg, hs, c0, c1, c2, c3⟩ := h.shape hg
  refine ⟨hz, fun r he => hf.notEnt he, fun a n c h => ?_, fun f l bl _ _ h => ?_, fun e r h => ?_⟩
  · rw [c0] at h; cases h
  · rw [c3] at h; cases h
  · rw [c0] at h; cases h
end
end Go.Proofs.YtnjalelblbjfiaaGreatDoor

namespace Go.Proofs.YtnjalelblbjfiaaGreatDoor
open Go.RowKit Go.Shelf

theorem ent_range {W : World} {b : Nat} {r : Rl} (h : EntAt W b r) : W.rangeAt b 0 [.int .i64 r.id, .int .i64 r.pr, .int .i64 r.k0, .int .i64 r.v0, .int .i64 r.m0, .int .i64 r.k1, .int .i64 r.v1, .int .i64 r.m1, .int .i64 r.k2, .int .i64 r.v2, .int .i64 r.m2, .int .i64 r.k3, .int .i64 r.v3, .int .i64 r.m3, .int .i64 r.k4, .int .i64 r.v4, .int .i64 r.m4, .int .i64 r.ac, .int .i64 r.po] := fun j u hu => by
  have hj : j < 19 := (List.getElem?_eq_some_iff.1 hu).1
  rw [Nat.zero_add, h j (by omega)]
  match j, hj, hu with
  | 0, _, hu => exact hu
  | 1, _, hu => exact hu
  | 2, _, hu => exact hu
  | 3, _, hu => exact hu
  | 4, _, hu => exact hu
  | 5, _, hu => exact hu
  | 6, _, hu => exact hu
  | 7, _, hu => exact hu
  | 8, _, hu => exact hu
  | 9, _, hu => exact hu
  | 10, _, hu => exact hu
  | 11, _, hu => exact hu
  | 12, _, hu => exact hu
  | 13, _, hu => exact hu
  | 14, _, hu => exact hu
  | 15, _, hu => exact hu
  | 16, _, hu => exact hu
  | 17, _, hu => exact hu
  | 18, _, hu => exact hu
  | j + 19, h, _ => exact absurd h (by omega)
theorem ownsRow_some {w : World} {B : Nat} {t : TypeId} {s n : Nat} {v : Value} {xs : List Value} (h : w.ownsRow B t s v n xs) (hv : v ≠ .slice none 0 0) : ∃ g cap, v = .slice (some ⟨g, 0, none⟩) n cap := by
  rcases h.2 with ⟨e, _⟩ | ⟨g, cap, cur, e, _⟩
  · exact absurd e hv
  · exact ⟨g, cap, e⟩
attribute [local go_sem] Oper.semAt_some
/-- append, not laid open by the walk. -/
def appSem (ats : Array TypeId) (ty : TypeId) (args : Array Value) : Sem Next := do pure (.value (← Builtin.append_ ats ty args))
theorem builtin_app (ats : Array TypeId) (ty : TypeId) (cs : Array Bool) (args : Array Value) : builtin .append ats ty cs args = appSem ats ty args := rfl
theorem appSem_run {P : Program} {ats : Array TypeId} {ty : TypeId} {args : Array Value} {w w' : World} {v : Value} (h : (Builtin.append_ ats ty args).run P w = .ok v w') : (appSem ats ty args).run P w = .ok (.value v) w' := by
  simp [appSem, h, Result.andThen]
/-- The load of a rule, not laid open by the walk. -/
def loadSem (v : Value) : Sem Value := Instr.loadAt 37 v
theorem loadAt_fold (v : Value) : Instr.loadAt 37 v = loadSem v := rfl
attribute [local go_sem high] buildRules
attribute [local go_sem ↓ high] builtin_app loadAt_fold

set_option maxRecDepth 100000 in
set_option maxHeartbeats 2000000 in
theorem rules_walk (t b2 : Nat) (sv : Value) (w : World) (Ls : List { e : Ent // EntAt w e.1 e.2 ∧ e.2.ok = true }) (hlen : Ls.length ≤ 200)
    (ht1 : w.cell? ⟨t, 1, none⟩ = some (.pointer (some ⟨b2, 0, none⟩))) (hb2 : w.cell? ⟨b2, 1, none⟩ = some sv) (hrow : RankRow w.heap.size w sv (Ls.map (·.1))) :
    Calls Tryz.prog 18 #[.pointer (some ⟨t, 0, none⟩)] w fun e w' => ∃ g cap, e = .returned (.slice (some ⟨g, 0, none⟩) Ls.length cap) ∧ w'.ownsRow w.heap.size 37 19 (.slice (some ⟨g, 0, none⟩) Ls.length cap) Ls.length (rowL (Ls.map fun x => x.1.2)) ∧ Below w.heap.size w w' := by
  have htlt := block_lt_of_cell ht1
  have hb2lt := block_lt_of_cell hb2
  obtain ⟨dr, hur, hdr⟩ := underRule
  obtain ⟨i0, hi, hz0, hz1, hz2⟩ := info_parts infoRule
  have hrow0 := hrow
  obtain ⟨ra, rcap, rfl, _⟩ := hrow0
  rw [List.length_map] at hb2
  refine (callsIn_wide (n := 5)).1 ?_
  have hro : Fence.wide.round = none := rfl
  refine callsIn_of_wp_marks Tryz.func18 rfl trivial ?_ hro
  simp only [Tryz.ntmps18, List.size_toArray, List.length_cons, List.length_nil, Nat.reduceAdd, Nat.reduceSub, Array.replicate_succ, Array.replicate_zero, List.push_toArray, List.append_toArray, List.nil_append, List.cons_append]
  gi_wp2_with (first | (refine ⟨trivial, ?_⟩; gi_at_call 50; refine (callsIn_wide.2 (lenR_any b2 ra Ls.length rcap _ hb2)).mono ?_; rintro e w' ⟨rfl, hww⟩; rw [hww]; clear hww) | (gi_at_make; refine wpListIn_make_own _ rfl _ _ 54 rfl w.heap.size 37 i0 _ 19 underRules hi hz0 hz1 .i64 .i64 _ Ls.length rfl rfl rfl (by rw [hz2]; omega) (by unfold maxLen; omega) (Nat.le_refl _) ?_; intro w0 hown0 hgrow0; have hb0 : Below w.heap.size w w0 := Below.of_grown hgrow0 (Nat.le_refl _) (fun x hx => by cases hx); have k1 : w0.cell? ⟨t, 1, none⟩ = some (.pointer (some ⟨b2, 0, none⟩)) := (hb0.cell (p := ⟨t, 1, none⟩) htlt).trans ht1; have htl0 : t < w0.heap.size := Nat.lt_of_lt_of_le htlt hb0.size) | (refine ⟨trivial, ?_⟩; gi_at_call 51; refine (all_in Fence.wide 4 trivial hro b2 _).mono ?_; rintro e w' ⟨rfl, rfl⟩))
  have hs0 := hb0.size
  have bO := (Boxed.new w0 54 (.slice (some ⟨w.heap.size, 0, none⟩) 0 Ls.length)).alloc (.cells #[.pointer (some ⟨b2, 0, none⟩)] 97)
  have bN := Boxed.new (w0.alloc (.cells #[.slice (some ⟨w.heap.size, 0, none⟩) 0 Ls.length] 54)) 97 (.pointer (some ⟨b2, 0, none⟩))
  simp only [World.size_alloc] at bO bN
  have hB0 : Below w.heap.size w ((w0.alloc (.cells #[.slice (some ⟨w.heap.size, 0, none⟩) 0 Ls.length] 54)).alloc (.cells #[.pointer (some ⟨b2, 0, none⟩)] 97)) := (hb0.alloc hs0 _).alloc (by simp; omega) _
  have hsz0 : ((w0.alloc (.cells #[.slice (some ⟨w.heap.size, 0, none⟩) 0 Ls.length] 54)).alloc (.cells #[.pointer (some ⟨b2, 0, none⟩)] 97)).heap.size = w0.heap.size + 2 := by simp
  have hcb2 := (hB0.cell (p := ⟨b2, 1, none⟩) hb2lt).trans hb2
  have hO0 := (hown0.alloc (.cells #[.slice (some ⟨w.heap.size, 0, none⟩) 0 Ls.length] 54)).alloc (.cells #[.pointer (some ⟨b2, 0, none⟩)] 97)
  rw [List.length_map] at hrow
  refine wpIn_rangeFunc_ownG hro (by omega) (gf := 99) (lb := #[.pointer (some ⟨w0.heap.size + 1, 0, none⟩)]) rfl trivial (enters_of Tryz.func99 (by kernel_rfl) rfl)
    (all_stops Fence.wide 4 trivial hro (by omega) (w0.heap.size + 1) b2 w.heap.size (.slice ra Ls.length rcap) Ls hlen _ (by omega) hb2lt (by omega) bN.cell hcb2 (hrow.below hB0)) belowK_t (belowK_b (by omega)) (Below.refl _ _) (fun _ => rfl)
    (fun pre W => (∃ v, Boxed W w0.heap.size 54 v ∧ W.ownsRow w.heap.size 37 19 v pre.length (rowL (pre.map fun x => x.1.2)) ∧ v ≠ .slice none 0 0) ∧ Below w.heap.size w W)
    (fun _ _ _ => False)
    (OwnFrom.and (Own.from (holdsRow_own w.heap.size w0.heap.size 54 37 19 (fun (pre : List { e : Ent // EntAt w e.1 e.2 ∧ e.2.ok = true }) => pre.length) (fun pre => rowL (pre.map fun x => x.1.2)) (fun _ v => v ≠ .slice none 0 0)) _) (ownFrom_below (Nat.le_refl _) (by omega)))
    (fun _ _ _ _ _ hs _ _ => hs)
    ⟨⟨_, bO, hO0, by simp⟩, hB0⟩
    (fun x => { tmps := #[.pointer (some ⟨t, 0, none⟩), undef, .slice none 0 0, .pointer (some ⟨w0.heap.size, 0, none⟩), undef, .pointer (some ⟨x.1.1, 0, none⟩), .pointer (some ⟨t, 0, none⟩), .pointer (some ⟨t, 0, none⟩), .pointer (some ⟨t, 1, none⟩), .pointer (some ⟨b2, 0, none⟩), .int .i64 Ls.length, .slice (some ⟨w.heap.size, 0, none⟩) 0 Ls.length, .pointer (some ⟨t, 0, none⟩), .pointer (some ⟨t, 0, none⟩), .pointer (some ⟨t, 1, none⟩), .pointer (some ⟨b2, 0, none⟩), .func (.func 99) #[] #[.pointer (some ⟨w0.heap.size + 1, 0, none⟩)], .agg #[.int .i64 x.1.2.pr, .int .i64 x.1.2.id], .pointer (some ⟨x.1.1, 0, none⟩), undef, undef, undef, undef, undef, undef, undef, undef], defers := [] }) ?assign ?body ?done ?stop
  case assign =>
    intro l x W K hK
    simp only [encE]
    gi_wp2
    exact hK
  case body =>
    rintro l pre x W ⟨⟨v, hv, hrow', hnn⟩, hB⟩ hlt
    have hmx : Tryz.prog.follows .mixedOrders = true := by kernel_rfl
    obtain ⟨g, cp, rfl⟩ := ownsRow_some hrow' hnn
    have heW : EntAt W x.1.1 x.1.2 := x.2.1.below hB x.2.1.lt
    have hrg := ent_range heW
    have hld : (loadSem (.pointer (some ⟨x.1.1, 0, none⟩))).run Tryz.prog W.drew = .ok (.agg #[.int .i64 x.1.2.id, .int .i64 x.1.2.pr, .int .i64 x.1.2.k0, .int .i64 x.1.2.v0, .int .i64 x.1.2.m0, .int .i64 x.1.2.k1, .int .i64 x.1.2.v1, .int .i64 x.1.2.m1, .int .i64 x.1.2.k2, .int .i64 x.1.2.v2, .int .i64 x.1.2.m2, .int .i64 x.1.2.k3, .int .i64 x.1.2.v3, .int .i64 x.1.2.m3, .int .i64 x.1.2.k4, .int .i64 x.1.2.v4, .int .i64 x.1.2.m4, .int .i64 x.1.2.ac, .int .i64 x.1.2.po]) W.drew := run_loadAt_mid W.drew x.1.1 0 37 [.int .i64 x.1.2.id, .int .i64 x.1.2.pr, .int .i64 x.1.2.k0, .int .i64 x.1.2.v0, .int .i64 x.1.2.m0, .int .i64 x.1.2.k1, .int .i64 x.1.2.v1, .int .i64 x.1.2.m1, .int .i64 x.1.2.k2, .int .i64 x.1.2.v2, .int .i64 x.1.2.m2, .int .i64 x.1.2.k3, .int .i64 x.1.2.v3, .int .i64 x.1.2.m3, .int .i64 x.1.2.k4, .int .i64 x.1.2.v4, .int .i64 x.1.2.m4, .int .i64 x.1.2.ac, .int .i64 x.1.2.po] dr (by simpa using hrg) hur hdr sizeRule
    have hcn : ∀ j u, (rowL [x.1.2])[j]? = some u → (W.alloc (.cells #[.int .i64 x.1.2.id, .int .i64 x.1.2.pr, .int .i64 x.1.2.k0, .int .i64 x.1.2.v0, .int .i64 x.1.2.m0, .int .i64 x.1.2.k1, .int .i64 x.1.2.v1, .int .i64 x.1.2.m1, .int .i64 x.1.2.k2, .int .i64 x.1.2.v2, .int .i64 x.1.2.m2, .int .i64 x.1.2.k3, .int .i64 x.1.2.v3, .int .i64 x.1.2.m3, .int .i64 x.1.2.k4, .int .i64 x.1.2.v4, .int .i64 x.1.2.m4, .int .i64 x.1.2.ac, .int .i64 x.1.2.po] 37)).drew.cell? ((⟨W.heap.size, 0, none⟩ : Addr).add j) = some u := cells_new W x.1.2 37
    have hrd : (W.alloc (.cells #[.int .i64 x.1.2.id, .int .i64 x.1.2.pr, .int .i64 x.1.2.k0, .int .i64 x.1.2.v0, .int .i64 x.1.2.m0, .int .i64 x.1.2.k1, .int .i64 x.1.2.v1, .int .i64 x.1.2.m1, .int .i64 x.1.2.k2, .int .i64 x.1.2.v2, .int .i64 x.1.2.m2, .int .i64 x.1.2.k3, .int .i64 x.1.2.v3, .int .i64 x.1.2.m3, .int .i64 x.1.2.k4, .int .i64 x.1.2.v4, .int .i64 x.1.2.m4, .int .i64 x.1.2.ac, .int .i64 x.1.2.po] 37)).drew.ownsRow w.heap.size 37 19 (.slice (some ⟨g, 0, none⟩) pre.length cp) pre.length (rowL (pre.map fun x => x.1.2)) := hrow'.alloc _
    obtain ⟨v', w1, hap, hown', hgr0, hiff⟩ := run_append_own (P := Tryz.prog) (W.alloc (.cells #[.int .i64 x.1.2.id, .int .i64 x.1.2.pr, .int .i64 x.1.2.k0, .int .i64 x.1.2.v0, .int .i64 x.1.2.m0, .int .i64 x.1.2.k1, .int .i64 x.1.2.v1, .int .i64 x.1.2.m1, .int .i64 x.1.2.k2, .int .i64 x.1.2.v2, .int .i64 x.1.2.m2, .int .i64 x.1.2.k3, .int .i64 x.1.2.v3, .int .i64 x.1.2.m3, .int .i64 x.1.2.k4, .int .i64 x.1.2.v4, .int .i64 x.1.2.m4, .int .i64 x.1.2.ac, .int .i64 x.1.2.po] 37)).drew w.heap.size 54 54 37 i0 _ 19 152 underRules hi hz0 hz1 hz2 rfl (by decide) (.slice (some ⟨g, 0, none⟩) pre.length cp) pre.length (rowL (pre.map fun x => x.1.2)) hrd ⟨W.heap.size, 0, none⟩ 1 1 (rowL [x.1.2]) (rowL_length _) hcn (rowL_one _) (by unfold maxLen; omega) (by omega) (by have := hB.size; simp; omega)
    have hgr : (W.alloc (.cells #[.int .i64 x.1.2.id, .int .i64 x.1.2.pr, .int .i64 x.1.2.k0, .int .i64 x.1.2.v0, .int .i64 x.1.2.m0, .int .i64 x.1.2.k1, .int .i64 x.1.2.v1, .int .i64 x.1.2.m1, .int .i64 x.1.2.k2, .int .i64 x.1.2.v2, .int .i64 x.1.2.m2, .int .i64 x.1.2.k3, .int .i64 x.1.2.v3, .int .i64 x.1.2.m3, .int .i64 x.1.2.k4, .int .i64 x.1.2.v4, .int .i64 x.1.2.m4, .int .i64 x.1.2.ac, .int .i64 x.1.2.po] 37)).grownBy w1 (Value.ownBlock (.slice (some ⟨g, 0, none⟩) pre.length cp)) := ⟨hgr0.os, hgr0.tape, hgr0.output, hgr0.size, hgr0.block⟩
    obtain ⟨g', cp', rfl⟩ := ownsRow_some hown' (fun e => by have := hiff.1 e; simp at this)
    have hap2 := appSem_run hap
    clear hap
    obtain ⟨hv2, hv3, hr3, hk3, hb3⟩ := hv.appended (by decide) hrow' hB.size hs0 hown' hgr
    have hc0 := hv.cell
    have hc2 := hv2.cell
    have hf2 := hv2.frozen
    have HV3 := hide hv3
    have HR3 := hide hr3
    have HK3 := hide hk3
    have HB3 := hide hb3
    have HB := hide hB
    have hxlt : x.1.1 < W.heap.size := heW.lt
    have hbl : w0.heap.size < W.heap.size := hv.lt
    clear hv hrow' hnn hB heW hrg hcn hrd hown' hgr hgr0 hiff hv2 hv3 hr3 hk3 hb3
    gi_wp2
    gi_region_with_o (fail)
    all_goals
      gi_wp2
      exact ⟨HK3.out.from _, HB3.out, ⟨⟨_, HV3.out, by rw [List.map_append, rowL_append, List.length_append]; exact HR3.out, by simp⟩, HB.out.trans HB3.out⟩⟩
  case done =>
    rintro D ys W hD rfl ⟨⟨v, hv, hrow', hnn⟩, hB⟩ hK
    obtain ⟨g, cp, rfl⟩ := ownsRow_some hrow' hnn
    have hcv := hv.cell
    have HR := hide hrow'
    have HB := hide hB
    have HK := hide hK
    have HD := hide hD
    clear hv hrow' hnn hB hK hD bO bN hB0 hsz0 hcb2 hO0
    gi_wp2
    have HK2 := HK.out
    refine ⟨by simp, .inl ⟨_, _, rfl, run_takeDeferred HK2, ?_⟩⟩
    have hg := grownBy_putObj' W D (.deferred none)
    have hD2 : w.heap.size ≤ D := by have := HD.out; simp at this; omega
    refine ⟨_, results_tmp rfl _ _ _, g, cp, rfl, HR.out.kept hg (.inr ?_), HB.out.trans (Below.of_grown hg HB.out.size (fun x hx => by cases hx; exact hD2))⟩
    intro e
    rcases HR.out.2 with ⟨e2, _⟩ | ⟨g2, cap2, cur, e2, _, hg2, _⟩
    · cases e2
    · cases e2
      cases e
      rw [hg2] at HK2
      cases HK2
  case stop =>
    rintro D c pre W _ _ h _
    exact h.elim

theorem trules_any (t : Nat) (w : World) (F : Nat → Prop) (L : List Ent) (h : TabIs w t F L) :
    Calls Tryz.prog 18 #[.pointer (some ⟨t, 0, none⟩)] w fun e w' => ∃ g cap, e = .returned (.slice (some ⟨g, 0, none⟩) L.length cap) ∧ w'.ownsRow w.heap.size 37 19 (.slice (some ⟨g, 0, none⟩) L.length cap) L.length (rowL (L.map (·.2))) ∧ Below w.heap.size w w' := by
  obtain ⟨b1, b2, sv1, sv2, LI, T, _, _, rfl⟩ := h
  let Ls : List { e : Ent // EntAt w e.1 e.2 ∧ e.2.ok = true } := L.attach.map fun e => ⟨e.1, T.ent e.1 e.2⟩
  have eL : Ls.map (·.1) = L := by simp only [Ls, List.map_map, Function.comp_def]; exact List.attach_map_subtype_val L
  have hrow : RankRow w.heap.size w sv2 (Ls.map (·.1)) := by
    rw [eL]
    obtain ⟨a, cap, g, e, hc⟩ := rowR_cells T.mR.2.2.1
    exact ⟨a, cap, e, fun j hj => ⟨g, (hc j hj).1, block_lt_of_cell (hc j hj).2.1, (hc j hj).2⟩⟩
  have hl : Ls.length = L.length := by have := congrArg List.length eL; rwa [List.length_map] at this
  have e2 : (Ls.map fun x => x.1.2) = L.map (·.2) := (List.map_map (g := fun (x : Ent) => x.2) (f := fun (x : { e : Ent // EntAt w e.1 e.2 ∧ e.2.ok = true }) => x.1) (l := Ls)).symm.trans (congrArg (List.map fun (x : Ent) => x.2) eL)
  refine (rules_walk t b2 sv2 w Ls (by rw [hl]; exact T.mR.2.2.2.2) T.c1 T.mR.2.1 hrow).mono ?_
  rw [hl, e2]
  exact fun _ _ h => h

end Go.Proofs.YtnjalelblbjfiaaGreatDoor
