import Derived.Test.YtnjalelblbjfiaaGreatDoorP25
import Derived.Test.YtnjalelblbjfiaaGreatDoorRows
import Derived.WalkKit
import Derived.ProofKit
import Derived.OpenShut
import Derived.Deep.Slices
import Derived.SizedLaws
namespace Go.Proofs.YtnjalelblbjfiaaGreatDoor
open Go.RowKit

/-- A step of a script. -/
structure StD where
  ki : Int
  oa : Int
  oN : Int
  oM : Int
  oK : Int
  oS : ByteArray
  la : Option Addr
  ll : Nat
  lc : Nat
  r : Rl
  x0 : Int
  x1 : Int
  x2 : Int
  x3 : Int
  x4 : Int
def stCells (ki oa oN oM oK : Int) (oS : ByteArray) (la : Option Addr) (ll lc : Nat) (r : Rl) (x0 x1 x2 x3 x4 : Int) : List Value := [.int .i64 ki, .int .i64 oa, .int .i64 oN, .int .i64 oM, .int .i64 oK, .string oS, .slice la ll lc, .int .i64 r.id, .int .i64 r.pr, .int .i64 r.k0, .int .i64 r.v0, .int .i64 r.m0, .int .i64 r.k1, .int .i64 r.v1, .int .i64 r.m1, .int .i64 r.k2, .int .i64 r.v2, .int .i64 r.m2, .int .i64 r.k3, .int .i64 r.v3, .int .i64 r.m3, .int .i64 r.k4, .int .i64 r.v4, .int .i64 r.m4, .int .i64 r.ac, .int .i64 r.po, .int .i64 x0, .int .i64 x1, .int .i64 x2, .int .i64 x3, .int .i64 x4]
def StD.cells (s : StD) : List Value := stCells s.ki s.oa s.oN s.oM s.oK s.oS s.la s.ll s.lc s.r s.x0 s.x1 s.x2 s.x3 s.x4
/-- A script in memory. -/
def ScrAt (W : World) (a : Option Addr) (n g off : Nat) : Prop := (0 < n → a = some ⟨g, off, none⟩) ∧ ∀ j, j < n → ∃ s : StD, W.rangeAt g (off + j * 31) s.cells ∧ -9223372036854775808 ≤ s.oa ∧ s.oa ≤ 9223372036854775807
theorem ScrAt.below {w W : World} {a : Option Addr} {n g off : Nat} (h : ScrAt w a n g off) (hb : Below w.heap.size w W) : ScrAt W a n g off := ⟨h.1, fun j hj => by
  obtain ⟨s, hr, hs⟩ := h.2 j hj
  exact ⟨s, rangeAt_below hr hb, hs⟩⟩
theorem TS.still {w W : World} {wb N : Nat} {sv : Value} {col : Nat → Nat} (h : TS w wb sv N col) (hb : Below w.heap.size w W) : TS W wb sv N col := by
  obtain ⟨tv, kv, n, Ts, Ks, h, ha, h1, h2, h3⟩ := h
  exact ⟨tv, kv, n, Ts, Ks, h.below hb fun _ _ _ => rfl, ha, h1, h2, h3⟩
theorem TS.succ {w : World} {wb N : Nat} {sv : Value} {col : Nat → Nat} (h : TS w wb sv N col) : TS w wb sv (N + 1) col := by
  obtain ⟨tv, kv, n, Ts, Ks, h, ha, h1, h2, h3⟩ := h
  exact ⟨tv, kv, n, Ts, Ks, h, ha, by omega, by omega, by omega⟩
theorem lstill_TS (w : World) (wb N : Nat) (sv : Value) (col : Nat → Nat) (h : TS w wb sv N col) (hN : N ≤ 100000000) :
    Calls Tryz.prog 11 #[.pointer (some ⟨wb, 0, none⟩)] w fun e w' => e = .returned (.bool true) ∧ Below w.heap.size w w' := by
  obtain ⟨tv, kv, n, Ts, Ks, h, ha, h1, h2, h3⟩ := h
  exact lstill_any w wb tv sv kv n Ts Ks col h (by omega)
/-- All that was there is nobody's to change. -/
def Old (s : Nat) (col : Nat → Nat) : Prop := ∀ x, x < s → col x = 4
theorem Went.old {w W : World} {s : Nat} {col col' : Nat → Nat} (h : Went w W col col') (hs : s ≤ w.heap.size) (ho : Old s col) : Below s w W ∧ Old s col' := by
  obtain ⟨⟨X, hc, hX⟩, hk⟩ := h
  refine ⟨⟨hc.os, hc.tape, hc.output, hc.size, fun x hx => hc.block x (by omega) fun hx' => ?_⟩, fun x hx => ?_⟩
  · have := (hX x hx' (by omega)).2.1
    exact this (ho x hx)
  · rw [hk x (by omega) (by rw [ho x hx]; decide)]
    exact ho x hx
theorem TS.start (w : World) (hl : Laid w) : TS (w.alloc (.cells #[.slice none 0 0, .slice none 0 0, .int .i64 0, .slice none 0 0] 31)) w.heap.size (.slice none 0 0) 0 (fun x => if x = w.heap.size then 1 else 4) := by
  have hb : Below w.heap.size w (w.alloc (.cells #[.slice none 0 0, .slice none 0 0, .int .i64 0, .slice none 0 0] 31)) := (Below.refl _ w).alloc (Nat.le_refl _) _
  have hr : (w.alloc (.cells #[.slice none 0 0, .slice none 0 0, .int .i64 0, .slice none 0 0] 31)).rangeAt w.heap.size 0 [.slice none 0 0, .slice none 0 0, .int .i64 0, .slice none 0 0] := range_new _ _ _
  refine ⟨.slice none 0 0, .slice none 0 0, 0, [], [], ⟨hl.far (Chg.of_below (X := fun _ => False) hb).block (fun _ h => h.elim), hr 0 _ rfl, hr 1 _ rfl, hr 2 _ rfl, hr 3 _ rfl, ⟨_, _, _, rfl⟩, fun j => ?_, ⟨World.ownsRow_nil _ 1 44 1, fun _ => rfl⟩, ⟨World.ownsRow_nil _ 1 78 5, fun _ => rfl⟩, if_pos rfl, fun x hx => (by cases hx), fun x j u hx => (by cases hx), fun x hx => (by cases hx), fun i hi => (by cases hi), fun k hk => (by cases hk)⟩, fun d hd => (by cases hd), Nat.le_refl _, Nat.zero_le _, Nat.le_refl _⟩
  have hh := heap_alloc_new w (.cells #[.slice none 0 0, .slice none 0 0, .int .i64 0, .slice none 0 0] 31)
  show World.frozen? _ ⟨w.heap.size, j, none⟩ = false
  unfold World.frozen?
  rw [hh]
  simp
attribute [local go_sem ↓ high] xLoadS_fold

set_option maxRecDepth 100000 in
set_option maxHeartbeats 4000000 in
theorem lupTo_any (w : World) (a : Option Addr) (n c g off : Nat) (hl : Laid w) (hs : ScrAt w a n g off) (hn : n ≤ 2000000) :
    Calls Tryz.prog 8 #[.slice a n c, .int .i64 5] w fun e W => e = .returned (.int .i64 (-1)) ∧ Below w.heap.size w W := by
  obtain ⟨ds, hus, hds⟩ := underStep
  obtain ⟨W1, hW1⟩ : ∃ W1, W1 = w.alloc (.cells #[.slice none 0 0, .slice none 0 0, .int .i64 0, .slice none 0 0] 31) := ⟨_, rfl⟩
  have hb1 : Below w.heap.size w W1 := by rw [hW1]; exact (Below.refl _ w).alloc (Nat.le_refl _) _
  have ht : TS W1 w.heap.size (.slice none 0 0) 0 (fun x => if x = w.heap.size then 1 else 4) := by rw [hW1]; exact TS.start w hl
  obtain ⟨wb, hwb⟩ : ∃ wb, wb = w.heap.size := ⟨_, rfl⟩
  rw [← hwb] at ht
  have HO : Hid (Old w.heap.size (fun x => if x = wb then 1 else 4)) := hide fun x hx => if_neg (by omega)
  have HT := hide ht
  have HB1 := hide hb1
  have HS := hide hs
  have hni : (n : Int) ≤ 2000000 := by omega
  have HN := hide hn
  clear hl ht hb1 hs hn
  go_enter Tryz.func8, Tryz.ntmps8
  go_wp2_with fail
  rw [← hW1, ← hwb]
  have HWB := hide hwb
  clear hW1 hwb
  go_loopw [6] (fun i wr => ∃ k : Nat, k ≤ n ∧ i = .int .i64 k ∧ ∃ col, TS wr wb (.slice none 0 0) k col ∧ Below w.heap.size w wr ∧ Old w.heap.size col) (fun i _ => n - (intOf i).toNat)
  case atStart => exact ⟨0, by omega, rfl, _, HT.out, HB1.out, HO.out⟩
  case round =>
    obtain ⟨k, hk, rfl, col, ht, hb, ho⟩ := hrel
    have HTK := hide ht
    have HBK := hide hb
    have HOK := hide ho
    clear ht hb ho
    by_cases hkl : k < n
    · have hki : (k : Int) < n := by omega
      obtain ⟨s, hr, hoa⟩ := HS.out.2 k hkl
      have hav : a = some ⟨g, off, none⟩ := HS.out.1 (by omega)
      subst hav
      have hr' := rangeAt_below hr HBK.out
      obtain ⟨ki, oa, oN, oM, oK, oS, la, ll, lc, r, x0, x1, x2, x3, x4⟩ := s
      have hrr : wr.rangeAt g (off + k * 31) [.int .i64 ki, .int .i64 oa, .int .i64 oN, .int .i64 oM, .int .i64 oK, .string oS, .slice la ll lc, .int .i64 r.id, .int .i64 r.pr, .int .i64 r.k0, .int .i64 r.v0, .int .i64 r.m0, .int .i64 r.k1, .int .i64 r.v1, .int .i64 r.m1, .int .i64 r.k2, .int .i64 r.v2, .int .i64 r.m2, .int .i64 r.k3, .int .i64 r.v3, .int .i64 r.m3, .int .i64 r.k4, .int .i64 r.v4, .int .i64 r.m4, .int .i64 r.ac, .int .i64 r.po, .int .i64 x0, .int .i64 x1, .int .i64 x2, .int .i64 x3, .int .i64 x4] := hr'
      have c0 : wr.cell? ⟨g, off + k * 31, none⟩ = some (.int .i64 ki) := cell_at0 hrr
      have hgl : g < wr.heap.size := block_lt_of_cell c0
      clear hr hr'
      by_cases h5 : 5 < ki
      · clear hrr hoa
        go_wp2_with fail
        go_roundw
        case rel => exact ⟨k + 1, by omega, by go_num, col, HTK.out.succ, HBK.out, HOK.out⟩
        case measure => simp [intOf]; omega
      · have hld : (xLoadS (.pointer (some ⟨g, off + k * 31, none⟩))).run Tryz.prog wr = .ok (.agg #[.int .i64 ki, .int .i64 oa, .int .i64 oN, .int .i64 oM, .int .i64 oK, .string oS, .slice la ll lc, .int .i64 r.id, .int .i64 r.pr, .int .i64 r.k0, .int .i64 r.v0, .int .i64 r.m0, .int .i64 r.k1, .int .i64 r.v1, .int .i64 r.m1, .int .i64 r.k2, .int .i64 r.v2, .int .i64 r.m2, .int .i64 r.k3, .int .i64 r.v3, .int .i64 r.m3, .int .i64 r.k4, .int .i64 r.v4, .int .i64 r.m4, .int .i64 r.ac, .int .i64 r.po, .int .i64 x0, .int .i64 x1, .int .i64 x2, .int .i64 x3, .int .i64 x4]) wr := run_loadAt_mid _ g (off + k * 31) 41 [.int .i64 ki, .int .i64 oa, .int .i64 oN, .int .i64 oM, .int .i64 oK, .string oS, .slice la ll lc, .int .i64 r.id, .int .i64 r.pr, .int .i64 r.k0, .int .i64 r.v0, .int .i64 r.m0, .int .i64 r.k1, .int .i64 r.v1, .int .i64 r.m1, .int .i64 r.k2, .int .i64 r.v2, .int .i64 r.m2, .int .i64 r.k3, .int .i64 r.v3, .int .i64 r.m3, .int .i64 r.k4, .int .i64 r.v4, .int .i64 r.m4, .int .i64 r.ac, .int .i64 r.po, .int .i64 x0, .int .i64 x1, .int .i64 x2, .int .i64 x3, .int .i64 x4] ds hrr hus hds sizeStep
        have CS := hide (lstep_tab wr wb (.slice none 0 0) k col ki oa oN oM oK oS la ll lc r x0 x1 x2 x3 x4 HTK.out hoa (by have := HN.out; omega) (by omega))
        clear hrr hoa
        go_wp2_with fail
        refine CS.out.mono ?_
        rintro e W2 ⟨rfl, col2, ht2, hw2⟩
        obtain ⟨hb2, ho2⟩ := hw2.old HBK.out.size HOK.out
        have CL := hide (lstill_TS W2 wb (k + 1) (.slice none 0 0) col2 ht2 (by have := HN.out; omega))
        have HT2 := hide ht2
        have HB2 := hide (HBK.out.trans hb2)
        have HO2 := hide ho2
        clear ht2 hw2 hb2 ho2 CS hld c0 hgl
        go_wp2_with fail
        refine CL.out.mono ?_
        rintro e W3 ⟨rfl, hb3⟩
        have HT3 := hide (HT2.out.still hb3)
        have HB3 := hide (HB2.out.trans (hb3.mono HB2.out.size))
        clear hb3 CL
        go_wp2_with fail
        go_roundw
        case rel => exact ⟨k + 1, by omega, by go_num, col2, HT3.out, HB3.out, HO2.out⟩
        case measure => simp [intOf]; omega
    · have hki : ¬ (k : Int) < n := by omega
      go_wp2
      go_ret
      exact ⟨rfl, HBK.out⟩

set_option maxRecDepth 100000 in
set_option maxHeartbeats 4000000 in
theorem lTables_any (w : World) (a : Option Addr) (n c g off : Nat) (hl : Laid w) (hs : ScrAt w a n g off) (hn : n ≤ 2000000) :
    Calls Tryz.prog 3 #[.slice a n c] w fun e W => e = .returned (.bool true) ∧ Below w.heap.size w W := by
  have CF := hide (lfirst_any w hl)
  have CU := hide fun (W : World) (hb : Below w.heap.size w W) => lupTo_any W a n c g off (hl.far (Chg.of_below (X := fun _ => False) hb).block (fun _ h => h.elim)) (hs.below hb) hn
  clear hl hs hn
  go_enter Tryz.func3, Tryz.ntmps3
  go_wp2_with fail
  refine CF.out.mono ?_
  rintro e W1 ⟨rfl, hb1⟩
  have C2 := hide (CU.out W1 hb1)
  have HB1 := hide hb1
  clear CF CU hb1
  go_wp2_with fail
  refine C2.out.mono ?_
  rintro e W2 ⟨rfl, hb2⟩
  have HB2 := hide (HB1.out.trans (hb2.mono HB1.out.size))
  clear C2 hb2
  go_wp2
  go_ret
  exact ⟨rfl, HB2.out⟩
end Go.Proofs.YtnjalelblbjfiaaGreatDoor

namespace Go.Proofs.YtnjalelblbjfiaaGreatDoor
open Go.ChangeShapes Go.WideShapes Go.ChangeAt Go.RowKit

theorem cells1 : Tryz.prog.cellsOf 3 = 1 := by kernel_rfl
theorem cells2 : Tryz.prog.cellsOf 122 = 2 := by kernel_rfl
theorem cells3 : Tryz.prog.cellsOf 178 = 3 := by kernel_rfl
theorem cells15 : Tryz.prog.cellsOf 179 = 15 := by kernel_rfl
theorem bytes8 : Tryz.prog.bytesOf 3 = 8 := by kernel_rfl
theorem cells5 : Tryz.prog.cellsOf 39 = 5 := by kernel_rfl
theorem cells3m : Tryz.prog.cellsOf 34 = 3 := by kernel_rfl
theorem cells15m : Tryz.prog.cellsOf 35 = 15 := by kernel_rfl
theorem cells19 : Tryz.prog.cellsOf 37 = 19 := by kernel_rfl
theorem cells31 : Tryz.prog.cellsOf 41 = 31 := by kernel_rfl
theorem cellsSt : Tryz.prog.cellsOf 9 = 1 := by kernel_rfl
theorem cellsSl : Tryz.prog.cellsOf 32 = 1 := by kernel_rfl
section
variable {H : Type} {enc : TypeId × Value → H} {w : World} {base : Nat} {spare : Nat → Bool} {held : Bool}

theorem trodI {fuel : Nat} {cs : List Value} {x : DataW H × List MemPlace} (h : DataW.trod enc Tryz.prog w base spare held fuel 3 cs = some x) : ∃ n, cs = [.int .i64 n] ∧ x.1 = .lit (.int .i64 n) ∧ -9223372036854775808 ≤ n ∧ n ≤ 9223372036854775807 := by
  obtain ⟨n, h1, h2, h3⟩ := DataW.trod_int Tryz.underlying3 h
  exact ⟨n, h1, by rw [h2], bounds_i64 h3⟩

theorem trodS {fuel : Nat} {cs : List Value} {x : DataW H × List MemPlace} (h : DataW.trod enc Tryz.prog w base spare held fuel 122 cs = some x) : ∃ b c : Int, cs = [.int .i64 b, .int .i64 c] ∧ x.1 = .agg [.lit (.int .i64 b), .lit (.int .i64 c)] := by
  obtain ⟨xs, m, rfl, rfl, hl, hx, hf⟩ := DataW.trod_struct Tryz.underlying122 h
  rw [cells2] at hl
  clear h
  have f0 : DataW.trod enc Tryz.prog w base spare held m 3 ((cs.drop 0).take (Tryz.prog.cellsOf 3)) = xs[0]? := hf 0 _ rfl
  have f1 : DataW.trod enc Tryz.prog w base spare held m 3 ((cs.drop 1).take (Tryz.prog.cellsOf 3)) = xs[1]? := hf 1 _ rfl
  rw [cells1] at f0 f1
  clear hf
  match cs, hl, xs, hx, f0, f1 with
  | [v0, v1], _, [x0, x1], _, f0, f1 =>
    obtain ⟨b, e0, d0, _⟩ := trodI (cs := [v0]) (x := x0) f0
    obtain ⟨c, e1, d1, _⟩ := trodI (cs := [v1]) (x := x1) f1
    cases e0; cases e1
    exact ⟨b, c, rfl, by simp [d0, d1]⟩
theorem trodF {fuel : Nat} {cs : List Value} {x : DataW H × List MemPlace} (h : DataW.trod enc Tryz.prog w base spare held fuel 178 cs = some x) : ∃ a b c : Int, cs = [.int .i64 a, .int .i64 b, .int .i64 c] ∧ x.1 = .agg [.lit (.int .i64 a), .agg [.lit (.int .i64 b), .lit (.int .i64 c)]] := by
  obtain ⟨xs, m, rfl, rfl, hl, hx, hf⟩ := DataW.trod_struct Tryz.underlying178 h
  rw [cells3] at hl
  clear h
  have f0 : DataW.trod enc Tryz.prog w base spare held m 3 ((cs.drop 0).take (Tryz.prog.cellsOf 3)) = xs[0]? := hf 0 _ rfl
  have f1 : DataW.trod enc Tryz.prog w base spare held m 122 ((cs.drop 1).take (Tryz.prog.cellsOf 122)) = xs[1]? := hf 1 _ rfl
  rw [cells1] at f0
  rw [cells2] at f1
  clear hf
  match cs, hl, xs, hx, f0, f1 with
  | [v0, v1, v2], _, [x0, x1], _, f0, f1 =>
    obtain ⟨a, e0, d0, _⟩ := trodI (cs := [v0]) (x := x0) f0
    obtain ⟨b, c, e1, d1⟩ := trodS (cs := [v1, v2]) (x := x1) f1
    cases e0; cases e1
    exact ⟨a, b, c, rfl, by simp [d0, d1]⟩
theorem trodFields {fuel : Nat} {cs : List Value} {p : List MemPlace} (h : DataW.trod enc Tryz.prog w base spare held fuel 179 cs = some (Rows.laid_portico_table_fields, p)) : cs = [.int .i64 32, .int .i64 0, .int .i64 4294967295, .int .i64 32, .int .i64 0, .int .i64 4294967295, .int .i64 8, .int .i64 0, .int .i64 255, .int .i64 16, .int .i64 0, .int .i64 65535, .int .i64 16, .int .i64 0, .int .i64 65535] := by
  obtain ⟨xs, m, rfl, hd, hl, hx, hf⟩ := DataW.trod_array Tryz.underlying179 h
  rw [cells15] at hl
  simp only [cells3] at hf
  have hd1 := congrArg Prod.fst hd
  clear h hd
  match cs, hl, xs, hx, hf, hd1 with
  | [v0, v1, v2, v3, v4, v5, v6, v7, v8, v9, v10, v11, v12, v13, v14], _, [x0, x1, x2, x3, x4], _, hf, hd1 =>
    obtain ⟨a0, b0, c0, e0, d0⟩ := trodF (cs := [v0, v1, v2]) (x := x0) (hf 0 (by omega))
    obtain ⟨a1, b1, c1, e1, d1⟩ := trodF (cs := [v3, v4, v5]) (x := x1) (hf 1 (by omega))
    obtain ⟨a2, b2, c2, e2, d2⟩ := trodF (cs := [v6, v7, v8]) (x := x2) (hf 2 (by omega))
    obtain ⟨a3, b3, c3, e3, d3⟩ := trodF (cs := [v9, v10, v11]) (x := x3) (hf 3 (by omega))
    obtain ⟨a4, b4, c4, e4, d4⟩ := trodF (cs := [v12, v13, v14]) (x := x4) (hf 4 (by omega))
    cases e0; cases e1; cases e2; cases e3; cases e4
    simp only [Rows.laid_portico_table_fields, List.map_cons, List.map_nil, d0, d1, d2, d3, d4, DataW.agg.injEq, List.cons.injEq, DataW.lit.injEq, Lit.int.injEq, true_and, and_true] at hd1
    obtain ⟨⟨rfl, rfl, rfl⟩, ⟨rfl, rfl, rfl⟩, ⟨rfl, rfl, rfl⟩, ⟨rfl, rfl, rfl⟩, rfl, rfl, rfl⟩ := hd1
    rfl
end

section
variable {H : Type} {enc : TypeId × Value → H} {w : World} {base : Nat} {spare : Nat → Bool} {held : Bool}
theorem trodMt {fuel : Nat} {cs : List Value} {x : DataW H × List MemPlace} (h : DataW.trod enc Tryz.prog w base spare held fuel 34 cs = some x) : ∃ a b c : Int, cs = [.int .i64 a, .int .i64 b, .int .i64 c] := by
  obtain ⟨xs, m, rfl, rfl, hl, hx, hf⟩ := DataW.trod_struct Tryz.underlying34 h
  rw [cells3m] at hl
  clear h
  have f0 : DataW.trod enc Tryz.prog w base spare held m 3 ((cs.drop 0).take (Tryz.prog.cellsOf 3)) = xs[0]? := hf 0 _ rfl
  have f1 : DataW.trod enc Tryz.prog w base spare held m 3 ((cs.drop 1).take (Tryz.prog.cellsOf 3)) = xs[1]? := hf 1 _ rfl
  have f2 : DataW.trod enc Tryz.prog w base spare held m 3 ((cs.drop 2).take (Tryz.prog.cellsOf 3)) = xs[2]? := hf 2 _ rfl
  rw [cells1] at f0 f1 f2
  clear hf
  match cs, hl, xs, hx, f0, f1, f2 with
  | [v0, v1, v2], _, [x0, x1, x2], _, f0, f1, f2 =>
    obtain ⟨a, e0, _, _⟩ := trodI (cs := [v0]) (x := x0) f0
    obtain ⟨b, e1, _, _⟩ := trodI (cs := [v1]) (x := x1) f1
    obtain ⟨c, e2, _, _⟩ := trodI (cs := [v2]) (x := x2) f2
    cases e0; cases e1; cases e2
    exact ⟨a, b, c, rfl⟩
theorem trodMt5 {fuel : Nat} {cs : List Value} {x : DataW H × List MemPlace} (h : DataW.trod enc Tryz.prog w base spare held fuel 35 cs = some x) : ∃ a0 b0 c0 a1 b1 c1 a2 b2 c2 a3 b3 c3 a4 b4 c4 : Int, cs = [.int .i64 a0, .int .i64 b0, .int .i64 c0, .int .i64 a1, .int .i64 b1, .int .i64 c1, .int .i64 a2, .int .i64 b2, .int .i64 c2, .int .i64 a3, .int .i64 b3, .int .i64 c3, .int .i64 a4, .int .i64 b4, .int .i64 c4] := by
  obtain ⟨xs, m, rfl, hd, hl, hx, hf⟩ := DataW.trod_array Tryz.underlying35 h
  rw [cells15m] at hl
  simp only [cells3m] at hf
  clear h hd
  match cs, hl, xs, hx, hf with
  | [v0, v1, v2, v3, v4, v5, v6, v7, v8, v9, v10, v11, v12, v13, v14], _, [x0, x1, x2, x3, x4], _, hf =>
    obtain ⟨a0, b0, c0, e0⟩ := trodMt (cs := [v0, v1, v2]) (x := x0) (hf 0 (by omega))
    obtain ⟨a1, b1, c1, e1⟩ := trodMt (cs := [v3, v4, v5]) (x := x1) (hf 1 (by omega))
    obtain ⟨a2, b2, c2, e2⟩ := trodMt (cs := [v6, v7, v8]) (x := x2) (hf 2 (by omega))
    obtain ⟨a3, b3, c3, e3⟩ := trodMt (cs := [v9, v10, v11]) (x := x3) (hf 3 (by omega))
    obtain ⟨a4, b4, c4, e4⟩ := trodMt (cs := [v12, v13, v14]) (x := x4) (hf 4 (by omega))
    cases e0; cases e1; cases e2; cases e3; cases e4
    exact ⟨_, _, _, _, _, _, _, _, _, _, _, _, _, _, _, rfl⟩
theorem trodRl {fuel : Nat} {cs : List Value} {x : DataW H × List MemPlace} (h : DataW.trod enc Tryz.prog w base spare held fuel 37 cs = some x) : ∃ r : Rl, cs = [.int .i64 r.id, .int .i64 r.pr, .int .i64 r.k0, .int .i64 r.v0, .int .i64 r.m0, .int .i64 r.k1, .int .i64 r.v1, .int .i64 r.m1, .int .i64 r.k2, .int .i64 r.v2, .int .i64 r.m2, .int .i64 r.k3, .int .i64 r.v3, .int .i64 r.m3, .int .i64 r.k4, .int .i64 r.v4, .int .i64 r.m4, .int .i64 r.ac, .int .i64 r.po] := by
  obtain ⟨xs, m, rfl, rfl, hl, hx, hf⟩ := DataW.trod_struct Tryz.underlying37 h
  rw [cells19] at hl
  clear h
  have f0 : DataW.trod enc Tryz.prog w base spare held m 3 ((cs.drop 0).take (Tryz.prog.cellsOf 3)) = xs[0]? := hf 0 _ rfl
  have f1 : DataW.trod enc Tryz.prog w base spare held m 3 ((cs.drop 1).take (Tryz.prog.cellsOf 3)) = xs[1]? := hf 1 _ rfl
  have f2 : DataW.trod enc Tryz.prog w base spare held m 35 ((cs.drop 2).take (Tryz.prog.cellsOf 35)) = xs[2]? := hf 2 _ rfl
  have f3 : DataW.trod enc Tryz.prog w base spare held m 3 ((cs.drop 17).take (Tryz.prog.cellsOf 3)) = xs[3]? := hf 3 _ rfl
  have f4 : DataW.trod enc Tryz.prog w base spare held m 3 ((cs.drop 18).take (Tryz.prog.cellsOf 3)) = xs[4]? := hf 4 _ rfl
  rw [cells1] at f0 f1 f3 f4
  rw [cells15m] at f2
  clear hf
  match cs, hl, xs, hx, f0, f1, f2, f3, f4 with
  | [v0, v1, v2, v3, v4, v5, v6, v7, v8, v9, v10, v11, v12, v13, v14, v15, v16, v17, v18], _, [x0, x1, x2, x3, x4], _, f0, f1, f2, f3, f4 =>
    obtain ⟨a, e0, _, _⟩ := trodI (cs := [v0]) (x := x0) f0
    obtain ⟨b, e1, _, _⟩ := trodI (cs := [v1]) (x := x1) f1
    obtain ⟨a0, b0, c0, a1, b1, c1, a2, b2, c2, a3, b3, c3, a4, b4, c4, e2⟩ := trodMt5 (cs := [v2, v3, v4, v5, v6, v7, v8, v9, v10, v11, v12, v13, v14, v15, v16]) (x := x2) f2
    obtain ⟨c, e3, _, _⟩ := trodI (cs := [v17]) (x := x3) f3
    obtain ⟨d, e4, _, _⟩ := trodI (cs := [v18]) (x := x4) f4
    cases e0; cases e1; cases e2; cases e3; cases e4
    exact ⟨⟨a, b, a0, b0, c0, a1, b1, c1, a2, b2, c2, a3, b3, c3, a4, b4, c4, c, d⟩, rfl⟩
theorem trodK {fuel : Nat} {cs : List Value} {x : DataW H × List MemPlace} (h : DataW.trod enc Tryz.prog w base spare held fuel 39 cs = some x) : ∃ n0 n1 n2 n3 n4 : Int, cs = [.int .i64 n0, .int .i64 n1, .int .i64 n2, .int .i64 n3, .int .i64 n4] := by
  obtain ⟨xs, m, rfl, rfl, hl, hx, hf⟩ := DataW.trod_array Tryz.underlying39 h
  rw [cells5] at hl
  simp only [cells1] at hf
  clear h
  match cs, hl, xs, hx, hf with
  | [v0, v1, v2, v3, v4], _, [x0, x1, x2, x3, x4], _, hf =>
    obtain ⟨n0, e0, _, _⟩ := trodI (cs := [v0]) (x := x0) (hf 0 (by omega))
    obtain ⟨n1, e1, _, _⟩ := trodI (cs := [v1]) (x := x1) (hf 1 (by omega))
    obtain ⟨n2, e2, _, _⟩ := trodI (cs := [v2]) (x := x2) (hf 2 (by omega))
    obtain ⟨n3, e3, _, _⟩ := trodI (cs := [v3]) (x := x3) (hf 3 (by omega))
    obtain ⟨n4, e4, _, _⟩ := trodI (cs := [v4]) (x := x4) (hf 4 (by omega))
    cases e0; cases e1; cases e2; cases e3; cases e4
    exact ⟨_, _, _, _, _, rfl⟩
theorem trodSl {fuel : Nat} {cs : List Value} {x : DataW H × List MemPlace} (h : DataW.trod enc Tryz.prog w base spare held fuel 32 cs = some x) : ∃ a l c, cs = [.slice a l c] := by
  rcases Deep.open_slice Tryz.underlying32 h with ⟨hcs, _⟩ | ⟨a, len, cap, m, n, D, Pl, hcs, _⟩
  · exact ⟨_, _, _, hcs⟩
  · exact ⟨_, _, _, hcs⟩
theorem trodStep {fuel : Nat} {cs : List Value} {x : DataW H × List MemPlace} (h : DataW.trod enc Tryz.prog w base spare held fuel 41 cs = some x) : ∃ s : StD, cs = s.cells ∧ -9223372036854775808 ≤ s.oa ∧ s.oa ≤ 9223372036854775807 := by
  obtain ⟨xs, m, rfl, rfl, hl, hx, hf⟩ := DataW.trod_struct Tryz.underlying41 h
  rw [cells31] at hl
  clear h
  have f0 : DataW.trod enc Tryz.prog w base spare held m 3 ((cs.drop 0).take (Tryz.prog.cellsOf 3)) = xs[0]? := hf 0 _ rfl
  have f1 : DataW.trod enc Tryz.prog w base spare held m 3 ((cs.drop 1).take (Tryz.prog.cellsOf 3)) = xs[1]? := hf 1 _ rfl
  have f2 : DataW.trod enc Tryz.prog w base spare held m 3 ((cs.drop 2).take (Tryz.prog.cellsOf 3)) = xs[2]? := hf 2 _ rfl
  have f3 : DataW.trod enc Tryz.prog w base spare held m 3 ((cs.drop 3).take (Tryz.prog.cellsOf 3)) = xs[3]? := hf 3 _ rfl
  have f4 : DataW.trod enc Tryz.prog w base spare held m 3 ((cs.drop 4).take (Tryz.prog.cellsOf 3)) = xs[4]? := hf 4 _ rfl
  have f5 : DataW.trod enc Tryz.prog w base spare held m 9 ((cs.drop 5).take (Tryz.prog.cellsOf 9)) = xs[5]? := hf 5 _ rfl
  have f6 : DataW.trod enc Tryz.prog w base spare held m 32 ((cs.drop 6).take (Tryz.prog.cellsOf 32)) = xs[6]? := hf 6 _ rfl
  have f7 : DataW.trod enc Tryz.prog w base spare held m 37 ((cs.drop 7).take (Tryz.prog.cellsOf 37)) = xs[7]? := hf 7 _ rfl
  have f8 : DataW.trod enc Tryz.prog w base spare held m 39 ((cs.drop 26).take (Tryz.prog.cellsOf 39)) = xs[8]? := hf 8 _ rfl
  rw [cells1] at f0 f1 f2 f3 f4
  rw [cellsSt] at f5
  rw [cellsSl] at f6
  rw [cells19] at f7
  rw [cells5] at f8
  clear hf
  match cs, hl, xs, hx, f0, f1, f2, f3, f4, f5, f6, f7, f8 with
  | [v0, v1, v2, v3, v4, v5, v6, v7, v8, v9, v10, v11, v12, v13, v14, v15, v16, v17, v18, v19, v20, v21, v22, v23, v24, v25, v26, v27, v28, v29, v30], _, [x0, x1, x2, x3, x4, x5, x6, x7, x8], _, f0, f1, f2, f3, f4, f5, f6, f7, f8 =>
    obtain ⟨n0, e0, _, _⟩ := trodI (cs := [v0]) (x := x0) f0
    obtain ⟨n1, e1, _, r1⟩ := trodI (cs := [v1]) (x := x1) f1
    obtain ⟨n2, e2, _, _⟩ := trodI (cs := [v2]) (x := x2) f2
    obtain ⟨n3, e3, _, _⟩ := trodI (cs := [v3]) (x := x3) f3
    obtain ⟨n4, e4, _, _⟩ := trodI (cs := [v4]) (x := x4) f4
    obtain ⟨b, e5, _, _⟩ := DataW.trod_string Tryz.underlying9 f5
    obtain ⟨la, ll, lc, e6⟩ := trodSl (cs := [v6]) (x := x6) f6
    obtain ⟨r, e7⟩ := trodRl (cs := [v7, v8, v9, v10, v11, v12, v13, v14, v15, v16, v17, v18, v19, v20, v21, v22, v23, v24, v25]) (x := x7) f7
    obtain ⟨k0, k1, k2, k3, k4, e8⟩ := trodK (cs := [v26, v27, v28, v29, v30]) (x := x8) f8
    cases e0; cases e1; cases e2; cases e3; cases e4; cases e5; cases e6; cases e7; cases e8
    exact ⟨⟨n0, n1, n2, n3, n4, b, la, ll, lc, r, k0, k1, k2, k3, k4⟩, rfl, r1⟩
end
theorem gFields : Tryz.prog.globalNamed "portico/table.fields" = some 0 := by kernel_rfl
theorem gFieldsType : (Tryz.prog.globals[0]?).map (·.type) = some 179 := by kernel_rfl
/-- What the row's list gives: the table of the fields. -/
theorem laidTab {W : World} {d : DataW Unit} {rest : List (String × DataW Unit)} (h : laidMet Tryz.prog (("portico/frame.meanings", d) :: ("portico/table.fields", Rows.laid_portico_table_fields) :: rest) W) : Laid W := by
  obtain ⟨ps, ⟨g1, t1, cs1, fuel1, p1, q1, hg1, ht1, hvar1, hd1, h2, _⟩, _⟩ := h
  obtain ⟨g', t', cs, fuel, p, q, hg', ht', hvar, hd, _, _⟩ := h2
  obtain rfl := Option.some.inj (gFields.symm.trans hg')
  obtain rfl := Option.some.inj (gFieldsType.symm.trans ht')
  have hcs := trodFields hd
  have c := fun i => World.var?_cell gFields hvar i
  have c' : ∀ i, W.cell? ⟨0, i, none⟩ = ([Value.int .i64 32, Value.int .i64 0, Value.int .i64 4294967295, Value.int .i64 32, Value.int .i64 0, Value.int .i64 4294967295, Value.int .i64 8, Value.int .i64 0, Value.int .i64 255, Value.int .i64 16, Value.int .i64 0, Value.int .i64 65535, Value.int .i64 16, Value.int .i64 0, Value.int .i64 65535] : List Value)[i]? := fun i => by rw [c i, ← hcs]; simp
  exact ⟨c' 0, c' 1, c' 2, c' 3, c' 4, c' 5, c' 6, c' 7, c' 8, c' 9, c' 10, c' 11, c' 12, c' 13, c' 14⟩

section
variable {H : Type} {enc : TypeId × Value → H} {W : World} {base : Nat} {v : Value} {d : DataW H} {p : List MemPlace}
set_option maxRecDepth 100000 in
theorem script_arg (hok : Value.okWide Tryz.prog W .any base 22 v) (h : DataW.Trod enc Tryz.prog W 0 (fun _ => true) true 22 v d p) (hk : ∀ elems spare, d = .slice elems spare → elems.length ≤ 2000000) :
    ∃ a n c g off, v = .slice a n c ∧ n ≤ 2000000 ∧ ScrAt W a n g off := by
  obtain ⟨a0, n, c, rfl⟩ := okWide_slice Tryz.underlying22 hok
  obtain ⟨fuel, hf⟩ := h
  rcases Deep.open_slice Tryz.underlying22 hf with ⟨hcs, _⟩ | ⟨a, len, cap, m, fu, D, Pl, hcs, _, hle, _, hall, hx, hel⟩
  · simp [Value.cells] at hcs
    obtain ⟨rfl, rfl, rfl⟩ := hcs
    exact ⟨_, _, _, 0, 0, rfl, by omega, fun h => absurd h (by omega), fun j hj => absurd hj (by omega)⟩
  · simp [Value.cells] at hcs
    obtain ⟨rfl, rfl, rfl⟩ := hcs
    simp only [if_true] at hall
    have hsz := hk _ _ (congrArg Prod.fst hx)
    simp only [List.length_map, List.length_range] at hsz
    rw [cells31] at hel
    by_cases hn : n = 0
    · subst hn
      exact ⟨_, _, _, 0, 0, rfl, by omega, fun h => absurd h (by omega), fun j hj => absurd hj (by omega)⟩
    · obtain ⟨b, off, spot⟩ := a
      have hspot : spot = none := by
        obtain ⟨cs', h1, h2⟩ := hel 0 (by omega)
        obtain ⟨s, rfl, _⟩ := trodStep h2
        have := (World.cells?_some h1).2.2 0 (by show 0 < 31; omega)
        simpa [Addr.add] using World.cell?_spot this
      subst hspot
      refine ⟨_, _, _, b, off, rfl, hsz, fun _ => rfl, fun j hj => ?_⟩
      obtain ⟨cs', h1, h2⟩ := hel j (by omega)
      obtain ⟨s, rfl, r⟩ := trodStep h2
      refine ⟨s, fun i u hu => ?_, r⟩
      have hi : i < 31 := (List.getElem?_eq_some_iff.1 hu).1
      have := (World.cells?_some h1).2.2 i hi
      rw [Addr.add_mid, Addr.add_mid] at this
      exact this.trans hu
end
end Go.Proofs.YtnjalelblbjfiaaGreatDoor
