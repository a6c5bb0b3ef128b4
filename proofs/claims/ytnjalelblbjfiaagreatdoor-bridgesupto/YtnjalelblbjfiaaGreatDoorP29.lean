import Derived.Test.YtnjalelblbjfiaaGreatDoorP24
import Derived.Deep.QuietTactic
import Derived.BigQuiet
import Derived.Lib.QuietBelow
import Derived.Test.YtnjalelblbjfiaaGreatDoorP26
import Derived.Laws.ResultCell
namespace Go.Proofs.YtnjalelblbjfiaaGreatDoor
open Go.RowKit
open Go.Sort (grow)
attribute [local go_sem] cell?_regrown

/-- The number of two bytes at a place. -/
def w16 (b : ByteArray) (i : Nat) : Nat := if h : i + 1 < b.size then (b[i]'(by omega)).toNat * 256 + (b[i + 1]'h).toNat else 0
theorem w16_lt (b : ByteArray) (i : Nat) : w16 b i < 65536 := by
  unfold w16
  split
  · rename_i h
    have h0 := (b[i]'(by omega)).toNat_lt
    have h1 := (b[i + 1]'h).toNat_lt
    omega
  · omega
theorem or_bytes (x y : Nat) (hx : x < 256) (hy : y < 256) : bits BinOp.or IntKind.i64 ((x : Int) * 256) y = ((x * 256 + y : Nat) : Int) := by
  have e : (x : Int) * 256 = ((x * 256 : Nat) : Int) := by omega
  rw [e, i64_or_nat _ _ (by omega) (by omega)]
  congr 1
  have := Nat.shiftLeft_add_eq_or_of_lt (i := 8) (b := y) (by omega) x
  rw [Nat.shiftLeft_eq] at this
  exact this.symm
theorem retInt {k : IntKind} {a b : Int} (h : a = b) : Ending.returned (.int k a) = .returned (.int k b) := by rw [h]

set_option maxRecDepth 100000 in
set_option maxHeartbeats 1000000 in
theorem pWord_any (b : ByteArray) (hd tt : Int) (i : Nat) (w : World) (h : i + 1 < b.size) (hs : b.size ≤ 1000) :
    Calls Tryz.prog 171 #[.agg #[.string b, .int .i64 hd, .int .i64 tt], .int .i64 i] w fun e w' => e = .returned (.int .i64 (w16 b i)) ∧ Below w.heap.size w w' := by
  have i0 : (i : Int) < b.size := by omega
  have i1 : (i : Int) + 1 < b.size := by omega
  have i2 : (0 : Int) ≤ i := by omega
  have i3 : (0 : Int) ≤ (i : Int) + 1 := by omega
  have hib : (i : Int) ≤ 1000 := by omega
  have j0 : i < b.size := by omega
  have hw : w16 b i = (b[i]'(by omega)).toNat * 256 + (b[i + 1]'h).toNat := dif_pos h
  have h0 := (b[i]'(by omega)).toNat_lt
  have h1 := (b[i + 1]'h).toNat_lt
  have HO : Hid (bits BinOp.or IntKind.i64 (IntKind.i64.wrap (IntKind.i64.wrap ((b[i]'(by omega)).toNat : Int) * 256)) (IntKind.i64.wrap ((b[i + 1]'h).toNat : Int)) = ((((b[i]'(by omega)).toNat * 256 + (b[i + 1]'h).toNat : Nat)) : Int)) := hide (by
    rw [← or_bytes _ _ h0 h1]
    have e1 : IntKind.i64.wrap ((b[i]'(by omega)).toNat : Int) = ((b[i]'(by omega)).toNat : Int) := by rw [IntKind.wrap_i64]; omega
    have e2 : IntKind.i64.wrap (((b[i]'(by omega)).toNat : Int) * 256) = ((b[i]'(by omega)).toNat : Int) * 256 := by rw [IntKind.wrap_i64]; omega
    have e3 : IntKind.i64.wrap ((b[i + 1]'h).toNat : Int) = ((b[i + 1]'h).toNat : Int) := by rw [IntKind.wrap_i64]; omega
    rw [e1, e2, e3])
  have HW := hide hw
  clear hw
  go_enter Tryz.func171, Tryz.ntmps171
  go_wp2
  have hx : ∀ W : World, (Instr.index 9 (.string b) (.int .i64 (IntKind.i64.wrap ((i : Int) + 1)))).run Tryz.prog W = .ok (.int .u8 ((b[i + 1]'h).toNat : Int)) W := fun W => by
    rw [show IntKind.i64.wrap ((i : Int) + 1) = (i : Int) + 1 by rw [IntKind.wrap_i64]; omega]
    simp [go_sem, i1, i3]
  have hx0 : ∀ W : World, (Instr.index 9 (.string b) (.int .i64 (i : Int))).run Tryz.prog W = .ok (.int .u8 ((b[i]'j0).toNat : Int)) W := fun W => by
    simp [go_sem, i0]
  generalize (b[i + 1]'h).toNat = y at *
  generalize (b[i]'j0).toNat = x at *
  clear i1 i3 i0 j0 h hs
  obtain ⟨W0, hW0⟩ : ∃ W0, W0 = w.alloc (.cells #[.string b, .int .i64 hd, .int .i64 tt] 148) := ⟨_, rfl⟩
  have c0 : W0.cell? ⟨w.heap.size, 0, none⟩ = some (.string b) := by rw [hW0]; exact cellRow (allocN _ _) rfl
  have hlt : w.heap.size < W0.heap.size := by rw [hW0]; simp
  have HB : Hid (Below w.heap.size w W0) := hide (by rw [hW0]; exact (Below.refl _ w).alloc (Nat.le_refl _) _)
  rw [← hW0]
  clear hW0
  refine wp_region_quiet_below (by kernel_rfl) (by kernel_rfl) ?_
  repeat (first | go_big_quiet_skip | quiet_step (fail))
  refine wpQuiet_nil ?_; intro wq hwq; replace hwq := below_of_regrown hwq; obtain ⟨hcq, hfq⟩ := bcell hwq; have hzq := hwq.size
  have HQ := hide hwq
  clear hcq hfq hwq
  go_wp2
  go_ret
  exact ⟨retInt (by rw [HO.out, HW.out]), HB.out.trans (HQ.out.mono (Nat.le_of_lt hlt))⟩

/-- The sum of two words in ones' complement. -/
def ones (x y : Nat) : Nat := (x + y) % 65536 + (x + y) / 65536
theorem ones_le {x y : Nat} (hx : x ≤ 65535) (hy : y ≤ 65535) : ones x y ≤ 65535 := by unfold ones; omega
theorem and_word (n : Nat) (h : n < 9223372036854775808) : bits BinOp.and IntKind.i64 (n : Int) 65535 = ((n % 65536 : Nat) : Int) := by
  have := i64_and_nat n 65535 (by omega) (by omega)
  rw [show ((65535 : Nat) : Int) = 65535 from rfl] at this
  rw [this]
  congr 1
  exact Nat.and_two_pow_sub_one_eq_mod n 16
set_option maxRecDepth 100000 in
theorem pAdd_any (x y : Nat) (w : World) (hx : x ≤ 65535) (hy : y ≤ 65535) : Calls Tryz.prog 208 #[.int .i64 x, .int .i64 y] w fun e w' => e = .returned (.int .i64 (ones x y)) ∧ w' = w := by
  have hb := and_word (x + y) (by omega)
  rw [Int.natCast_add] at hb
  have hb2 : (((x + y) % 65536 : Nat) : Int) + ((x : Int) + y) / 65536 = ones x y := by unfold ones; omega
  have hb3 : 0 ≤ bits BinOp.and IntKind.i64 ((x : Int) + y) 65535 ∧ bits BinOp.and IntKind.i64 ((x : Int) + y) 65535 ≤ 65535 := by rw [hb]; omega
  have HB := hide hb
  clear hb
  go_enter Tryz.func208, Tryz.ntmps208
  go_wp2
  go_ret
  exact ⟨retInt (by rw [HB.out, hb2]), rfl⟩
end Go.Proofs.YtnjalelblbjfiaaGreatDoor

namespace Go.Proofs.YtnjalelblbjfiaaGreatDoor
open Go.RowKit
open Go.Sort (grow)
attribute [local go_sem] cell?_regrown

set_option maxRecDepth 100000 in
set_option maxHeartbeats 1000000 in
theorem xtwo_any (b : ByteArray) (i : Nat) (w : World) (h : i + 1 < b.size) (hs : b.size ≤ 1000) :
    Calls Tryz.prog 183 #[.string b, .int .i64 i] w fun e w' => e = .returned (.int .i64 (w16 b i)) ∧ Below w.heap.size w w' := by
  have i0 : (i : Int) < b.size := by omega
  have i1 : (i : Int) + 1 < b.size := by omega
  have i2 : (0 : Int) ≤ i := by omega
  have i3 : (0 : Int) ≤ (i : Int) + 1 := by omega
  have hib : (i : Int) ≤ 1000 := by omega
  have j0 : i < b.size := by omega
  have hw : w16 b i = (b[i]'(by omega)).toNat * 256 + (b[i + 1]'h).toNat := dif_pos h
  have h0 := (b[i]'(by omega)).toNat_lt
  have h1 := (b[i + 1]'h).toNat_lt
  have hx : ∀ W : World, (Instr.index 9 (.string b) (.int .i64 (IntKind.i64.wrap ((i : Int) + 1)))).run Tryz.prog W = .ok (.int .u8 ((b[i + 1]'h).toNat : Int)) W := fun W => by
    rw [show IntKind.i64.wrap ((i : Int) + 1) = (i : Int) + 1 by rw [IntKind.wrap_i64]; omega]
    simp [go_sem, i1, i3]
  have hx1 : ∀ W : World, (Instr.index 9 (.string b) (.int .i64 ((i : Int) + 1))).run Tryz.prog W = .ok (.int .u8 ((b[i + 1]'h).toNat : Int)) W := fun W => by
    simp [go_sem, i1, i3]
  have hx0 : ∀ W : World, (Instr.index 9 (.string b) (.int .i64 (i : Int))).run Tryz.prog W = .ok (.int .u8 ((b[i]'j0).toNat : Int)) W := fun W => by
    simp [go_sem, i0]
  generalize (b[i + 1]'h).toNat = y at *
  generalize (b[i]'j0).toNat = x at *
  have e1 : IntKind.i64.wrap (x : Int) = x := by rw [IntKind.wrap_i64]; omega
  have e2 : IntKind.i64.wrap (256 * (x : Int)) = 256 * x := by rw [IntKind.wrap_i64]; omega
  have e3 : IntKind.i64.wrap (y : Int) = y := by rw [IntKind.wrap_i64]; omega
  have e4 : IntKind.i64.wrap (256 * (x : Int) + y) = 256 * x + y := by rw [IntKind.wrap_i64]; omega
  have HW := hide hw
  clear i1 i3 i0 j0 h hs hw
  go_enter Tryz.func183, Tryz.ntmps183
  go_wp2
  refine wp_region_quiet_below (by kernel_rfl) (by kernel_rfl) ?_
  repeat (first | go_big_quiet_skip | quiet_step (fail))
  refine wpQuiet_nil ?_; intro wq hwq; replace hwq := below_of_regrown hwq; obtain ⟨hcq, hfq⟩ := bcell hwq; have hzq := hwq.size
  have HQ := hide hwq
  clear hcq hfq hwq
  go_wp2
  go_ret
  exact ⟨retInt (by rw [HW.out]; omega), HQ.out⟩

set_option maxRecDepth 100000 in
theorem xgroup_any (b : ByteArray) (w : World) (h : 0 < b.size) :
    Calls Tryz.prog 130 #[.string b] w fun e w' => e = .returned (.bool (isGrp b)) ∧ w' = w := by
  have hg : isGrp b = (b[0].toNat % 2 == 1) := by rw [isGrp, dif_pos h]
  have h0 := b[0].toNat_lt
  have hx0 : ∀ W : World, (Instr.index 9 (.string b) (.int .i64 0)).run Tryz.prog W = .ok (.int .u8 ((b[0]'h).toNat : Int)) W := fun W => by
    simp [go_sem, h]
  rw [hg]
  generalize (b[0]'h).toNat = x at *
  have HG : Hid (((x : Int) % 2 == 1) = (x % 2 == 1)) := hide (by
    rw [Bool.eq_iff_iff, beq_iff_eq, beq_iff_eq]
    omega)
  clear hg
  go_enter Tryz.func130, Tryz.ntmps130
  go_wp2
  go_ret
  exact ⟨by simp [HG.out], rfl⟩

set_option maxRecDepth 100000 in
theorem xfour_any (b : ByteArray) (i : Nat) (w : World) (h : i + 3 < b.size) (hs : b.size ≤ 1000) :
    Calls Tryz.prog 187 #[.string b, .int .i64 i] w fun e w' => e = .returned (.int .i64 ((65536 * w16 b i + w16 b (i + 2) : Nat) : Int)) ∧ Below w.heap.size w w' := by
  have C1 := hide (xtwo_any b i w (by omega) hs)
  have C2 := hide fun (W : World) => xtwo_any b (i + 2) W (by omega) hs
  have l0 := w16_lt b i
  have l1 := w16_lt b (i + 2)
  have hi2 : IntKind.i64.wrap ((i : Int) + 2) = ((i + 2 : Nat) : Int) := by rw [IntKind.wrap_i64]; omega
  have e1 : IntKind.i64.wrap (65536 * (w16 b i : Int)) = 65536 * (w16 b i : Int) := by rw [IntKind.wrap_i64]; omega
  have e2 : IntKind.i64.wrap (65536 * (w16 b i : Int) + (w16 b (i + 2) : Int)) = 65536 * (w16 b i : Int) + (w16 b (i + 2) : Int) := by rw [IntKind.wrap_i64]; omega
  clear h hs
  go_enter Tryz.func187, Tryz.ntmps187
  go_wp2_with fail
  refine C1.out.mono ?_
  rintro e w1 ⟨rfl, hb1⟩
  have HB1 := hide hb1
  clear C1 hb1
  go_wp2_with fail
  refine (C2.out _).mono ?_
  rintro e w2 ⟨rfl, hb2⟩
  have HB2 := hide (HB1.out.trans (hb2.mono HB1.out.size))
  clear C2 hb2
  go_wp2
  go_ret
  exact ⟨retInt (by omega), HB2.out⟩
theorem xadd_any (x y : Nat) (w : World) (hx : x ≤ 65535) (hy : y ≤ 65535) : Calls Tryz.prog 185 #[.int .i64 x, .int .i64 y] w fun e w' => e = .returned (.int .i64 (ones x y)) ∧ w' = w := by
  have e1 : IntKind.i64.wrap ((x : Int) + y) = (x : Int) + y := by rw [IntKind.wrap_i64]; omega
  by_cases h : (65535 : Int) < (x : Int) + y
  · have e2 : IntKind.i64.wrap ((x : Int) + y - 65535) = (x : Int) + y - 65535 := by rw [IntKind.wrap_i64]; omega
    go_enter Tryz.func185, Tryz.ntmps185
    go_wp2
    go_ret
    exact ⟨retInt (by unfold ones; omega), rfl⟩
  · go_enter Tryz.func185, Tryz.ntmps185
    go_wp2
    go_ret
    exact ⟨retInt (by unfold ones; omega), rfl⟩
theorem xisVLAN_any (v : Int) (w : World) : Calls Tryz.prog 127 #[.int .i64 v] w fun e w' => e = .returned (.bool (isV v)) ∧ w' = w := by
  have hv : isV v = (decide (1 ≤ v) && decide (v ≤ 4094)) := rfl
  rw [hv]
  by_cases h1 : 1 ≤ v
  · by_cases h2 : v ≤ 4094
    · go_enter Tryz.func127, Tryz.ntmps127
      go_wp2
      go_ret
      exact ⟨by simp [h1, h2], rfl⟩
    · go_enter Tryz.func127, Tryz.ntmps127
      go_wp2
      go_ret
      exact ⟨by simp [h2], rfl⟩
  · go_enter Tryz.func127, Tryz.ntmps127
    go_wp2
    go_ret
    exact ⟨by have h1' : ¬ 1 ≤ v := (by omega); simp [h1'], rfl⟩
set_option maxRecDepth 100000 in
theorem xin_any (T : List Int) (v : Value) (x : Int) (w : World) (h : NumsAt w v T) (hl : T.length < 1000000000000) :
    Calls Tryz.prog 128 #[v, .int .i64 x] w fun e w' => e = .returned (.bool (tgOf T x)) ∧ w' = w := by
  obtain ⟨a, cap, b, rfl, hc⟩ := h
  have HC := hide hc
  clear hc
  go_enter Tryz.func128, Tryz.ntmps128
  go_wp2_with fail
  go_loopw [5] (fun i wr => wr = w ∧ ∃ k : Nat, k ≤ T.length ∧ i = .int .i64 k ∧ ∀ j (hj : j < T.length), j < k → T[j] ≠ x) (fun i _ => T.length - (intOf i).toNat)
  case atStart => exact ⟨rfl, 0, by omega, rfl, fun j _ h => absurd h (Nat.not_lt_zero j)⟩
  case round =>
    obtain ⟨rfl, k, hk, rfl, hno⟩ := hrel
    have HNO := hide hno
    clear hno
    by_cases hkl : k < T.length
    · have hki : (k : Int) < T.length := by omega
      obtain ⟨rfl, hcell⟩ := HC.out k hkl
      have hbl := block_lt_of_cell hcell
      obtain ⟨y, hy⟩ : ∃ y, y = T[k] := ⟨_, rfl⟩
      rw [← hy] at hcell
      have HY := hide hy
      clear hy
      by_cases hxy : y = x
      · have HX := hide hxy
        subst hxy
        go_wp2
        go_ret
        refine ⟨?_, rfl⟩
        have : tgOf T y = true := by
          unfold tgOf
          rw [List.contains_iff_mem, HY.out]
          exact List.getElem_mem hkl
        rw [this]
        rfl
      · go_wp2_with fail
        go_roundw
        case rel => exact ⟨by trivial, k + 1, by omega, by go_num, fun j hj hjk => by
          by_cases e : j = k
          · subst e; rw [← HY.out]; exact hxy
          · exact HNO.out j hj (by omega)⟩
        case measure => simp [intOf]; omega
    · have hki : ¬ (k : Int) < T.length := by omega
      go_wp2
      go_ret
      refine ⟨?_, rfl⟩
      have : tgOf T x = false := by
        unfold tgOf
        rw [← Bool.not_eq_true, List.contains_iff_mem]
        intro hm
        obtain ⟨j, hj, e⟩ := List.getElem_of_mem hm
        exact HNO.out j hj (by omega) e
      rw [this]
      rfl
end Go.Proofs.YtnjalelblbjfiaaGreatDoor

namespace Go.Proofs.YtnjalelblbjfiaaGreatDoor
open Go.RowKit
open Go.Sort (grow)
attribute [local go_sem] cell?_regrown

/-- A number's two bytes. -/
def two2 (z : Int) : ByteArray := ⟨#[UInt8.ofNat (z / 256 % 256).toNat, UInt8.ofNat (z % 256).toNat]⟩
set_option maxRecDepth 100000 in
theorem xbytes2_any (z : Int) (w : World) (hz : 0 ≤ z ∧ z < 65536) :
    Calls Tryz.prog 214 #[.int .i64 z] w fun e w' => e = .returned (.string (two2 z)) ∧ Below w.heap.size w w' := by
  have hcv := conv2 (w.alloc (.cells #[.int .u8 (z / 256), .int .u8 (z % 256)] 5)) w.heap.size (z / 256) (z % 256) (by omega) (by omega) (cellRow (allocN _ _) rfl) (cellRow (allocN _ _) rfl)
  have h2 : two2 z = ⟨#[UInt8.ofNat (z / 256).toNat, UInt8.ofNat (z % 256).toNat]⟩ := by unfold two2; rw [show z / 256 % 256 = z / 256 by omega]
  rw [h2]
  clear h2
  go_enter Tryz.func214, Tryz.ntmps214
  go_wp2
  go_ret
  exact ⟨rfl, (Below.refl _ w).alloc (Nat.le_refl _) _⟩
/-- The bytes of a frame's type. -/
theorem kind_tag (b : ByteArray) : kind2 b = 1 ↔ (b.toList == [129, 0]) = true := by
  have e : (⟨#[129, 0]⟩ : ByteArray).toList = [129, 0] := by rw [ByteArray.toList_eq]
  rw [beq_iff_eq]
  by_cases h : b.toList = [129, 0]
  · simp [kind2, kindN, e, h]
  · have h' : ¬ [129, 0] = b.toList := fun x => h x.symm
    simp only [kind2, kindN, e, beq_iff_eq, h, h', if_false, iff_false]
    split <;> omega
theorem tag_word {d : ByteArray} (h : 16 ≤ d.size) : tagNum (d.extract 14 16) = w16 d 14 := by
  have hz : (d.extract 14 16).size = 2 := by rw [ByteArray.size_extract]; omega
  rw [tagNum, dif_pos hz, w16, dif_pos (by omega), ByteArray.getElem_extract, ByteArray.getElem_extract]
/-- The document's frame, as its struct holds it. -/
def xfCells (f : Fr) : Array Value := #[.string f.to, .string f.fr, .int .i64 f.vlan, .int .i64 f.mark, .bool f.tagged, .string f.ty, .string f.rest]
theorem ret_xf {tmps : Array Value} {W : World} {b : Nat} {cs : Array Value} (hb : W.heap[b]? = some (.cells cs 248 (0, 0))) (hs : cs.size = 7) (hp : tmps.getD 2 undef = .pointer (some ⟨b, 0, none⟩)) :
    (results Tryz.f129 tmps).run Tryz.prog W = .ok (.tuple #[.agg cs, tmps.getD 3 undef]) W := by
  rw [results_cell_tmp (fn := Tryz.f129) (p := 2) (u := 3) (ty := 248) rfl, hp]
  have hi : (Tryz.prog.info? 248).map (·.size) = some cs.size := by rw [hs]; kernel_rfl
  simp [asAddr, run_loadVar_row W b 248 248 cs (0, 0) _ hb Tryz.underlying248 rfl hi, Result.andThen]
/-- What the document's cut leaves. -/
def CutOk (d : ByteArray) (cs : Array Value) : Prop := (∃ f, cs = xfCells f) ∧ ∀ f, readF d = some f → cs = xfCells f
theorem CutOk.none {d : ByteArray} {cs : Array Value} (h : readF d = none) (hs : ∃ f, cs = xfCells f) : CutOk d cs := ⟨hs, fun f hf => by rw [h] at hf; cases hf⟩
theorem CutOk.some {d : ByteArray} {cs : Array Value} {f : Fr} (h : readF d = some f) (hs : cs = xfCells f) : CutOk d cs := ⟨⟨f, hs⟩, fun f' hf => by rw [h] at hf; cases hf; exact hs⟩
set_option maxRecDepth 100000 in
set_option maxHeartbeats 1000000 in
theorem xcut_any (d : ByteArray) (w : World) (hl : d.size ≤ 600) :
    Calls Tryz.prog 129 #[.string d] w fun e w' => (∃ cs, e = .returned (.tuple #[.agg cs, .bool (readF d).isSome]) ∧ CutOk d cs) ∧ Below w.heap.size w w' := by
  by_cases h1 : d.size < 14
  · have hr : readF d = none := by unfold readF; rw [if_pos h1]
    rw [show (readF d).isSome = false by rw [hr]; rfl]
    have HR := hide hr
    have hi : (d.size : Int) < 14 := by omega
    clear hr
    go_enter Tryz.func129, Tryz.ntmps129
    go_wp2
    refine bodyPost_ret (ret_xf (b := w.heap.size) (cs := #[.string ⟨#[]⟩, .string ⟨#[]⟩, .int .i64 0, .int .i64 0, .bool false, .string ⟨#[]⟩, .string ⟨#[]⟩]) ((heap_alloc_old _ _ (by simp)).trans (heap_alloc_new w _)) rfl rfl) rfl ?_
    exact ⟨⟨_, rfl, CutOk.none HR.out ⟨⟨_, _, _, _, _, _, _⟩, rfl⟩⟩, (by repeat (first | exact Below.refl _ _ | assumption | refine Below.drewN ?_ | refine Below.drew ?_ | refine Below.setCell ?_ (by first | exact Nat.le_refl _ | omega | (simp; done) | (simp; omega)) _ | refine Below.alloc ?_ (by first | exact Nat.le_refl _ | omega | (simp; done) | (simp; omega)) _))⟩
  · have hi : ¬ (d.size : Int) < 14 := by omega
    have k6 : (6 : Int) ≤ d.size := by omega
    have k12 : (12 : Int) ≤ d.size := by omega
    have k14 : (14 : Int) ≤ d.size := by omega
    cases hk : ((d.extract 12 14).toList == [129, 0]) with
    | false =>
      have hn : ¬ kind2 (d.extract 12 14) = 1 := fun h => by rw [kind_tag, hk] at h; cases h
      have hr : readF d = some ⟨d.extract 0 6, d.extract 6 12, false, 0, 0, d.extract 12 14, d.extract 14 d.size⟩ := by unfold readF; rw [if_neg h1, if_neg hn]
      rw [show (readF d).isSome = true by rw [hr]; rfl]
      have HR := hide hr
      clear hr hn h1
      go_enter Tryz.func129, Tryz.ntmps129
      go_wp2
      refine bodyPost_ret (ret_xf (b := w.heap.size) (cs := #[.string (d.extract 0 6), .string (d.extract 6 12), .int .i64 0, .int .i64 0, .bool false, .string (d.extract 12 14), .string (d.extract 14 d.size)]) ((heap_alloc_old _ _ (by simp)).trans (heap_alloc_new w _)) rfl rfl) rfl ?_
      exact ⟨⟨_, rfl, CutOk.some HR.out rfl⟩, (by repeat (first | exact Below.refl _ _ | assumption | refine Below.drewN ?_ | refine Below.drew ?_ | refine Below.setCell ?_ (by first | exact Nat.le_refl _ | omega | (simp; done) | (simp; omega)) _ | refine Below.alloc ?_ (by first | exact Nat.le_refl _ | omega | (simp; done) | (simp; omega)) _))⟩
    | true =>
      have hn : kind2 (d.extract 12 14) = 1 := (kind_tag _).2 hk
      by_cases h18 : d.size < 18
      · have hr : readF d = none := by unfold readF; rw [if_neg h1, if_pos hn, if_pos h18]
        rw [show (readF d).isSome = false by rw [hr]; rfl]
        have HR := hide hr
        have hi8 : (d.size : Int) < 18 := by omega
        clear hr hn h1
        go_enter Tryz.func129, Tryz.ntmps129
        go_wp2
        refine bodyPost_ret (ret_xf (b := w.heap.size) (cs := #[.string (d.extract 0 6), .string (d.extract 6 12), .int .i64 0, .int .i64 0, .bool false, .string ⟨#[]⟩, .string ⟨#[]⟩]) ((heap_alloc_old _ _ (by simp)).trans (heap_alloc_new w _)) rfl rfl) rfl ?_
        exact ⟨⟨_, rfl, CutOk.none HR.out ⟨⟨_, _, _, _, _, _, _⟩, rfl⟩⟩, (by repeat (first | exact Below.refl _ _ | assumption | refine Below.drewN ?_ | refine Below.drew ?_ | refine Below.setCell ?_ (by first | exact Nat.le_refl _ | omega | (simp; done) | (simp; omega)) _ | refine Below.alloc ?_ (by first | exact Nat.le_refl _ | omega | (simp; done) | (simp; omega)) _))⟩
      · have hr : readF d = some ⟨d.extract 0 6, d.extract 6 12, true, ((tagNum (d.extract 14 16) % 4096 : Nat) : Int), ((tagNum (d.extract 14 16) / 4096 : Nat) : Int), d.extract 16 18, d.extract 18 d.size⟩ := by unfold readF; rw [if_neg h1, if_pos hn, if_neg h18]
        rw [tag_word (by omega)] at hr
        rw [show (readF d).isSome = true by rw [hr]; rfl]
        have HR := hide hr
        have hi8 : ¬ (d.size : Int) < 18 := by omega
        have k4 : (4 : Int) ≤ d.size := by omega
        have z1 : (d.extract 4 d.size).size = d.size - 4 := by rw [ByteArray.size_extract]; omega
        have m12 : (12 : Int) ≤ (d.extract 4 d.size).size := by rw [z1]; omega
        have m14 : (14 : Int) ≤ (d.extract 4 d.size).size := by rw [z1]; omega
        have x1 : (d.extract 4 d.size).extract 12 14 = d.extract 16 18 := by rw [ByteArray.extract_extract]; congr 1; omega
        have X2 : Hid ((d.extract 4 d.size).extract 14 (d.size - 4) = d.extract 18 d.size) := hide (by rw [ByteArray.extract_extract]; congr 1; omega)
        have hw := w16_lt d 14
        obtain ⟨W1, hW1⟩ : ∃ W1, W1 = (w.alloc (.cells #[.string ⟨#[]⟩, .string ⟨#[]⟩, .int .i64 0, .int .i64 0, .bool false, .string ⟨#[]⟩, .string ⟨#[]⟩] 248)).alloc (.cells #[.string (d.extract 0 6), .string (d.extract 6 12), .int .i64 0, .int .i64 0, .bool false, .string ⟨#[]⟩, .string ⟨#[]⟩] 248) := ⟨_, rfl⟩
        have hb1 : Below w.heap.size w W1 := by rw [hW1]; exact ((Below.refl _ w).alloc (Nat.le_refl _) _).alloc (by simp) _
        have q0 : W1.heap[w.heap.size]? = some (.cells #[.string ⟨#[]⟩, .string ⟨#[]⟩, .int .i64 0, .int .i64 0, .bool false, .string ⟨#[]⟩, .string ⟨#[]⟩] 248 (0, 0)) := by rw [hW1]; exact (heap_alloc_old _ _ (by simp)).trans (heap_alloc_new w _)
        have q1 : W1.heap[w.heap.size + 1]? = some (.cells #[.string (d.extract 0 6), .string (d.extract 6 12), .int .i64 0, .int .i64 0, .bool false, .string ⟨#[]⟩, .string ⟨#[]⟩] 248 (0, 0)) := by rw [hW1, ← allocS w]; exact allocN _ _
        have s1 : W1.heap.size = w.heap.size + 2 := by rw [hW1]; simp
        have CT := hide (xtwo_any d 14 W1 (by omega) (by omega))
        have HB1 := hide hb1
        clear hr hn h1 h18 z1 hl hb1
        go_enter Tryz.func129, Tryz.ntmps129
        go_wp2_with fail
        rw [← hW1]
        clear hW1
        refine CT.out.mono ?_
        rintro e w2 ⟨rfl, hb2⟩
        have p0 := (hb2.block _ (by omega)).trans q0
        have p1 := (hb2.block _ (by omega)).trans q1
        have s2 := hb2.size
        have l0 : w.heap.size < w2.heap.size := by omega
        have l1 : w.heap.size + 1 < w2.heap.size := by omega
        have c0 : w2.cell? ⟨w.heap.size, 0, none⟩ = some (.string ⟨#[]⟩) := cellRow p0 rfl
        have c1 : w2.cell? ⟨w.heap.size, 1, none⟩ = some (.string ⟨#[]⟩) := cellRow p0 rfl
        have c2 : w2.cell? ⟨w.heap.size, 2, none⟩ = some (.int .i64 0) := cellRow p0 rfl
        have c3 : w2.cell? ⟨w.heap.size, 3, none⟩ = some (.int .i64 0) := cellRow p0 rfl
        have c4 : w2.cell? ⟨w.heap.size, 4, none⟩ = some (.bool false) := cellRow p0 rfl
        have c5 : w2.cell? ⟨w.heap.size, 5, none⟩ = some (.string ⟨#[]⟩) := cellRow p0 rfl
        have c6 : w2.cell? ⟨w.heap.size, 6, none⟩ = some (.string ⟨#[]⟩) := cellRow p0 rfl
        have e0 : w2.cell? ⟨w.heap.size + 1, 0, none⟩ = some (.string (d.extract 0 6)) := cellRow p1 rfl
        have e1 : w2.cell? ⟨w.heap.size + 1, 1, none⟩ = some (.string (d.extract 6 12)) := cellRow p1 rfl
        have e2 : w2.cell? ⟨w.heap.size + 1, 2, none⟩ = some (.int .i64 0) := cellRow p1 rfl
        have e3 : w2.cell? ⟨w.heap.size + 1, 3, none⟩ = some (.int .i64 0) := cellRow p1 rfl
        have e4 : w2.cell? ⟨w.heap.size + 1, 4, none⟩ = some (.bool false) := cellRow p1 rfl
        have e5 : w2.cell? ⟨w.heap.size + 1, 5, none⟩ = some (.string ⟨#[]⟩) := cellRow p1 rfl
        have e6 : w2.cell? ⟨w.heap.size + 1, 6, none⟩ = some (.string ⟨#[]⟩) := cellRow p1 rfl
        have f0 : ∀ j, w2.frozen? ⟨w.heap.size, j, none⟩ = false := fun j => frzRow p0 j
        have f1 : ∀ j, w2.frozen? ⟨w.heap.size + 1, j, none⟩ = false := fun j => frzRow p1 j
        have P0 := hide p0
        have HB2 := hide (HB1.out.trans (hb2.mono HB1.out.size))
        clear p0 p1 q0 q1 s1 s2 hb2 CT HB1
        go_wp2
        have e7 : w.heap.size ≠ w.heap.size + 1 := by omega
        have hh := row7_set (v0 := .string (d.extract 0 6)) (v1 := .string (d.extract 6 12)) (v2 := .int .i64 ((w16 d 14 : Int) % 4096)) (v3 := .int .i64 ((w16 d 14 : Int) / 4096)) (v4 := .bool true) (v5 := .string (d.extract 16 18)) (v6 := .string ((d.extract 4 d.size).extract 14 (d.size - 4))) (((((heap_setCell_other _ ⟨w.heap.size + 1, 6, none⟩ _ (.string ((d.extract 4 d.size).extract 14 (d.size - 4))) e7).trans (heap_setCell_other _ ⟨w.heap.size + 1, 5, none⟩ _ (.string (d.extract 16 18)) e7)).trans (heap_setCell_other _ ⟨w.heap.size + 1, 3, none⟩ _ (.int .i64 ((w16 d 14 : Int) / 4096)) e7)).trans (heap_setCell_other _ ⟨w.heap.size + 1, 2, none⟩ _ (.int .i64 ((w16 d 14 : Int) % 4096)) e7)).trans ((heap_setCell_other w2 ⟨w.heap.size + 1, 4, none⟩ _ (.bool true) e7).trans P0.out))
        refine bodyPost_ret (ret_xf hh rfl rfl) rfl ?_
        refine ⟨⟨_, rfl, CutOk.some HR.out ?_⟩, row7_low (((((HB2.out.setCell (by simp) _).setCell (by simp) _).setCell (by simp) _).setCell (by simp) _).setCell (by simp) _) (Nat.le_refl _)⟩
        rw [X2.out]
        simp [xfCells]
end Go.Proofs.YtnjalelblbjfiaaGreatDoor

namespace Go.Proofs.YtnjalelblbjfiaaGreatDoor
open Go.RowKit
open Go.Sort (grow)

/-- The sum of the first words. -/
def hsum (b : ByteArray) : Nat → Nat
  | 0 => 0
  | k + 1 => ones (hsum b k) (w16 b (2 * k))
theorem hsum_le (b : ByteArray) : ∀ k, hsum b k ≤ 65535
  | 0 => by unfold hsum; omega
  | k + 1 => ones_le (hsum_le b k) (by have := w16_lt b (2 * k); omega)

set_option maxRecDepth 100000 in
set_option maxHeartbeats 1000000 in
theorem pSum_any (b : ByteArray) (n : Nat) (tt : Int) (w : World) (h : 2 * n ≤ b.size) (hs : b.size ≤ 1000) :
    Calls Tryz.prog 172 #[.agg #[.string b, .int .i64 ((2 * n : Nat) : Int), .int .i64 tt]] w fun e w' => e = .returned (.int .i64 (hsum b n)) ∧ Below w.heap.size w w' := by
  obtain ⟨hd, hhd⟩ : ∃ hd : Int, hd = ((2 * n : Nat) : Int) := ⟨_, rfl⟩
  rw [← hhd]
  have CW := hide fun (k : Nat) (W : World) (hk : k < n) => pWord_any b hd tt (2 * k) W (by omega) hs
  have CA := hide fun (k : Nat) (W : World) => pAdd_any (hsum b k) (w16 b (2 * k)) W (hsum_le b k) (by have := w16_lt b (2 * k); omega)
  have HD := hide hhd
  clear hhd
  go_enter Tryz.func172, Tryz.ntmps172
  go_wp2
  obtain ⟨W0, hW0⟩ : ∃ W0, W0 = w.alloc (.cells #[.string b, .int .i64 hd, .int .i64 tt] 148) := ⟨_, rfl⟩
  have c0 : W0.cell? ⟨w.heap.size, 0, none⟩ = some (.string b) := by rw [hW0]; exact cellRow (allocN _ _) rfl
  have c1 : W0.cell? ⟨w.heap.size, 1, none⟩ = some (.int .i64 hd) := by rw [hW0]; exact cellRow (allocN _ _) rfl
  have c2 : W0.cell? ⟨w.heap.size, 2, none⟩ = some (.int .i64 tt) := by rw [hW0]; exact cellRow (allocN _ _) rfl
  have HB : Hid (Below w.heap.size w W0) := hide (by rw [hW0]; exact (Below.refl _ w).alloc (Nat.le_refl _) _)
  rw [← hW0]
  clear hW0
  have hz := HB.out.size
  go_loopw [3, 4] (fun s a wr => ∃ k : Nat, k ≤ n ∧ s = .int .i64 (hsum b k) ∧ a = .int .i64 ((2 * k : Nat) : Int) ∧ Hid (Below W0.heap.size W0 wr)) (fun _ a _ => 2 * n - (intOf a).toNat)
  case atStart => exact ⟨0, Nat.zero_le _, rfl, rfl, hide (Below.refl _ _)⟩
  case round =>
    obtain ⟨k, hk, rfl, rfl, hI⟩ := hrel
    have d0 := cell_later hI.out c0
    have d1 := cell_later hI.out c1
    have d2 := cell_later hI.out c2
    by_cases hlt : k < n
    · have hki : ((2 * k : Nat) : Int) < hd := by rw [HD.out]; omega
      have hkb : ((2 * k : Nat) : Int) ≤ 1000 := by omega
      have C1 := hide (CW.out k wr hlt)
      have C2 := hide (CA.out k)
      have hsk : Hid (hsum b (k + 1) = ones (hsum b k) (w16 b (2 * k))) := hide rfl
      obtain ⟨k2, hk2⟩ : ∃ k2, k2 = 2 * k := ⟨_, rfl⟩
      rw [← hk2] at C1 C2 hsk hki hkb ⊢
      have HK2 := hide hk2
      clear hk2 CW CA
      go_wp2_with fail
      refine C1.out.mono ?_
      rintro e W1 ⟨rfl, hb1⟩
      go_wp2_with fail
      refine (C2.out _).mono ?_
      rintro e W2 ⟨rfl, hww⟩
      rw [hww]
      clear hww W2
      have HN := hide (hI.out.trans (hb1.mono hI.out.size))
      clear hb1 C1 C2
      go_wp2
      go_roundw
      case rel => exact ⟨k + 1, by omega, by rw [hsk.out], by rw [HK2.out]; go_num, HN⟩
      case measure =>
        have h7 := HK2.out
        have h8 := HD.out
        simp [intOf]
        omega
    · obtain rfl : k = n := by omega
      have hki : ¬ ((2 * k : Nat) : Int) < hd := by rw [HD.out]; omega
      obtain ⟨k2, hk2⟩ : ∃ k2, k2 = 2 * k := ⟨_, rfl⟩
      rw [← hk2] at hki ⊢
      clear CW CA hk2
      go_wp2
      go_ret
      exact ⟨rfl, HB.out.trans (hI.out.mono hz)⟩

/-- The header's length, by a packet's first byte. -/
def ihl (b : ByteArray) : Nat := if h : 0 < b.size then (b[0]'h).toNat % 16 * 4 else 0
def ver (b : ByteArray) : Nat := if h : 0 < b.size then (b[0]'h).toNat / 16 else 0
/-- Whether a packet is right. -/
def isRt (b : ByteArray) : Bool := decide (20 ≤ b.size) && (ver b == 4) && (decide (20 ≤ ihl b) && decide (ihl b ≤ w16 b 2) && decide (w16 b 2 ≤ b.size)) && (hsum b (ihl b / 2) == 65535)
theorem ihl_le (b : ByteArray) : ihl b ≤ 60 := by unfold ihl; split <;> omega

theorem ret_pk {tmps : Array Value} {W : World} {b : Nat} {x y z : Value} (hb : W.heap[b]? = some (.cells #[x, y, z] 148 (0, 0))) (hp : tmps.getD 2 undef = .pointer (some ⟨b, 0, none⟩)) :
    (results Tryz.f109 tmps).run Tryz.prog W = .ok (.tuple #[.agg #[x, y, z], tmps.getD 3 undef]) W := by
  rw [results_cell_tmp (fn := Tryz.f109) (p := 2) (u := 3) (ty := 148) rfl, hp]
  have hi : (Tryz.prog.info? 148).map (·.size) = some (#[x, y, z] : Array Value).size := by kernel_rfl
  simp [asAddr, run_loadVar_row W b 148 148 #[x, y, z] (0, 0) _ hb Tryz.underlying148 rfl hi, Result.andThen]
set_option maxRecDepth 10000 in
theorem and_15 : ∀ n, n < 256 → bits BinOp.and IntKind.u8 (n : Nat) 15 = ((n % 16 : Nat) : Int) := by decide +kernel
theorem row3_set {W : World} {b : Nat} {t : TypeId} {x0 x1 x2 v0 v1 v2 : Value} (h : W.heap[b]? = some (.cells #[x0, x1, x2] t (0, 0))) :
    (((W.setCell ⟨b, 0, none⟩ v0).setCell ⟨b, 1, none⟩ v1).setCell ⟨b, 2, none⟩ v2).heap[b]? = some (.cells #[v0, v1, v2] t (0, 0)) := by
  have h0 := heap_setCell_same W b 0 _ _ v0 h
  have h1 := heap_setCell_same _ b 1 _ _ v1 h0
  have h2 := heap_setCell_same _ b 2 _ _ v2 h1
  simpa using h2

/-- A packet as it is read. -/
def pkOf (b : ByteArray) : Array Value := if isRt b then #[.string b, .int .i64 (ihl b), .int .i64 (w16 b 2)] else #[.string ⟨#[]⟩, .int .i64 0, .int .i64 0]
set_option maxRecDepth 100000 in
set_option maxHeartbeats 2000000 in
theorem pRead_any (b : ByteArray) (w : World) (hs : b.size ≤ 1000) :
    Calls Tryz.prog 109 #[.string b] w fun e w' => e = .returned (.tuple #[.agg (pkOf b), .bool (isRt b)]) ∧ Below w.heap.size w w' := by
  have hihl := ihl_le b
  by_cases h20 : b.size < 20
  · have hr : isRt b = false := by
      unfold isRt
      rw [decide_eq_false (by omega)]
      rfl
    have hi : (b.size : Int) < 20 := by omega
    have hpk : pkOf b = #[.string ⟨#[]⟩, .int .i64 0, .int .i64 0] := by unfold pkOf; rw [hr]; rfl
    rw [hr, hpk]
    clear hr hpk
    go_enter Tryz.func109, Tryz.ntmps109
    go_wp2
    refine bodyPost_ret (ret_pk (b := w.heap.size) (allocN w _) rfl) rfl ?_
    exact ⟨rfl, (by repeat (first | exact Below.refl _ _ | assumption | refine Below.drewN ?_ | refine Below.drew ?_ | refine Below.setCell ?_ (by first | exact Nat.le_refl _ | omega | (simp; done) | (simp; omega)) _ | refine Below.alloc ?_ (by first | exact Nat.le_refl _ | omega | (simp; done) | (simp; omega)) _))⟩
  · have hi : ¬ (b.size : Int) < 20 := by omega
    have h0 : 0 < b.size := by omega
    have hv : ver b = (b[0]'h0).toNat / 16 := dif_pos h0
    have hih : ihl b = (b[0]'h0).toNat % 16 * 4 := dif_pos h0
    have hx := (b[0]'h0).toNat_lt
    have han := and_15 _ hx
    have hx0 : ∀ W : World, (Instr.index 9 (.string b) (.int .i64 0)).run Tryz.prog W = .ok (.int .u8 ((b[0]'h0).toNat : Int)) W := fun W => by
      simp [go_sem, h0]
    generalize (b[0]'h0).toNat = x at *
    obtain ⟨rt, hrt⟩ : ∃ rt, rt = isRt b := ⟨_, rfl⟩
    obtain ⟨pc, hpc⟩ : ∃ pc, pc = pkOf b := ⟨_, rfl⟩
    have HPC : Hid (pc = if rt = true then #[.string b, .int .i64 (ihl b), .int .i64 (w16 b 2)] else #[.string ⟨#[]⟩, .int .i64 0, .int .i64 0]) := hide (by rw [hpc, hrt]; rfl)
    rw [← hrt, ← hpc]
    clear hpc
    by_cases h4 : x / 16 = 4
    · have h4i : (x : Int) / 16 = 4 := by omega
      have C2 : Hid (∀ W : World, Calls Tryz.prog 171 #[.agg #[.string b, .int .i64 (ihl b), .int .i64 0], .int .i64 2] W fun e w' => e = .returned (.int .i64 (w16 b 2)) ∧ Below W.heap.size W w') := hide fun W => pWord_any b (ihl b) 0 2 W (by omega) hs
      have hhalf : 2 * (ihl b / 2) = ihl b := by omega
      have CS := hide fun (W : World) (hle : ihl b ≤ b.size) => pSum_any b (ihl b / 2) (w16 b 2) W (by omega) hs
      rw [hhalf] at CS
      have hrt2 : rt = (decide (20 ≤ ihl b) && decide (ihl b ≤ w16 b 2) && decide (w16 b 2 ≤ b.size) && (hsum b (ihl b / 2) == 65535)) := by
        rw [hrt]
        unfold isRt
        rw [decide_eq_true (by omega : 20 ≤ b.size), hv, h4]
        rfl
      have HRT := hide hrt2
      have hw2 := w16_lt b 2
      have hsl := hsum_le b (ihl b / 2)
      have e2 : (x : Int) % 16 * 4 = ihl b := by rw [hih]; omega
      have HE2 := hide e2
      clear hrt hrt2 hih hv hx h4 hhalf e2
      go_enter Tryz.func109, Tryz.ntmps109
      go_wp2_with fail
      rw [HE2.out]
      clear HE2
      obtain ⟨W1, hW1⟩ : ∃ W1, W1 = (w.alloc (.cells #[.string ⟨#[]⟩, .int .i64 0, .int .i64 0] 148)).alloc (.cells #[.string b, .int .i64 (ihl b), .int .i64 0] 148) := ⟨_, rfl⟩
      have A0 : W1.heap[w.heap.size]? = some (.cells #[.string ⟨#[]⟩, .int .i64 0, .int .i64 0] 148 (0, 0)) := by rw [hW1]; exact (((Below.refl _ (w.alloc _)).alloc (Nat.le_refl _) _).block _ (by simp)).trans (allocN _ _)
      have A1 : W1.heap[w.heap.size + 1]? = some (.cells #[.string b, .int .i64 (ihl b), .int .i64 0] 148 (0, 0)) := by
        rw [hW1]
        have := allocN (w.alloc (.cells #[.string ⟨#[]⟩, .int .i64 0, .int .i64 0] 148)) (.cells #[.string b, .int .i64 (ihl b), .int .i64 0] 148)
        rwa [World.size_alloc] at this
      have hB1 : Below w.heap.size w W1 := by rw [hW1]; exact ((Below.refl _ w).alloc (Nat.le_refl _) _).alloc (by simp) _
      rw [← hW1]
      clear hW1
      refine (C2.out W1).mono ?_
      rintro e W2 ⟨rfl, hb2⟩
      have A02 := (hb2.block _ (lt_of_heap A0)).trans A0
      have A12 := (hb2.block _ (lt_of_heap A1)).trans A1
      have hB2 : Below w.heap.size w W2 := hB1.trans (hb2.mono hB1.size)
      have y2 : W2.cell? ⟨w.heap.size + 1, 2, none⟩ = some (.int .i64 0) := cellRow A12 rfl
      have y0 : W2.cell? ⟨w.heap.size + 1, 0, none⟩ = some (.string b) := cellRow A12 rfl
      have y1 : W2.cell? ⟨w.heap.size + 1, 1, none⟩ = some (.int .i64 (ihl b)) := cellRow A12 rfl
      have u0 : W2.cell? ⟨w.heap.size, 0, none⟩ = some (.string ⟨#[]⟩) := cellRow A02 rfl
      have u1 : W2.cell? ⟨w.heap.size, 1, none⟩ = some (.int .i64 0) := cellRow A02 rfl
      have u2 : W2.cell? ⟨w.heap.size, 2, none⟩ = some (.int .i64 0) := cellRow A02 rfl
      have uf : ∀ j, W2.frozen? ⟨w.heap.size, j, none⟩ = false := fun j => frzRow A02 j
      have yf : W2.frozen? ⟨w.heap.size + 1, 2, none⟩ = false := frzRow A12 2
      obtain ⟨W3, hW3⟩ : ∃ W3, W3 = W2.setCell ⟨w.heap.size + 1, 2, none⟩ (.int .i64 (w16 b 2)) := ⟨_, rfl⟩
      have A03 : W3.heap[w.heap.size]? = some (.cells #[.string ⟨#[]⟩, .int .i64 0, .int .i64 0] 148 (0, 0)) := by rw [hW3]; exact (heap_setCell_other _ _ _ _ (by show w.heap.size ≠ w.heap.size + 1; omega)).trans A02
      have A13 : W3.heap[w.heap.size + 1]? = some (.cells #[.string b, .int .i64 (ihl b), .int .i64 (w16 b 2)] 148 (0, 0)) := by rw [hW3]; exact (heap_setCell_same _ _ 2 _ _ _ A12).trans (by simp)
      have HB3 : Hid (Below w.heap.size w W3) := hide (by rw [hW3]; exact hB2.setCell (by simp) _)
      have HW3 := hide hW3
      have d0 : W3.cell? ⟨w.heap.size + 1, 0, none⟩ = some (.string b) := cellRow A13 rfl
      have d1 : W3.cell? ⟨w.heap.size + 1, 1, none⟩ = some (.int .i64 (ihl b)) := cellRow A13 rfl
      have d2 : W3.cell? ⟨w.heap.size + 1, 2, none⟩ = some (.int .i64 (w16 b 2)) := cellRow A13 rfl
      clear hW3 A02 A12 hb2 hB1 hB2 A0 A1 C2
      by_cases a1 : ihl b < 20
      · have a1i : (ihl b : Int) < 20 := by omega
        have HF : Hid (rt = false) := hide (by rw [HRT.out, decide_eq_false (by omega)]; rfl)
        clear HRT CS a1
        have z0 : W3.cell? ⟨w.heap.size, 0, none⟩ = some (.string ⟨#[]⟩) := cellRow A03 rfl
        have z1 : W3.cell? ⟨w.heap.size, 1, none⟩ = some (.int .i64 0) := cellRow A03 rfl
        have z2 : W3.cell? ⟨w.heap.size, 2, none⟩ = some (.int .i64 0) := cellRow A03 rfl
        have zf : ∀ j, W3.frozen? ⟨w.heap.size, j, none⟩ = false := fun j => frzRow A03 j
        have HZ := hide (row3_set (v0 := .string ⟨#[]⟩) (v1 := .int .i64 0) (v2 := .int .i64 0) A03)
        clear A03
        go_wp2
        rw [← HW3.out]
        refine bodyPost_ret (ret_pk HZ.out rfl) rfl ?_
        exact ⟨by rw [HPC.out, HF.out]; rfl, ((HB3.out.setCell (Nat.le_refl _) _).setCell (Nat.le_refl _) _).setCell (Nat.le_refl _) _⟩
      · have a1i : ¬ (ihl b : Int) < 20 := by omega
        by_cases a2 : w16 b 2 < ihl b
        · have a2i : (w16 b 2 : Int) < ihl b := by omega
          have HF : Hid (rt = false) := hide (by rw [HRT.out, decide_eq_false (by omega : ¬ ihl b ≤ w16 b 2)]; simp)
          clear HRT CS a1 a2
          have z0 : W3.cell? ⟨w.heap.size, 0, none⟩ = some (.string ⟨#[]⟩) := cellRow A03 rfl
          have z1 : W3.cell? ⟨w.heap.size, 1, none⟩ = some (.int .i64 0) := cellRow A03 rfl
          have z2 : W3.cell? ⟨w.heap.size, 2, none⟩ = some (.int .i64 0) := cellRow A03 rfl
          have zf : ∀ j, W3.frozen? ⟨w.heap.size, j, none⟩ = false := fun j => frzRow A03 j
          have HZ := hide (row3_set (v0 := .string ⟨#[]⟩) (v1 := .int .i64 0) (v2 := .int .i64 0) A03)
          clear A03
          go_wp2
          rw [← HW3.out]
          refine bodyPost_ret (ret_pk HZ.out rfl) rfl ?_
          exact ⟨by rw [HPC.out, HF.out]; rfl, ((HB3.out.setCell (Nat.le_refl _) _).setCell (Nat.le_refl _) _).setCell (Nat.le_refl _) _⟩
        · have a2i : ¬ (w16 b 2 : Int) < ihl b := by omega
          by_cases a3 : b.size < w16 b 2
          · have a3i : (b.size : Int) < w16 b 2 := by omega
            have HF : Hid (rt = false) := hide (by rw [HRT.out, decide_eq_false (by omega : ¬ w16 b 2 ≤ b.size)]; simp)
            clear HRT CS a1 a2 a3
            have z0 : W3.cell? ⟨w.heap.size, 0, none⟩ = some (.string ⟨#[]⟩) := cellRow A03 rfl
            have z1 : W3.cell? ⟨w.heap.size, 1, none⟩ = some (.int .i64 0) := cellRow A03 rfl
            have z2 : W3.cell? ⟨w.heap.size, 2, none⟩ = some (.int .i64 0) := cellRow A03 rfl
            have zf : ∀ j, W3.frozen? ⟨w.heap.size, j, none⟩ = false := fun j => frzRow A03 j
            have HZ := hide (row3_set (v0 := .string ⟨#[]⟩) (v1 := .int .i64 0) (v2 := .int .i64 0) A03)
            clear A03
            go_wp2
            rw [← HW3.out]
            refine bodyPost_ret (ret_pk HZ.out rfl) rfl ?_
            exact ⟨by rw [HPC.out, HF.out]; rfl, ((HB3.out.setCell (Nat.le_refl _) _).setCell (Nat.le_refl _) _).setCell (Nat.le_refl _) _⟩
          · have a3i : ¬ (b.size : Int) < w16 b 2 := by omega
            have CS3 := hide (CS.out W3 (by omega))
            have HRT3 : Hid (rt = (hsum b (ihl b / 2) == 65535)) := hide (by rw [HRT.out, decide_eq_true (by omega : 20 ≤ ihl b), decide_eq_true (by omega : ihl b ≤ w16 b 2), decide_eq_true (by omega : w16 b 2 ≤ b.size)]; rfl)
            clear HRT CS a1 a2 a3
            go_wp2_with fail
            rw [← HW3.out]
            refine CS3.out.mono ?_
            rintro e W4 ⟨rfl, hb4⟩
            have A04 := (hb4.block _ (lt_of_heap A03)).trans A03
            have A14 := (hb4.block _ (lt_of_heap A13)).trans A13
            have HB4 : Hid (Below w.heap.size w W4) := hide (HB3.out.trans (hb4.mono HB3.out.size))
            clear A03 A13 d0 d1 d2 hb4 CS3 HB3 HW3 yf y2 y0 y1 u0 u1 u2 uf
            by_cases hz : hsum b (ihl b / 2) = 65535
            · have hzi : (hsum b (ihl b / 2) : Int) = 65535 := by omega
              have HF : Hid (rt = true) := hide (by rw [HRT3.out, hz]; rfl)
              have z0 : W4.cell? ⟨w.heap.size, 0, none⟩ = some (.string ⟨#[]⟩) := cellRow A04 rfl
              have z1 : W4.cell? ⟨w.heap.size, 1, none⟩ = some (.int .i64 0) := cellRow A04 rfl
              have z2 : W4.cell? ⟨w.heap.size, 2, none⟩ = some (.int .i64 0) := cellRow A04 rfl
              have zf : ∀ j, W4.frozen? ⟨w.heap.size, j, none⟩ = false := fun j => frzRow A04 j
              have d0 : W4.cell? ⟨w.heap.size + 1, 0, none⟩ = some (.string b) := cellRow A14 rfl
              have d1 : W4.cell? ⟨w.heap.size + 1, 1, none⟩ = some (.int .i64 (ihl b)) := cellRow A14 rfl
              have d2 : W4.cell? ⟨w.heap.size + 1, 2, none⟩ = some (.int .i64 (w16 b 2)) := cellRow A14 rfl
              have HZ := hide (row3_set (v0 := .string b) (v1 := .int .i64 (ihl b)) (v2 := .int .i64 (w16 b 2)) A04)
              generalize hsum b (ihl b / 2) = sm at *
              clear A04 A14 HRT3 hz
              go_wp2
              refine bodyPost_ret (ret_pk HZ.out rfl) rfl ?_
              exact ⟨by rw [HPC.out, HF.out]; rfl, ((HB4.out.setCell (Nat.le_refl _) _).setCell (Nat.le_refl _) _).setCell (Nat.le_refl _) _⟩
            · have hzi : ¬ (hsum b (ihl b / 2) : Int) = 65535 := by omega
              have HF : Hid (rt = false) := hide (by rw [HRT3.out]; simpa using hz)
              generalize hsum b (ihl b / 2) = sm at *
              clear A14 HRT3 hz
              have z0 : W4.cell? ⟨w.heap.size, 0, none⟩ = some (.string ⟨#[]⟩) := cellRow A04 rfl
              have z1 : W4.cell? ⟨w.heap.size, 1, none⟩ = some (.int .i64 0) := cellRow A04 rfl
              have z2 : W4.cell? ⟨w.heap.size, 2, none⟩ = some (.int .i64 0) := cellRow A04 rfl
              have zf : ∀ j, W4.frozen? ⟨w.heap.size, j, none⟩ = false := fun j => frzRow A04 j
              have HZ := hide (row3_set (v0 := .string ⟨#[]⟩) (v1 := .int .i64 0) (v2 := .int .i64 0) A04)
              clear A04
              go_wp2
              skip
              refine bodyPost_ret (ret_pk HZ.out rfl) rfl ?_
              exact ⟨by rw [HPC.out, HF.out]; rfl, ((HB4.out.setCell (Nat.le_refl _) _).setCell (Nat.le_refl _) _).setCell (Nat.le_refl _) _⟩
    · have h4i : ¬ (x : Int) / 16 = 4 := by omega
      have HF : Hid (rt = false) := hide (by
        rw [hrt]
        unfold isRt
        have : (ver b == 4) = false := by rw [hv]; simpa using h4
        rw [this]
        simp)
      clear hrt hih hv hx h4 han
      go_enter Tryz.func109, Tryz.ntmps109
      go_wp2
      refine bodyPost_ret (ret_pk (b := w.heap.size) (allocN w _) rfl) rfl ?_
      exact ⟨by rw [HPC.out, HF.out]; rfl, (by repeat (first | exact Below.refl _ _ | assumption | refine Below.drewN ?_ | refine Below.drew ?_ | refine Below.setCell ?_ (by first | exact Nat.le_refl _ | omega | (simp; done) | (simp; omega)) _ | refine Below.alloc ?_ (by first | exact Nat.le_refl _ | omega | (simp; done) | (simp; omega)) _))⟩
end Go.Proofs.YtnjalelblbjfiaaGreatDoor
