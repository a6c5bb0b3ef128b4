import Derived.Test.YtaejpejfmpbinaaGreatDoorP17
import Derived.Deep.QuietTactic
import Derived.BigQuiet
import Derived.Lib.QuietBelow
import Derived.Laws.ResultCell
import Derived.Deep.RegionHeld3
namespace Go.Proofs.YtaejpejfmpbinaaGreatDoor
open Go.RowKit
open Go.Sort (grow)
attribute [local go_sem] cell?_regrown

/-- The number of two bytes at a place. -/
def w16 (b : ByteArray) (i : Nat) : Nat := if h : i + 1 < b.size then (b[i]'(by omega)).toNat * 256 + (b[i + 1]'h).toNat else 0
theorem w16_lt (b : ByteArray) (i : Nat) : w16 b i < 65536 := by
  unfold w16
  split
  · rename_i h
    have h0 := (b[i]'(by omega)).toNat_lt
    have h1 := (b[i + 1]'h).toNat_lt
    omega
  · omega
theorem or_bytes (x y : Nat) (hx : x < 256) (hy : y < 256) : bits BinOp.or IntKind.i64 ((x : Int) * 256) y = ((x * 256 + y : Nat) : Int) := by
  have e : (x : Int) * 256 = ((x * 256 : Nat) : Int) := by omega
  rw [e, i64_or_nat _ _ (by omega) (by omega)]
  congr 1
  have := Nat.shiftLeft_add_eq_or_of_lt (i := 8) (b := y) (by omega) x
  rw [Nat.shiftLeft_eq] at this
  exact this.symm
theorem retInt {k : IntKind} {a b : Int} (h : a = b) : Ending.returned (.int k a) = .returned (.int k b) := by rw [h]
def pkCells (b : ByteArray) (hd tt : Int) : Array Value := #[.string b, .int .i64 hd, .int .i64 tt]

set_option maxRecDepth 100000 in
set_option maxHeartbeats 1000000 in
theorem pWord_any (b : ByteArray) (hd tt : Int) (i : Nat) (w : World) (h : i + 1 < b.size) (hs : b.size ≤ 1000) :
    Calls Tryz.prog 98 #[.agg #[.string b, .int .i64 hd, .int .i64 tt], .int .i64 i] w fun e w' => e = .returned (.int .i64 (w16 b i)) ∧ Below w.heap.size w w' := by
  have i0 : (i : Int) < b.size := by omega
  have i1 : (i : Int) + 1 < b.size := by omega
  have i2 : (0 : Int) ≤ i := by omega
  have i3 : (0 : Int) ≤ (i : Int) + 1 := by omega
  have hib : (i : Int) ≤ 1000 := by omega
  have j0 : i < b.size := by omega
  have hw : w16 b i = (b[i]'(by omega)).toNat * 256 + (b[i + 1]'h).toNat := dif_pos h
  have h0 := (b[i]'(by omega)).toNat_lt
  have h1 := (b[i + 1]'h).toNat_lt
  have HO : Hid (bits BinOp.or IntKind.i64 (IntKind.i64.wrap (IntKind.i64.wrap ((b[i]'(by omega)).toNat : Int) * 256)) (IntKind.i64.wrap ((b[i + 1]'h).toNat : Int)) = ((((b[i]'(by omega)).toNat * 256 + (b[i + 1]'h).toNat : Nat)) : Int)) := hide (by
    rw [← or_bytes _ _ h0 h1]
    have e1 : IntKind.i64.wrap ((b[i]'(by omega)).toNat : Int) = ((b[i]'(by omega)).toNat : Int) := by rw [IntKind.wrap_i64]; omega
    have e2 : IntKind.i64.wrap (((b[i]'(by omega)).toNat : Int) * 256) = ((b[i]'(by omega)).toNat : Int) * 256 := by rw [IntKind.wrap_i64]; omega
    have e3 : IntKind.i64.wrap ((b[i + 1]'h).toNat : Int) = ((b[i + 1]'h).toNat : Int) := by rw [IntKind.wrap_i64]; omega
    rw [e1, e2, e3])
  have HW := hide hw
  clear hw
  go_enter Tryz.func98, Tryz.ntmps98
  go_wp2
  have hx : ∀ W : World, (Instr.index 9 (.string b) (.int .i64 (IntKind.i64.wrap ((i : Int) + 1)))).run Tryz.prog W = .ok (.int .u8 ((b[i + 1]'h).toNat : Int)) W := fun W => by
    rw [show IntKind.i64.wrap ((i : Int) + 1) = (i : Int) + 1 by rw [IntKind.wrap_i64]; omega]
    simp [go_sem, i1, i3]
  have hx0 : ∀ W : World, (Instr.index 9 (.string b) (.int .i64 (i : Int))).run Tryz.prog W = .ok (.int .u8 ((b[i]'j0).toNat : Int)) W := fun W => by
    simp [go_sem, i0]
  generalize (b[i + 1]'h).toNat = y at *
  generalize (b[i]'j0).toNat = x at *
  clear i1 i3 i0 j0 h hs
  obtain ⟨W0, hW0⟩ : ∃ W0, W0 = w.alloc (.cells #[.string b, .int .i64 hd, .int .i64 tt] 63) := ⟨_, rfl⟩
  have c0 : W0.cell? ⟨w.heap.size, 0, none⟩ = some (.string b) := by rw [hW0]; exact cellRow (allocN _ _) rfl
  have hlt : w.heap.size < W0.heap.size := by rw [hW0]; simp
  have HB : Hid (Below w.heap.size w W0) := hide (by rw [hW0]; exact (Below.refl _ w).alloc (Nat.le_refl _) _)
  rw [← hW0]
  clear hW0
  refine wp_region_quiet_below (by kernel_rfl) (by kernel_rfl) ?_
  repeat (first | go_big_quiet_skip | quiet_step (fail))
  refine wpQuiet_nil ?_; intro wq hwq; replace hwq := below_of_regrown hwq; obtain ⟨hcq, hfq⟩ := bcell hwq; have hzq := hwq.size
  have HQ := hide hwq
  clear hcq hfq hwq
  go_wp2
  go_ret
  exact ⟨retInt (by rw [HO.out, HW.out]), HB.out.trans (HQ.out.mono (Nat.le_of_lt hlt))⟩

/-- The sum of two words in ones' complement. -/
def ones (x y : Nat) : Nat := (x + y) % 65536 + (x + y) / 65536
theorem ones_le {x y : Nat} (hx : x ≤ 65535) (hy : y ≤ 65535) : ones x y ≤ 65535 := by unfold ones; omega
theorem and_word (n : Nat) (h : n < 9223372036854775808) : bits BinOp.and IntKind.i64 (n : Int) 65535 = ((n % 65536 : Nat) : Int) := by
  have := i64_and_nat n 65535 (by omega) (by omega)
  rw [show ((65535 : Nat) : Int) = 65535 from rfl] at this
  rw [this]
  congr 1
  exact Nat.and_two_pow_sub_one_eq_mod n 16
set_option maxRecDepth 100000 in
theorem pAdd_any (x y : Nat) (w : World) (hx : x ≤ 65535) (hy : y ≤ 65535) : Calls Tryz.prog 134 #[.int .i64 x, .int .i64 y] w fun e w' => e = .returned (.int .i64 (ones x y)) ∧ w' = w := by
  have hb := and_word (x + y) (by omega)
  rw [Int.natCast_add] at hb
  have hb2 : (((x + y) % 65536 : Nat) : Int) + ((x : Int) + y) / 65536 = ones x y := by unfold ones; omega
  have hb3 : 0 ≤ bits BinOp.and IntKind.i64 ((x : Int) + y) 65535 ∧ bits BinOp.and IntKind.i64 ((x : Int) + y) 65535 ≤ 65535 := by rw [hb]; omega
  have HB := hide hb
  clear hb
  go_enter Tryz.func134, Tryz.ntmps134
  go_wp2
  go_ret
  exact ⟨retInt (by rw [HB.out, hb2]), rfl⟩
end Go.Proofs.YtaejpejfmpbinaaGreatDoor

namespace Go.Proofs.YtaejpejfmpbinaaGreatDoor
open Go.RowKit
open Go.Sort (grow)

/-- The sum of the first words. -/
def hsum (b : ByteArray) : Nat → Nat
  | 0 => 0
  | k + 1 => ones (hsum b k) (w16 b (2 * k))
theorem hsum_le (b : ByteArray) : ∀ k, hsum b k ≤ 65535
  | 0 => by unfold hsum; omega
  | k + 1 => ones_le (hsum_le b k) (by have := w16_lt b (2 * k); omega)

set_option maxRecDepth 100000 in
set_option maxHeartbeats 1000000 in
theorem pSum_any (b : ByteArray) (n : Nat) (tt : Int) (w : World) (h : 2 * n ≤ b.size) (hs : b.size ≤ 1000) :
    Calls Tryz.prog 99 #[.agg #[.string b, .int .i64 ((2 * n : Nat) : Int), .int .i64 tt]] w fun e w' => e = .returned (.int .i64 (hsum b n)) ∧ Below w.heap.size w w' := by
  obtain ⟨hd, hhd⟩ : ∃ hd : Int, hd = ((2 * n : Nat) : Int) := ⟨_, rfl⟩
  rw [← hhd]
  have CW := hide fun (k : Nat) (W : World) (hk : k < n) => pWord_any b hd tt (2 * k) W (by omega) hs
  have CA := hide fun (k : Nat) (W : World) => pAdd_any (hsum b k) (w16 b (2 * k)) W (hsum_le b k) (by have := w16_lt b (2 * k); omega)
  have HD := hide hhd
  clear hhd
  go_enter Tryz.func99, Tryz.ntmps99
  go_wp2
  obtain ⟨W0, hW0⟩ : ∃ W0, W0 = w.alloc (.cells #[.string b, .int .i64 hd, .int .i64 tt] 63) := ⟨_, rfl⟩
  have c0 : W0.cell? ⟨w.heap.size, 0, none⟩ = some (.string b) := by rw [hW0]; exact cellRow (allocN _ _) rfl
  have c1 : W0.cell? ⟨w.heap.size, 1, none⟩ = some (.int .i64 hd) := by rw [hW0]; exact cellRow (allocN _ _) rfl
  have c2 : W0.cell? ⟨w.heap.size, 2, none⟩ = some (.int .i64 tt) := by rw [hW0]; exact cellRow (allocN _ _) rfl
  have HB : Hid (Below w.heap.size w W0) := hide (by rw [hW0]; exact (Below.refl _ w).alloc (Nat.le_refl _) _)
  rw [← hW0]
  clear hW0
  have hz := HB.out.size
  go_loopw [3, 4] (fun s a wr => ∃ k : Nat, k ≤ n ∧ s = .int .i64 (hsum b k) ∧ a = .int .i64 ((2 * k : Nat) : Int) ∧ Hid (Below W0.heap.size W0 wr)) (fun _ a _ => 2 * n - (intOf a).toNat)
  case atStart => exact ⟨0, Nat.zero_le _, rfl, rfl, hide (Below.refl _ _)⟩
  case round =>
    obtain ⟨k, hk, rfl, rfl, hI⟩ := hrel
    have d0 := cell_later hI.out c0
    have d1 := cell_later hI.out c1
    have d2 := cell_later hI.out c2
    by_cases hlt : k < n
    · have hki : ((2 * k : Nat) : Int) < hd := by rw [HD.out]; omega
      have hkb : ((2 * k : Nat) : Int) ≤ 1000 := by omega
      have C1 := hide (CW.out k wr hlt)
      have C2 := hide (CA.out k)
      have hsk : Hid (hsum b (k + 1) = ones (hsum b k) (w16 b (2 * k))) := hide rfl
      obtain ⟨k2, hk2⟩ : ∃ k2, k2 = 2 * k := ⟨_, rfl⟩
      rw [← hk2] at C1 C2 hsk hki hkb ⊢
      have HK2 := hide hk2
      clear hk2 CW CA
      go_wp2_with fail
      refine C1.out.mono ?_
      rintro e W1 ⟨rfl, hb1⟩
      go_wp2_with fail
      refine (C2.out _).mono ?_
      rintro e W2 ⟨rfl, hww⟩
      rw [hww]
      clear hww W2
      have HN := hide (hI.out.trans (hb1.mono hI.out.size))
      clear hb1 C1 C2
      go_wp2
      go_roundw
      case rel => exact ⟨k + 1, by omega, by rw [hsk.out], by rw [HK2.out]; go_num, HN⟩
      case measure =>
        have h7 := HK2.out
        have h8 := HD.out
        simp [intOf]
        omega
    · obtain rfl : k = n := by omega
      have hki : ¬ ((2 * k : Nat) : Int) < hd := by rw [HD.out]; omega
      obtain ⟨k2, hk2⟩ : ∃ k2, k2 = 2 * k := ⟨_, rfl⟩
      rw [← hk2] at hki ⊢
      clear CW CA hk2
      go_wp2
      go_ret
      exact ⟨rfl, HB.out.trans (hI.out.mono hz)⟩

/-- The header's length, by a packet's first byte. -/
def ihl (b : ByteArray) : Nat := if h : 0 < b.size then (b[0]'h).toNat % 16 * 4 else 0
def ver (b : ByteArray) : Nat := if h : 0 < b.size then (b[0]'h).toNat / 16 else 0
/-- Whether a packet is right. -/
def isRt (b : ByteArray) : Bool := decide (20 ≤ b.size) && (ver b == 4) && (decide (20 ≤ ihl b) && decide (ihl b ≤ w16 b 2) && decide (w16 b 2 ≤ b.size)) && (hsum b (ihl b / 2) == 65535)
theorem ihl_le (b : ByteArray) : ihl b ≤ 60 := by unfold ihl; split <;> omega

theorem ret_pk {tmps : Array Value} {W : World} {b : Nat} {x y z : Value} (hb : W.heap[b]? = some (.cells #[x, y, z] 63 (0, 0))) (hp : tmps.getD 2 undef = .pointer (some ⟨b, 0, none⟩)) :
    (results Tryz.f54 tmps).run Tryz.prog W = .ok (.tuple #[.agg #[x, y, z], tmps.getD 3 undef]) W := by
  rw [results_cell_tmp (fn := Tryz.f54) (p := 2) (u := 3) (ty := 63) rfl, hp]
  have hi : (Tryz.prog.info? 63).map (·.size) = some (#[x, y, z] : Array Value).size := by kernel_rfl
  simp [asAddr, run_loadVar_row W b 63 63 #[x, y, z] (0, 0) _ hb Tryz.underlying63 rfl hi, Result.andThen]
set_option maxRecDepth 10000 in
theorem and_15 : ∀ n, n < 256 → bits BinOp.and IntKind.u8 (n : Nat) 15 = ((n % 16 : Nat) : Int) := by decide +kernel
theorem row3_set {W : World} {b : Nat} {t : TypeId} {x0 x1 x2 v0 v1 v2 : Value} (h : W.heap[b]? = some (.cells #[x0, x1, x2] t (0, 0))) :
    (((W.setCell ⟨b, 0, none⟩ v0).setCell ⟨b, 1, none⟩ v1).setCell ⟨b, 2, none⟩ v2).heap[b]? = some (.cells #[v0, v1, v2] t (0, 0)) := by
  have h0 := heap_setCell_same W b 0 _ _ v0 h
  have h1 := heap_setCell_same _ b 1 _ _ v1 h0
  have h2 := heap_setCell_same _ b 2 _ _ v2 h1
  simpa using h2

/-- A packet as it is read. -/
def pkOf (b : ByteArray) : Array Value := if isRt b then #[.string b, .int .i64 (ihl b), .int .i64 (w16 b 2)] else #[.string ⟨#[]⟩, .int .i64 0, .int .i64 0]
set_option maxRecDepth 100000 in
set_option maxHeartbeats 2000000 in
theorem pRead_any (b : ByteArray) (w : World) (hs : b.size ≤ 1000) :
    Calls Tryz.prog 54 #[.string b] w fun e w' => e = .returned (.tuple #[.agg (pkOf b), .bool (isRt b)]) ∧ Below w.heap.size w w' := by
  have hihl := ihl_le b
  by_cases h20 : b.size < 20
  · have hr : isRt b = false := by
      unfold isRt
      rw [decide_eq_false (by omega)]
      rfl
    have hi : (b.size : Int) < 20 := by omega
    have hpk : pkOf b = #[.string ⟨#[]⟩, .int .i64 0, .int .i64 0] := by unfold pkOf; rw [hr]; rfl
    rw [hr, hpk]
    clear hr hpk
    go_enter Tryz.func54, Tryz.ntmps54
    go_wp2
    refine bodyPost_ret (ret_pk (b := w.heap.size) (allocN w _) rfl) rfl ?_
    exact ⟨rfl, (by repeat (first | exact Below.refl _ _ | assumption | refine Below.drewN ?_ | refine Below.drew ?_ | refine Below.setCell ?_ (by first | exact Nat.le_refl _ | omega | (simp; done) | (simp; omega)) _ | refine Below.alloc ?_ (by first | exact Nat.le_refl _ | omega | (simp; done) | (simp; omega)) _))⟩
  · have hi : ¬ (b.size : Int) < 20 := by omega
    have h0 : 0 < b.size := by omega
    have hv : ver b = (b[0]'h0).toNat / 16 := dif_pos h0
    have hih : ihl b = (b[0]'h0).toNat % 16 * 4 := dif_pos h0
    have hx := (b[0]'h0).toNat_lt
    have han := and_15 _ hx
    have hx0 : ∀ W : World, (Instr.index 9 (.string b) (.int .i64 0)).run Tryz.prog W = .ok (.int .u8 ((b[0]'h0).toNat : Int)) W := fun W => by
      simp [go_sem, h0]
    generalize (b[0]'h0).toNat = x at *
    obtain ⟨rt, hrt⟩ : ∃ rt, rt = isRt b := ⟨_, rfl⟩
    obtain ⟨pc, hpc⟩ : ∃ pc, pc = pkOf b := ⟨_, rfl⟩
    have HPC : Hid (pc = if rt = true then #[.string b, .int .i64 (ihl b), .int .i64 (w16 b 2)] else #[.string ⟨#[]⟩, .int .i64 0, .int .i64 0]) := hide (by rw [hpc, hrt]; rfl)
    rw [← hrt, ← hpc]
    clear hpc
    by_cases h4 : x / 16 = 4
    · have h4i : (x : Int) / 16 = 4 := by omega
      have C2 : Hid (∀ W : World, Calls Tryz.prog 98 #[.agg #[.string b, .int .i64 (ihl b), .int .i64 0], .int .i64 2] W fun e w' => e = .returned (.int .i64 (w16 b 2)) ∧ Below W.heap.size W w') := hide fun W => pWord_any b (ihl b) 0 2 W (by omega) hs
      have hhalf : 2 * (ihl b / 2) = ihl b := by omega
      have CS := hide fun (W : World) (hle : ihl b ≤ b.size) => pSum_any b (ihl b / 2) (w16 b 2) W (by omega) hs
      rw [hhalf] at CS
      have hrt2 : rt = (decide (20 ≤ ihl b) && decide (ihl b ≤ w16 b 2) && decide (w16 b 2 ≤ b.size) && (hsum b (ihl b / 2) == 65535)) := by
        rw [hrt]
        unfold isRt
        rw [decide_eq_true (by omega : 20 ≤ b.size), hv, h4]
        rfl
      have HRT := hide hrt2
      have hw2 := w16_lt b 2
      have hsl := hsum_le b (ihl b / 2)
      have e2 : (x : Int) % 16 * 4 = ihl b := by rw [hih]; omega
      have HE2 := hide e2
      clear hrt hrt2 hih hv hx h4 hhalf e2
      go_enter Tryz.func54, Tryz.ntmps54
      go_wp2_with fail
      rw [HE2.out]
      clear HE2
      obtain ⟨W1, hW1⟩ : ∃ W1, W1 = (w.alloc (.cells #[.string ⟨#[]⟩, .int .i64 0, .int .i64 0] 63)).alloc (.cells #[.string b, .int .i64 (ihl b), .int .i64 0] 63) := ⟨_, rfl⟩
      have A0 : W1.heap[w.heap.size]? = some (.cells #[.string ⟨#[]⟩, .int .i64 0, .int .i64 0] 63 (0, 0)) := by rw [hW1]; exact (((Below.refl _ (w.alloc _)).alloc (Nat.le_refl _) _).block _ (by simp)).trans (allocN _ _)
      have A1 : W1.heap[w.heap.size + 1]? = some (.cells #[.string b, .int .i64 (ihl b), .int .i64 0] 63 (0, 0)) := by
        rw [hW1]
        have := allocN (w.alloc (.cells #[.string ⟨#[]⟩, .int .i64 0, .int .i64 0] 63)) (.cells #[.string b, .int .i64 (ihl b), .int .i64 0] 63)
        rwa [World.size_alloc] at this
      have hB1 : Below w.heap.size w W1 := by rw [hW1]; exact ((Below.refl _ w).alloc (Nat.le_refl _) _).alloc (by simp) _
      rw [← hW1]
      clear hW1
      refine (C2.out W1).mono ?_
      rintro e W2 ⟨rfl, hb2⟩
      have A02 := (hb2.block _ (lt_of_heap A0)).trans A0
      have A12 := (hb2.block _ (lt_of_heap A1)).trans A1
      have hB2 : Below w.heap.size w W2 := hB1.trans (hb2.mono hB1.size)
      have y2 : W2.cell? ⟨w.heap.size + 1, 2, none⟩ = some (.int .i64 0) := cellRow A12 rfl
      have y0 : W2.cell? ⟨w.heap.size + 1, 0, none⟩ = some (.string b) := cellRow A12 rfl
      have y1 : W2.cell? ⟨w.heap.size + 1, 1, none⟩ = some (.int .i64 (ihl b)) := cellRow A12 rfl
      have u0 : W2.cell? ⟨w.heap.size, 0, none⟩ = some (.string ⟨#[]⟩) := cellRow A02 rfl
      have u1 : W2.cell? ⟨w.heap.size, 1, none⟩ = some (.int .i64 0) := cellRow A02 rfl
      have u2 : W2.cell? ⟨w.heap.size, 2, none⟩ = some (.int .i64 0) := cellRow A02 rfl
      have uf : ∀ j, W2.frozen? ⟨w.heap.size, j, none⟩ = false := fun j => frzRow A02 j
      have yf : W2.frozen? ⟨w.heap.size + 1, 2, none⟩ = false := frzRow A12 2
      obtain ⟨W3, hW3⟩ : ∃ W3, W3 = W2.setCell ⟨w.heap.size + 1, 2, none⟩ (.int .i64 (w16 b 2)) := ⟨_, rfl⟩
      have A03 : W3.heap[w.heap.size]? = some (.cells #[.string ⟨#[]⟩, .int .i64 0, .int .i64 0] 63 (0, 0)) := by rw [hW3]; exact (heap_setCell_other _ _ _ _ (by show w.heap.size ≠ w.heap.size + 1; omega)).trans A02
      have A13 : W3.heap[w.heap.size + 1]? = some (.cells #[.string b, .int .i64 (ihl b), .int .i64 (w16 b 2)] 63 (0, 0)) := by rw [hW3]; exact (heap_setCell_same _ _ 2 _ _ _ A12).trans (by simp)
      have HB3 : Hid (Below w.heap.size w W3) := hide (by rw [hW3]; exact hB2.setCell (by simp) _)
      have HW3 := hide hW3
      have d0 : W3.cell? ⟨w.heap.size + 1, 0, none⟩ = some (.string b) := cellRow A13 rfl
      have d1 : W3.cell? ⟨w.heap.size + 1, 1, none⟩ = some (.int .i64 (ihl b)) := cellRow A13 rfl
      have d2 : W3.cell? ⟨w.heap.size + 1, 2, none⟩ = some (.int .i64 (w16 b 2)) := cellRow A13 rfl
      clear hW3 A02 A12 hb2 hB1 hB2 A0 A1 C2
      by_cases a1 : ihl b < 20
      · have a1i : (ihl b : Int) < 20 := by omega
        have HF : Hid (rt = false) := hide (by rw [HRT.out, decide_eq_false (by omega)]; rfl)
        clear HRT CS a1
        have z0 : W3.cell? ⟨w.heap.size, 0, none⟩ = some (.string ⟨#[]⟩) := cellRow A03 rfl
        have z1 : W3.cell? ⟨w.heap.size, 1, none⟩ = some (.int .i64 0) := cellRow A03 rfl
        have z2 : W3.cell? ⟨w.heap.size, 2, none⟩ = some (.int .i64 0) := cellRow A03 rfl
        have zf : ∀ j, W3.frozen? ⟨w.heap.size, j, none⟩ = false := fun j => frzRow A03 j
        have HZ := hide (row3_set (v0 := .string ⟨#[]⟩) (v1 := .int .i64 0) (v2 := .int .i64 0) A03)
        clear A03
        go_wp2
        rw [← HW3.out]
        refine bodyPost_ret (ret_pk HZ.out rfl) rfl ?_
        exact ⟨by rw [HPC.out, HF.out]; rfl, ((HB3.out.setCell (Nat.le_refl _) _).setCell (Nat.le_refl _) _).setCell (Nat.le_refl _) _⟩
      · have a1i : ¬ (ihl b : Int) < 20 := by omega
        by_cases a2 : w16 b 2 < ihl b
        · have a2i : (w16 b 2 : Int) < ihl b := by omega
          have HF : Hid (rt = false) := hide (by rw [HRT.out, decide_eq_false (by omega : ¬ ihl b ≤ w16 b 2)]; simp)
          clear HRT CS a1 a2
          have z0 : W3.cell? ⟨w.heap.size, 0, none⟩ = some (.string ⟨#[]⟩) := cellRow A03 rfl
          have z1 : W3.cell? ⟨w.heap.size, 1, none⟩ = some (.int .i64 0) := cellRow A03 rfl
          have z2 : W3.cell? ⟨w.heap.size, 2, none⟩ = some (.int .i64 0) := cellRow A03 rfl
          have zf : ∀ j, W3.frozen? ⟨w.heap.size, j, none⟩ = false := fun j => frzRow A03 j
          have HZ := hide (row3_set (v0 := .string ⟨#[]⟩) (v1 := .int .i64 0) (v2 := .int .i64 0) A03)
          clear A03
          go_wp2
          rw [← HW3.out]
          refine bodyPost_ret (ret_pk HZ.out rfl) rfl ?_
          exact ⟨by rw [HPC.out, HF.out]; rfl, ((HB3.out.setCell (Nat.le_refl _) _).setCell (Nat.le_refl _) _).setCell (Nat.le_refl _) _⟩
        · have a2i : ¬ (w16 b 2 : Int) < ihl b := by omega
          by_cases a3 : b.size < w16 b 2
          · have a3i : (b.size : Int) < w16 b 2 := by omega
            have HF : Hid (rt = false) := hide (by rw [HRT.out, decide_eq_false (by omega : ¬ w16 b 2 ≤ b.size)]; simp)
            clear HRT CS a1 a2 a3
            have z0 : W3.cell? ⟨w.heap.size, 0, none⟩ = some (.string ⟨#[]⟩) := cellRow A03 rfl
            have z1 : W3.cell? ⟨w.heap.size, 1, none⟩ = some (.int .i64 0) := cellRow A03 rfl
            have z2 : W3.cell? ⟨w.heap.size, 2, none⟩ = some (.int .i64 0) := cellRow A03 rfl
            have zf : ∀ j, W3.frozen? ⟨w.heap.size, j, none⟩ = false := fun j => frzRow A03 j
            have HZ := hide (row3_set (v0 := .string ⟨#[]⟩) (v1 := .int .i64 0) (v2 := .int .i64 0) A03)
            clear A03
            go_wp2
            rw [← HW3.out]
            refine bodyPost_ret (ret_pk HZ.out rfl) rfl ?_
            exact ⟨by rw [HPC.out, HF.out]; rfl, ((HB3.out.setCell (Nat.le_refl _) _).setCell (Nat.le_refl _) _).setCell (Nat.le_refl _) _⟩
          · have a3i : ¬ (b.size : Int) < w16 b 2 := by omega
            have CS3 := hide (CS.out W3 (by omega))
            have HRT3 : Hid (rt = (hsum b (ihl b / 2) == 65535)) := hide (by rw [HRT.out, decide_eq_true (by omega : 20 ≤ ihl b), decide_eq_true (by omega : ihl b ≤ w16 b 2), decide_eq_true (by omega : w16 b 2 ≤ b.size)]; rfl)
            clear HRT CS a1 a2 a3
            go_wp2_with fail
            rw [← HW3.out]
            refine CS3.out.mono ?_
            rintro e W4 ⟨rfl, hb4⟩
            have A04 := (hb4.block _ (lt_of_heap A03)).trans A03
            have A14 := (hb4.block _ (lt_of_heap A13)).trans A13
            have HB4 : Hid (Below w.heap.size w W4) := hide (HB3.out.trans (hb4.mono HB3.out.size))
            clear A03 A13 d0 d1 d2 hb4 CS3 HB3 HW3 yf y2 y0 y1 u0 u1 u2 uf
            by_cases hz : hsum b (ihl b / 2) = 65535
            · have hzi : (hsum b (ihl b / 2) : Int) = 65535 := by omega
              have HF : Hid (rt = true) := hide (by rw [HRT3.out, hz]; rfl)
              have z0 : W4.cell? ⟨w.heap.size, 0, none⟩ = some (.string ⟨#[]⟩) := cellRow A04 rfl
              have z1 : W4.cell? ⟨w.heap.size, 1, none⟩ = some (.int .i64 0) := cellRow A04 rfl
              have z2 : W4.cell? ⟨w.heap.size, 2, none⟩ = some (.int .i64 0) := cellRow A04 rfl
              have zf : ∀ j, W4.frozen? ⟨w.heap.size, j, none⟩ = false := fun j => frzRow A04 j
              have d0 : W4.cell? ⟨w.heap.size + 1, 0, none⟩ = some (.string b) := cellRow A14 rfl
              have d1 : W4.cell? ⟨w.heap.size + 1, 1, none⟩ = some (.int .i64 (ihl b)) := cellRow A14 rfl
              have d2 : W4.cell? ⟨w.heap.size + 1, 2, none⟩ = some (.int .i64 (w16 b 2)) := cellRow A14 rfl
              have HZ := hide (row3_set (v0 := .string b) (v1 := .int .i64 (ihl b)) (v2 := .int .i64 (w16 b 2)) A04)
              generalize hsum b (ihl b / 2) = sm at *
              clear A04 A14 HRT3 hz
              go_wp2
              refine bodyPost_ret (ret_pk HZ.out rfl) rfl ?_
              exact ⟨by rw [HPC.out, HF.out]; rfl, ((HB4.out.setCell (Nat.le_refl _) _).setCell (Nat.le_refl _) _).setCell (Nat.le_refl _) _⟩
            · have hzi : ¬ (hsum b (ihl b / 2) : Int) = 65535 := by omega
              have HF : Hid (rt = false) := hide (by rw [HRT3.out]; simpa using hz)
              generalize hsum b (ihl b / 2) = sm at *
              clear A14 HRT3 hz
              have z0 : W4.cell? ⟨w.heap.size, 0, none⟩ = some (.string ⟨#[]⟩) := cellRow A04 rfl
              have z1 : W4.cell? ⟨w.heap.size, 1, none⟩ = some (.int .i64 0) := cellRow A04 rfl
              have z2 : W4.cell? ⟨w.heap.size, 2, none⟩ = some (.int .i64 0) := cellRow A04 rfl
              have zf : ∀ j, W4.frozen? ⟨w.heap.size, j, none⟩ = false := fun j => frzRow A04 j
              have HZ := hide (row3_set (v0 := .string ⟨#[]⟩) (v1 := .int .i64 0) (v2 := .int .i64 0) A04)
              clear A04
              go_wp2
              skip
              refine bodyPost_ret (ret_pk HZ.out rfl) rfl ?_
              exact ⟨by rw [HPC.out, HF.out]; rfl, ((HB4.out.setCell (Nat.le_refl _) _).setCell (Nat.le_refl _) _).setCell (Nat.le_refl _) _⟩
    · have h4i : ¬ (x : Int) / 16 = 4 := by omega
      have HF : Hid (rt = false) := hide (by
        rw [hrt]
        unfold isRt
        have : (ver b == 4) = false := by rw [hv]; simpa using h4
        rw [this]
        simp)
      clear hrt hih hv hx h4 han
      go_enter Tryz.func54, Tryz.ntmps54
      go_wp2
      refine bodyPost_ret (ret_pk (b := w.heap.size) (allocN w _) rfl) rfl ?_
      exact ⟨by rw [HPC.out, HF.out]; rfl, (by repeat (first | exact Below.refl _ _ | assumption | refine Below.drewN ?_ | refine Below.drew ?_ | refine Below.setCell ?_ (by first | exact Nat.le_refl _ | omega | (simp; done) | (simp; omega)) _ | refine Below.alloc ?_ (by first | exact Nat.le_refl _ | omega | (simp; done) | (simp; omega)) _))⟩
end Go.Proofs.YtaejpejfmpbinaaGreatDoor

namespace Go.Proofs.YtaejpejfmpbinaaGreatDoor
open Go.RowKit
open Go.Sort (grow)
attribute [local go_sem] cell?_regrown

/-- The number of four bytes at a place. -/
def a32 (b : ByteArray) (i : Nat) : Nat := w16 b i * 65536 + w16 b (i + 2)
theorem a32_lt (b : ByteArray) (i : Nat) : a32 b i < 4294967296 := by
  have h1 := w16_lt b i
  have h2 := w16_lt b (i + 2)
  unfold a32
  omega
theorem or_words (x y : Nat) (hx : x < 65536) (hy : y < 65536) : bits BinOp.or IntKind.i64 (IntKind.i64.wrap ((x : Int) * 65536)) y = ((x * 65536 + y : Nat) : Int) := by
  have e0 : IntKind.i64.wrap ((x : Int) * 65536) = (x : Int) * 65536 := by rw [IntKind.wrap_i64]; omega
  have e : (x : Int) * 65536 = ((x * 65536 : Nat) : Int) := by omega
  rw [e0, e, i64_or_nat _ _ (by omega) (by omega)]
  congr 1
  have := Nat.shiftLeft_add_eq_or_of_lt (i := 16) (b := y) (by omega) x
  rw [Nat.shiftLeft_eq] at this
  exact this.symm

set_option maxRecDepth 100000 in
set_option maxHeartbeats 1000000 in
theorem pAddress_any (b : ByteArray) (hd tt : Int) (i : Nat) (w : World) (h : i + 3 < b.size) (hs : b.size ≤ 1000) :
    Calls Tryz.prog 103 #[.agg #[.string b, .int .i64 hd, .int .i64 tt], .int .i64 i] w fun e w' => e = .returned (.int .i64 (a32 b i)) ∧ Below w.heap.size w w' := by
  have e2 : IntKind.i64.wrap ((i : Int) + 2) = ((i + 2 : Nat) : Int) := by rw [IntKind.wrap_i64]; omega
  have HO : Hid (bits BinOp.or IntKind.i64 (IntKind.i64.wrap ((w16 b i : Int) * 65536)) (w16 b (i + 2)) = ((a32 b i : Nat) : Int)) := hide (or_words _ _ (w16_lt b i) (w16_lt b (i + 2)))
  go_enter Tryz.func103, Tryz.ntmps103
  go_wp2
  obtain ⟨W0, hW0⟩ : ∃ W0, W0 = w.alloc (.cells #[.string b, .int .i64 hd, .int .i64 tt] 63) := ⟨_, rfl⟩
  have c0 : W0.cell? ⟨w.heap.size, 0, none⟩ = some (.string b) := by rw [hW0]; exact cellRow (allocN _ _) rfl
  have c1 : W0.cell? ⟨w.heap.size, 1, none⟩ = some (.int .i64 hd) := by rw [hW0]; exact cellRow (allocN _ _) rfl
  have c2 : W0.cell? ⟨w.heap.size, 2, none⟩ = some (.int .i64 tt) := by rw [hW0]; exact cellRow (allocN _ _) rfl
  have hlt : w.heap.size < W0.heap.size := by rw [hW0]; simp
  have HB : Hid (Below w.heap.size w W0) := hide (by rw [hW0]; exact (Below.refl _ w).alloc (Nat.le_refl _) _)
  have C1 := hide fun (d : Nat) (os : Array Obj) => pWord_any b hd tt i (grow (redrawn W0 d) os) (by omega) hs
  have C2 := hide fun (d : Nat) (os : Array Obj) => pWord_any b hd tt (i + 2) (grow (redrawn W0 d) os) (by omega) hs
  rw [← e2] at C2
  rw [← hW0]
  generalize w16 b i = x at *
  generalize w16 b (i + 2) = y at *
  clear hW0 e2 h
  refine wp_region_quiet_below (by kernel_rfl) (by kernel_rfl) ?_
  repeat (first | go_big_quiet_skip | quiet_step (fail))
  quiet_step (exact Calls.regrown_of (C1.out _ _))
  repeat (first | go_big_quiet_skip | quiet_step (fail))
  quiet_step (exact Calls.regrown_of (C2.out _ _))
  repeat (first | go_big_quiet_skip | quiet_step (fail))
  refine wpQuiet_nil ?_; intro wq hwq; replace hwq := below_of_regrown hwq; obtain ⟨hcq, hfq⟩ := bcell hwq; have hzq := hwq.size
  have HQ := hide hwq
  clear hcq hfq hwq
  go_wp2
  go_ret
  exact ⟨retInt (by rw [HO.out]), HB.out.trans (HQ.out.mono (Nat.le_of_lt hlt))⟩

set_option maxRecDepth 100000 in
theorem pDest_any (b : ByteArray) (hd tt : Int) (w : World) (h : 20 ≤ b.size) (hs : b.size ≤ 1000) :
    Calls Tryz.prog 61 #[.agg #[.string b, .int .i64 hd, .int .i64 tt]] w fun e w' => e = .returned (.int .i64 (a32 b 16)) ∧ Below w.heap.size w w' := by
  have C : Hid (∀ W : World, Calls Tryz.prog 103 #[.agg #[.string b, .int .i64 hd, .int .i64 tt], .int .i64 16] W fun e w' => e = .returned (.int .i64 (a32 b 16)) ∧ Below W.heap.size W w') := hide fun W => pAddress_any b hd tt 16 W (by omega) hs
  go_enter Tryz.func61, Tryz.ntmps61
  go_wp2_with fail
  refine (C.out _).mono ?_
  rintro e W1 ⟨rfl, hb⟩
  go_wp2
  go_ret
  exact ⟨rfl, ((Below.refl _ w).alloc (Nat.le_refl _) _).trans (hb.mono (by simp))⟩

/-- A byte at a place. -/
def b8 (b : ByteArray) (i : Nat) : Nat := if h : i < b.size then (b[i]'h).toNat else 0
theorem b8_lt (b : ByteArray) (i : Nat) : b8 b i < 256 := by
  unfold b8
  split
  · rename_i h
    exact (b[i]'h).toNat_lt
  · omega
theorem index_b8 (b : ByteArray) (i : Nat) (h : i < b.size) (W : World) : (Instr.index 9 (.string b) (.int .i64 (i : Int))).run Tryz.prog W = .ok (.int .u8 (b8 b i : Int)) W := by
  have i0 : (i : Int) < b.size := by omega
  have e : b8 b i = (b[i]'h).toNat := dif_pos h
  rw [e]
  simp [go_sem, i0]
set_option maxRecDepth 100000 in
theorem pTTL_any (b : ByteArray) (hd tt : Int) (w : World) (h : 20 ≤ b.size) :
    Calls Tryz.prog 59 #[.agg #[.string b, .int .i64 hd, .int .i64 tt]] w fun e w' => e = .returned (.int .i64 (b8 b 8)) ∧ Below w.heap.size w w' := by
  have hx : ∀ W : World, (Instr.index 9 (.string b) (.int .i64 8)).run Tryz.prog W = .ok (.int .u8 (b8 b 8 : Int)) W := fun W => index_b8 b 8 (by omega) W
  have hl := b8_lt b 8
  generalize b8 b 8 = x at *
  go_enter Tryz.func59, Tryz.ntmps59
  go_wp2
  go_ret
  exact ⟨rfl, (Below.refl _ w).alloc (Nat.le_refl _) _⟩

/-- Whether ports stand behind the header. -/
def hasPt (b : ByteArray) : Bool := (b8 b 9 == 6 || b8 b 9 == 17) && (w16 b 6 % 8192 == 0) && decide (ihl b + 4 ≤ w16 b 2)
theorem and_13 (n : Nat) (h : n < 65536) : bits BinOp.and IntKind.i64 (n : Int) 8191 = ((n % 8192 : Nat) : Int) := by
  have := i64_and_nat n 8191 (by omega) (by omega)
  rw [show ((8191 : Nat) : Int) = 8191 from rfl] at this
  rw [this]
  congr 1
  exact Nat.and_two_pow_sub_one_eq_mod n 13
set_option maxRecDepth 100000 in
set_option maxHeartbeats 1000000 in
theorem pHasPorts_any (b : ByteArray) (w : World) (h : 20 ≤ b.size) (hs : b.size ≤ 1000) :
    Calls Tryz.prog 104 #[.agg #[.string b, .int .i64 (ihl b), .int .i64 (w16 b 2)]] w fun e w' => e = .returned (.bool (hasPt b)) ∧ Below w.heap.size w w' := by
  have hx : ∀ W : World, (Instr.index 9 (.string b) (.int .i64 9)).run Tryz.prog W = .ok (.int .u8 (b8 b 9 : Int)) W := fun W => index_b8 b 9 (by omega) W
  have hl := b8_lt b 9
  have han := and_13 _ (w16_lt b 6)
  have hi := ihl_le b
  have hw := w16_lt b 2
  obtain ⟨hp, hhp⟩ : ∃ hp, hp = hasPt b := ⟨_, rfl⟩
  rw [← hhp]
  have HP := hide hhp
  have HAN := hide han
  clear hhp han
  go_enter Tryz.func104, Tryz.ntmps104
  go_wp2
  obtain ⟨W0, hW0⟩ : ∃ W0, W0 = w.alloc (.cells #[.string b, .int .i64 (ihl b), .int .i64 (w16 b 2)] 63) := ⟨_, rfl⟩
  have c0 : W0.cell? ⟨w.heap.size, 0, none⟩ = some (.string b) := by rw [hW0]; exact cellRow (allocN _ _) rfl
  have c1 : W0.cell? ⟨w.heap.size, 1, none⟩ = some (.int .i64 (ihl b)) := by rw [hW0]; exact cellRow (allocN _ _) rfl
  have c2 : W0.cell? ⟨w.heap.size, 2, none⟩ = some (.int .i64 (w16 b 2)) := by rw [hW0]; exact cellRow (allocN _ _) rfl
  have hlt : w.heap.size < W0.heap.size := by rw [hW0]; simp
  have HB : Hid (Below w.heap.size w W0) := hide (by rw [hW0]; exact (Below.refl _ w).alloc (Nat.le_refl _) _)
  have C1 : Hid (∀ (d : Nat) (os : Array Obj), Calls Tryz.prog 98 #[.agg #[.string b, .int .i64 (ihl b), .int .i64 (w16 b 2)], .int .i64 6] (grow (redrawn W0 d) os) fun e w' => e = .returned (.int .i64 (w16 b 6)) ∧ Below (grow (redrawn W0 d) os).heap.size (grow (redrawn W0 d) os) w') := hide fun d os => pWord_any b (ihl b) (w16 b 2) 6 (grow (redrawn W0 d) os) (by omega) hs
  rw [← hW0]
  clear hW0
  refine wp_region_quiet_below (by kernel_rfl) (by kernel_rfl) ?_
  repeat (first | go_big_quiet_skip | quiet_step (exact Calls.regrown_of (C1.out _ _)))
  refine wpQuiet_nil ?_; intro wq hwq; replace hwq := below_of_regrown hwq; obtain ⟨hcq, hfq⟩ := bcell hwq; have hzq := hwq.size
  have q1 := cell_later hwq c1
  have q2 := cell_later hwq c2
  have HQ : Hid (Below w.heap.size w wq) := hide (HB.out.trans (hwq.mono (Nat.le_of_lt hlt)))
  clear hcq hfq hwq c0 c1 c2 C1 hx
  have HPX : Hid (hp = ((b8 b 9 == 6 || b8 b 9 == 17) && (w16 b 6 % 8192 == 0) && decide (ihl b + 4 ≤ w16 b 2))) := HP
  rw [HAN.out]
  clear HAN HP HB
  generalize b8 b 9 = pr at *
  generalize w16 b 6 = fr at *
  generalize ihl b = ih at *
  generalize w16 b 2 = tt at *
  obtain ⟨off, hoff⟩ : ∃ off, off = fr % 8192 := ⟨_, rfl⟩
  rw [← hoff] at HPX ⊢
  clear hoff
  have fin : ∀ b1 b2 b3 : Bool, (pr == 6 || pr == 17) = b1 → (off == 0) = b2 → decide (ih + 4 ≤ tt) = b3 → hp = (b1 && b2 && b3) := fun b1 b2 b3 e1 e2 e3 => by rw [HPX.out, e1, e2, e3]
  clear HPX
  by_cases e1 : pr = 6
  · have i1 : (pr : Int) = 6 := by omega
    by_cases e2 : off = 0
    · have i2 : (off : Int) = 0 := by omega
      by_cases e3 : ih + 4 ≤ tt
      · have i3 : (ih : Int) + 4 ≤ tt := by omega
        obtain rfl := fin true true true (by simp [e1]) (by simp [e2]) (by simp [e3])
        clear fin e1 e2 e3
        go_wp2
        go_ret
        exact ⟨rfl, HQ.out⟩
      · have i3 : ¬ (ih : Int) + 4 ≤ tt := by omega
        obtain rfl := fin true true false (by simp [e1]) (by simp [e2]) (by simp [e3])
        clear fin e1 e2 e3
        go_wp2
        go_ret
        exact ⟨rfl, HQ.out⟩
    · have i2 : ¬ (off : Int) = 0 := by omega
      obtain rfl := fin true false (decide (ih + 4 ≤ tt)) (by simp [e1]) (by simp [e2]) rfl
      clear fin e1 e2
      go_wp2
      go_ret
      exact ⟨rfl, HQ.out⟩
  · have i1 : ¬ (pr : Int) = 6 := by omega
    by_cases e4 : pr = 17
    · have i4 : (pr : Int) = 17 := by omega
      by_cases e2 : off = 0
      · have i2 : (off : Int) = 0 := by omega
        by_cases e3 : ih + 4 ≤ tt
        · have i3 : (ih : Int) + 4 ≤ tt := by omega
          obtain rfl := fin true true true (by simp [e4]) (by simp [e2]) (by simp [e3])
          clear fin e1 e2 e3 e4
          go_wp2
          go_ret
          exact ⟨rfl, HQ.out⟩
        · have i3 : ¬ (ih : Int) + 4 ≤ tt := by omega
          obtain rfl := fin true true false (by simp [e4]) (by simp [e2]) (by simp [e3])
          clear fin e1 e2 e3 e4
          go_wp2
          go_ret
          exact ⟨rfl, HQ.out⟩
      · have i2 : ¬ (off : Int) = 0 := by omega
        obtain rfl := fin true false (decide (ih + 4 ≤ tt)) (by simp [e4]) (by simp [e2]) rfl
        clear fin e1 e2 e4
        go_wp2
        go_ret
        exact ⟨rfl, HQ.out⟩
    · have i4 : ¬ (pr : Int) = 17 := by omega
      obtain rfl := fin false (off == 0) (decide (ih + 4 ≤ tt)) (by simp [e1, e4]) rfl rfl
      clear fin e1 e4
      go_wp2
      go_ret
      exact ⟨rfl, HQ.out⟩
end Go.Proofs.YtaejpejfmpbinaaGreatDoor

namespace Go.Proofs.YtaejpejfmpbinaaGreatDoor
open Go.RowKit
open Go.Sort (grow)

theorem results_cell1 {fn : Func} {p : Tmp} {ty : TypeId} (h : fn.results = #[.cell p ty]) (tmps : Array Value) (P : Program) (w : World) :
    (results fn tmps).run P w = ((asAddr (tmps.getD p undef)).run P w).andThen fun a w₁ => (loadVar ty a).run P w₁ := by
  simp only [results, h]
  simp [Sem.run_bind]
theorem ret_key {tmps : Array Value} {W : World} {b : Nat} {x0 x1 x2 x3 x4 : Value} (hb : W.heap[b]? = some (.cells #[x0, x1, x2, x3, x4] 110 (0, 0))) (hp : tmps.getD 2 undef = .pointer (some ⟨b, 0, none⟩)) :
    (results Tryz.f56 tmps).run Tryz.prog W = .ok (.agg #[x0, x1, x2, x3, x4]) W := by
  rw [results_cell1 (fn := Tryz.f56) (p := 2) (ty := 110) rfl, hp]
  have hi : (Tryz.prog.info? 110).map (·.size) = some (#[x0, x1, x2, x3, x4] : Array Value).size := by kernel_rfl
  simp [asAddr, run_loadVar_row W b 110 110 #[x0, x1, x2, x3, x4] (0, 0) _ hb Tryz.underlying110 rfl hi, Result.andThen]

theorem row5_set {W : World} {b : Nat} {t : TypeId} {x0 x1 x2 x3 x4 v0 v1 v2 v3 v4 : Value} (h : W.heap[b]? = some (.cells #[x0, x1, x2, x3, x4] t (0, 0))) :
    (((((W.setCell ⟨b, 0, none⟩ v0).setCell ⟨b, 1, none⟩ v1).setCell ⟨b, 2, none⟩ v2).setCell ⟨b, 3, none⟩ v3).setCell ⟨b, 4, none⟩ v4).heap[b]? = some (.cells #[v0, v1, v2, v3, v4] t (0, 0)) := by
  have h0 := heap_setCell_same W b 0 _ _ v0 h
  have h1 := heap_setCell_same _ b 1 _ _ v1 h0
  have h2 := heap_setCell_same _ b 2 _ _ v2 h1
  have h3 := heap_setCell_same _ b 3 _ _ v3 h2
  have h4 := heap_setCell_same _ b 4 _ _ v4 h3
  simpa using h4
theorem row5_low {W w : World} {b B : Nat} {v0 v1 v2 v3 v4 : Value} (h : Below B w W) (hB : B ≤ b) :
    Below B w (((((W.setCell ⟨b, 0, none⟩ v0).setCell ⟨b, 1, none⟩ v1).setCell ⟨b, 2, none⟩ v2).setCell ⟨b, 3, none⟩ v3).setCell ⟨b, 4, none⟩ v4) :=
  ((((h.setCell hB _).setCell hB _).setCell hB _).setCell hB _).setCell hB _
theorem row5_ex {W w : World} {b B : Nat} {t : TypeId} {x0 x1 x2 x3 x4 : Value} (v0 v1 v2 v3 v4 : Value) (h : W.heap[b]? = some (.cells #[x0, x1, x2, x3, x4] t (0, 0))) (hw : Below B w W) (hB : B ≤ b) :
    ∃ W2, W2 = (((((W.setCell ⟨b, 0, none⟩ v0).setCell ⟨b, 1, none⟩ v1).setCell ⟨b, 2, none⟩ v2).setCell ⟨b, 3, none⟩ v3).setCell ⟨b, 4, none⟩ v4) ∧ W2.heap[b]? = some (.cells #[v0, v1, v2, v3, v4] t (0, 0)) ∧ Below B w W2 ∧ B ≤ b := ⟨_, rfl, row5_set h, row5_low hw hB, hB⟩
theorem row5_new {W w : World} {B : Nat} (cs : Array Value) (t : TypeId) (hw : Below B w W) (hB : B ≤ W.heap.size) :
    ∃ W2, W2 = W.alloc (.cells cs t) ∧ W2.heap[W.heap.size]? = some (.cells cs t (0, 0)) ∧ Below B w W2 ∧ B ≤ W.heap.size := ⟨_, rfl, allocN W _, hw.alloc hB _, hB⟩
/-- A packet's ports. -/
def pt0 (b : ByteArray) : Nat := if hasPt b then w16 b (ihl b) else 0
def pt1 (b : ByteArray) : Nat := if hasPt b then w16 b (ihl b + 2) else 0
set_option maxRecDepth 100000 in
set_option maxHeartbeats 2000000 in
theorem pKey_any (b : ByteArray) (w : World) (h : 20 ≤ b.size) (hs : b.size ≤ 1000) (ht : w16 b 2 ≤ b.size) :
    Calls Tryz.prog 56 #[.agg #[.string b, .int .i64 (ihl b), .int .i64 (w16 b 2)]] w fun e w' => e = .returned (.agg #[.int .i64 (a32 b 12), .int .i64 (a32 b 16), .int .i64 (b8 b 9), .int .i64 (pt0 b), .int .i64 (pt1 b)]) ∧ Below w.heap.size w w' := by
  have hx : ∀ W : World, (Instr.index 9 (.string b) (.int .i64 9)).run Tryz.prog W = .ok (.int .u8 (b8 b 9 : Int)) W := fun W => index_b8 b 9 (by omega) W
  have hl := b8_lt b 9
  have CA : Hid (∀ W : World, Calls Tryz.prog 103 #[.agg #[.string b, .int .i64 (ihl b), .int .i64 (w16 b 2)], .int .i64 12] W fun e w' => e = .returned (.int .i64 (a32 b 12)) ∧ Below W.heap.size W w') := hide fun W => pAddress_any b _ _ 12 W (by omega) hs
  have CD := hide fun (W : World) => pDest_any b (ihl b) (w16 b 2) W h hs
  have CH := hide fun (W : World) => pHasPorts_any b W h hs
  go_enter Tryz.func56, Tryz.ntmps56
  go_wp2_with fail
  obtain ⟨W0, hW0⟩ : ∃ W0, W0 = (w.alloc (.cells #[.string b, .int .i64 (ihl b), .int .i64 (w16 b 2)] 63)).alloc (.cells #[.int .i64 0, .int .i64 0, .int .i64 0, .int .i64 0, .int .i64 0] 110) := ⟨_, rfl⟩
  have A0 : W0.heap[w.heap.size]? = some (.cells #[.string b, .int .i64 (ihl b), .int .i64 (w16 b 2)] 63 (0, 0)) := by rw [hW0]; exact (((Below.refl _ (w.alloc _)).alloc (Nat.le_refl _) _).block _ (by simp)).trans (allocN _ _)
  have A1 : W0.heap[w.heap.size + 1]? = some (.cells #[.int .i64 0, .int .i64 0, .int .i64 0, .int .i64 0, .int .i64 0] 110 (0, 0)) := by
    rw [hW0]
    have := allocN (w.alloc (.cells #[.string b, .int .i64 (ihl b), .int .i64 (w16 b 2)] 63)) (.cells #[.int .i64 0, .int .i64 0, .int .i64 0, .int .i64 0, .int .i64 0] 110)
    rwa [World.size_alloc] at this
  have HB0 : Hid (Below w.heap.size w W0) := hide (by rw [hW0]; exact ((Below.refl _ w).alloc (Nat.le_refl _) _).alloc (by simp) _)
  have hs0 : W0.heap.size = w.heap.size + 2 := by rw [hW0]; simp
  rw [← hW0]
  have c0 : W0.cell? ⟨w.heap.size, 0, none⟩ = some (.string b) := cellRow A0 rfl
  have c1 : W0.cell? ⟨w.heap.size, 1, none⟩ = some (.int .i64 (ihl b)) := cellRow A0 rfl
  have c2 : W0.cell? ⟨w.heap.size, 2, none⟩ = some (.int .i64 (w16 b 2)) := cellRow A0 rfl
  have n1 : ¬ w.heap.size = W0.heap.size := by omega
  have n2 : ¬ W0.heap.size = w.heap.size := by omega
  have hww : w.heap.size < W0.heap.size := by omega
  have hwx : w.heap.size ≤ W0.heap.size := by omega
  have HS0 := hide hs0
  clear hW0 hs0
  generalize hx0 : a32 b 12 = x0 at *
  generalize hx1 : a32 b 16 = x1 at *
  generalize hx2' : b8 b 9 = x2 at *
  have HX0 := hide hx0
  have HX1 := hide hx1
  have HX2 := hide hx2'
  clear hx0 hx1 hx2'
  rename_i Kc hKc
  have REST : ∀ (kb : Nat) (W2 : World), W2.heap[kb]? = some (.cells #[.int .i64 x0, .int .i64 x1, .int .i64 x2, .int .i64 0, .int .i64 0] 110 (0, 0)) → Below W0.heap.size W0 W2 → W0.heap.size ≤ kb → Kc { tmps := #[.agg #[.string b, .int .i64 (ihl b), .int .i64 (w16 b 2)], .pointer (some ⟨w.heap.size, 0, none⟩), .pointer (some ⟨w.heap.size + 1, 0, none⟩), .pointer (some ⟨kb, 0, none⟩), .agg #[.string b, .int .i64 (ihl b), .int .i64 (w16 b 2)], .int .i64 x0, .agg #[.string b, .int .i64 (ihl b), .int .i64 (w16 b 2)], .int .i64 x1, .pointer (some ⟨w.heap.size, 0, none⟩), .string b, .int .u8 x2, .int .i64 x2, .agg #[.int .i64 x0, .int .i64 x1, .int .i64 x2, .int .i64 0, .int .i64 0], undef, undef, undef, undef, undef, undef, undef, undef, undef, undef, undef, undef, undef, undef], defers := [] } W2 := by
    intro kb W2 KB LB LK
    have R0 := (LB.block _ (lt_of_heap A0)).trans A0
    have R1 := (LB.block _ (lt_of_heap A1)).trans A1
    have BL : Below w.heap.size w W2 := HB0.out.trans (LB.mono hwx)
    have hkb : w.heap.size + 1 < kb := by have := HS0.out; omega
    refine hKc _ _ ?_
    have p0 : W2.cell? ⟨w.heap.size, 0, none⟩ = some (.string b) := cellRow R0 rfl
    have p1 : W2.cell? ⟨w.heap.size, 1, none⟩ = some (.int .i64 (ihl b)) := cellRow R0 rfl
    have p2 : W2.cell? ⟨w.heap.size, 2, none⟩ = some (.int .i64 (w16 b 2)) := cellRow R0 rfl
    clear CA CD LB c0 c1 c2 A0 A1 HB0
    go_wp2_with fail
    refine (CH.out _).mono ?_
    rintro e W3 ⟨rfl, hb3⟩
    have KB3 := (hb3.block _ (lt_of_heap KB)).trans KB
    have R03 := (hb3.block _ (lt_of_heap R0)).trans R0
    have R13 := (hb3.block _ (lt_of_heap R1)).trans R1
    have BL3 : Below w.heap.size w W3 := BL.trans (hb3.mono BL.size)
    clear hb3 KB R0 R1 BL p0 p1 p2 CH
    cases hpt : hasPt b with
    | false =>
      have HE0 : Hid (pt0 b = 0) := hide (by unfold pt0; rw [hpt]; rfl)
      have HE1 : Hid (pt1 b = 0) := hide (by unfold pt1; rw [hpt]; rfl)
      clear hpt R03
      have k0 := cellRow (j := 0) KB3 rfl
      have k1 := cellRow (j := 1) KB3 rfl
      have k2 := cellRow (j := 2) KB3 rfl
      have k3 := cellRow (j := 3) KB3 rfl
      have k4 := cellRow (j := 4) KB3 rfl
      have t0 := cellRow (j := 0) R13 rfl
      have t1 := cellRow (j := 1) R13 rfl
      have t2 := cellRow (j := 2) R13 rfl
      have t3 := cellRow (j := 3) R13 rfl
      have t4 := cellRow (j := 4) R13 rfl
      have tf := fun j => frzRow R13 j
      have HZ := hide (row5_ex (.int .i64 x0) (.int .i64 x1) (.int .i64 x2) (.int .i64 0) (.int .i64 0) R13 BL3 (by omega))
      clear KB3 R13 BL3
      go_wp2
      obtain ⟨W9, hW9, Z1, Z2, _⟩ := HZ.out
      rw [← hW9]
      refine bodyPost_ret (ret_key Z1 rfl) rfl ?_
      exact ⟨by rw [HX0.out, HX1.out, HX2.out, HE0.out, HE1.out]; rfl, Z2⟩
    | true =>
      have HE0 : Hid (pt0 b = w16 b (ihl b)) := hide (by unfold pt0; rw [hpt]; rfl)
      have HE1 : Hid (pt1 b = w16 b (ihl b + 2)) := hide (by unfold pt1; rw [hpt]; rfl)
      have hih := ihl_le b
      have hle : ihl b + 4 ≤ b.size := by
        unfold hasPt at hpt
        simp only [Bool.and_eq_true, decide_eq_true_eq] at hpt
        omega
      have e2 : IntKind.i64.wrap ((ihl b : Int) + 2) = ((ihl b + 2 : Nat) : Int) := by rw [IntKind.wrap_i64]; omega
      have C1 := hide fun (W : World) => pWord_any b (ihl b) (w16 b 2) (ihl b) W (by omega) hs
      have C2 := hide fun (W : World) => pWord_any b (ihl b) (w16 b 2) (ihl b + 2) W (by omega) hs
      rw [← e2] at C2
      have d0 : W3.cell? ⟨w.heap.size, 0, none⟩ = some (.string b) := cellRow R03 rfl
      have d1 : W3.cell? ⟨w.heap.size, 1, none⟩ = some (.int .i64 (ihl b)) := cellRow R03 rfl
      have d2 : W3.cell? ⟨w.heap.size, 2, none⟩ = some (.int .i64 (w16 b 2)) := cellRow R03 rfl
      have hw3 : w.heap.size < W3.heap.size := lt_of_heap R03
      have nk1 : ¬ kb = w.heap.size := by omega
      have nk2 : ¬ w.heap.size = kb := by omega
      have q := KB3
      have r0 := R03
      have r1 := R13
      have bl := BL3
      generalize w16 b (ihl b) = y3 at *
      generalize w16 b (ihl b + 2) = y4 at *
      clear hpt e2 hle KB3 R03 R13 BL3
      go_wp2_with fail
      go_region_held3 (fun w' => w'.cell? ⟨w.heap.size, 0, none⟩ = some (.string b) ∧ w'.cell? ⟨w.heap.size, 1, none⟩ = some (.int .i64 (ihl b)) ∧ w'.cell? ⟨w.heap.size, 2, none⟩ = some (.int .i64 (w16 b 2))) (go_keep)
        (first
          | (go_at_call 98; with_reducible refine (C1.out _).mono ?_; rintro e v1 ⟨rfl, hb⟩; have q := (hb.block _ (lt_of_heap q)).trans q; have r0 := (hb.block _ (lt_of_heap r0)).trans r0; have r1 := (hb.block _ (lt_of_heap r1)).trans r1; have d0 := cellRow (j := 0) r0 rfl; have d1 := cellRow (j := 1) r0 rfl; have d2 := cellRow (j := 2) r0 rfl; have bl : Below w.heap.size w v1 := Below.trans (b := _) (by repeat (first | exact Below.refl _ _ | assumption | refine Below.drewN ?_ | refine Below.drew ?_ | refine Below.setCell ?_ (by first | exact Nat.le_refl _ | omega | (simp; done) | (simp; omega)) _ | refine Below.alloc ?_ (by first | exact Nat.le_refl _ | omega | (simp; done) | (simp; omega)) _)) (hb.mono (by have := bl.size; first | omega | (simp; omega))); have q3 := cellRow (j := 3) q rfl; have q4 := cellRow (j := 4) q rfl; have qf := fun j => frzRow q j; have ql := lt_of_heap q)
          | (go_at_call 98; with_reducible refine (C2.out _).mono ?_; rintro e v2 ⟨rfl, hb⟩; have q := (hb.block _ (lt_of_heap q)).trans q; have r0 := (hb.block _ (lt_of_heap r0)).trans r0; have r1 := (hb.block _ (lt_of_heap r1)).trans r1; have d0 := cellRow (j := 0) r0 rfl; have d1 := cellRow (j := 1) r0 rfl; have d2 := cellRow (j := 2) r0 rfl; have bl : Below w.heap.size w v2 := Below.trans (b := _) (by repeat (first | exact Below.refl _ _ | assumption | refine Below.drewN ?_ | refine Below.drew ?_ | refine Below.setCell ?_ (by first | exact Nat.le_refl _ | omega | (simp; done) | (simp; omega)) _ | refine Below.alloc ?_ (by first | exact Nat.le_refl _ | omega | (simp; done) | (simp; omega)) _)) (hb.mono (by have := bl.size; first | omega | (simp; omega))); have q3 := cellRow (j := 3) q rfl; have q4 := cellRow (j := 4) q rfl; have qf := fun j => frzRow q j; have ql := lt_of_heap q))
      obtain ⟨W5, hW5⟩ : ∃ W5, W5 = (v2.setCell ⟨kb, 3, none⟩ (.int .i64 y3)).setCell ⟨kb, 4, none⟩ (.int .i64 y4) := ⟨_, rfl⟩
      have KB5 : W5.heap[kb]? = some (.cells #[.int .i64 x0, .int .i64 x1, .int .i64 x2, .int .i64 y3, .int .i64 y4] 110 (0, 0)) := by rw [hW5]; exact (heap_setCell_same _ _ 4 _ _ _ (heap_setCell_same _ _ 3 _ _ _ q)).trans (by simp)
      have R15 : W5.heap[w.heap.size + 1]? = some (.cells #[.int .i64 0, .int .i64 0, .int .i64 0, .int .i64 0, .int .i64 0] 110 (0, 0)) := by rw [hW5]; exact ((heap_setCell_other _ _ _ _ (fun (e : w.heap.size + 1 = kb) => by omega)).trans (heap_setCell_other _ _ _ _ (fun (e : w.heap.size + 1 = kb) => by omega))).trans r1
      have BL5 : Below w.heap.size w W5 := by rw [hW5]; exact (bl.setCell (by show w.heap.size ≤ kb; omega) _).setCell (by show w.heap.size ≤ kb; omega) _
      rw [← hW5]
      clear hW5 q r0 r1 bl d0 d1 d2
      have k0 := cellRow (j := 0) KB5 rfl
      have k1 := cellRow (j := 1) KB5 rfl
      have k2 := cellRow (j := 2) KB5 rfl
      have k3 := cellRow (j := 3) KB5 rfl
      have k4 := cellRow (j := 4) KB5 rfl
      have t0 := cellRow (j := 0) R15 rfl
      have t1 := cellRow (j := 1) R15 rfl
      have t2 := cellRow (j := 2) R15 rfl
      have t3 := cellRow (j := 3) R15 rfl
      have t4 := cellRow (j := 4) R15 rfl
      have tf := fun j => frzRow R15 j
      have HZ := hide (row5_ex (.int .i64 x0) (.int .i64 x1) (.int .i64 x2) (.int .i64 y3) (.int .i64 y4) R15 BL5 (by omega))
      clear KB5 R15 BL5
      go_wp2
      obtain ⟨W9, hW9, Z1, Z2, _⟩ := HZ.out
      rw [← hW9]
      refine bodyPost_ret (ret_key Z1 rfl) rfl ?_
      exact ⟨by rw [HX0.out, HX1.out, HX2.out, HE0.out, HE1.out], Z2⟩
  go_region_held3 (fun w' => w'.cell? ⟨w.heap.size, 0, none⟩ = some (.string b) ∧ w'.cell? ⟨w.heap.size, 1, none⟩ = some (.int .i64 (ihl b)) ∧ w'.cell? ⟨w.heap.size, 2, none⟩ = some (.int .i64 (w16 b 2))) (go_keep)
    (first
      | (go_at_call 103; refine (CA.out _).mono ?_; rintro e w1 ⟨rfl, hb1⟩; have hB1 : Below W0.heap.size W0 w1 := Below.trans (b := _) (by repeat (first | exact Below.refl _ _ | assumption | refine Below.drewN ?_ | refine Below.drew ?_ | refine Below.setCell ?_ (by first | exact Nat.le_refl _ | omega | (simp; done) | (simp; omega)) _ | refine Below.alloc ?_ (by first | exact Nat.le_refl _ | omega | (simp; done) | (simp; omega)) _)) (hb1.mono (by first | exact Nat.le_refl _ | omega | (simp; done) | (simp; omega))); have g0 := cell_later hB1 c0; have g1 := cell_later hB1 c1; have g2 := cell_later hB1 c2; have zw1 := hB1.size; have naw1 : ¬ w1.heap.size = w.heap.size := (by omega); have nbw1 : ¬ w.heap.size = w1.heap.size := (by omega); (first | (have q := (hb1.block _ (lt_of_heap q)).trans q; have q0 := cellRow (j := 0) q rfl; have q1 := cellRow (j := 1) q rfl; have q2 := cellRow (j := 2) q rfl; have q3 := cellRow (j := 3) q rfl; have q4 := cellRow (j := 4) q rfl; have qf := fun j => frzRow q j; have ql := lt_of_heap q) | (have q := (hb1.block W0.heap.size (by simp)).trans (allocN W0 _); have q0 := cellRow (j := 0) q rfl; have q1 := cellRow (j := 1) q rfl; have q2 := cellRow (j := 2) q rfl; have q3 := cellRow (j := 3) q rfl; have q4 := cellRow (j := 4) q rfl; have qf := fun j => frzRow q j; have ql := lt_of_heap q) | (have q := (hb1.block w2.heap.size (by simp)).trans (allocN w2 _); have q0 := cellRow (j := 0) q rfl; have q1 := cellRow (j := 1) q rfl; have q2 := cellRow (j := 2) q rfl; have q3 := cellRow (j := 3) q rfl; have q4 := cellRow (j := 4) q rfl; have qf := fun j => frzRow q j; have ql := lt_of_heap q) | skip))
      | (go_at_call 61; refine (CD.out _).mono ?_; rintro e w2 ⟨rfl, hb2⟩; have hB2 : Below W0.heap.size W0 w2 := Below.trans (b := _) (by repeat (first | exact Below.refl _ _ | assumption | refine Below.drewN ?_ | refine Below.drew ?_ | refine Below.setCell ?_ (by first | exact Nat.le_refl _ | omega | (simp; done) | (simp; omega)) _ | refine Below.alloc ?_ (by first | exact Nat.le_refl _ | omega | (simp; done) | (simp; omega)) _)) (hb2.mono (by first | exact Nat.le_refl _ | omega | (simp; done) | (simp; omega))); have k0 := cell_later hB2 c0; have k1 := cell_later hB2 c1; have k2 := cell_later hB2 c2; have zw2 := hB2.size; have naw2 : ¬ w2.heap.size = w.heap.size := (by omega); have nbw2 : ¬ w.heap.size = w2.heap.size := (by omega); (first | (have q := (hb2.block _ (lt_of_heap q)).trans q; have q0 := cellRow (j := 0) q rfl; have q1 := cellRow (j := 1) q rfl; have q2 := cellRow (j := 2) q rfl; have q3 := cellRow (j := 3) q rfl; have q4 := cellRow (j := 4) q rfl; have qf := fun j => frzRow q j; have ql := lt_of_heap q) | (have q := (hb2.block W0.heap.size (by simp)).trans (allocN W0 _); have q0 := cellRow (j := 0) q rfl; have q1 := cellRow (j := 1) q rfl; have q2 := cellRow (j := 2) q rfl; have q3 := cellRow (j := 3) q rfl; have q4 := cellRow (j := 4) q rfl; have qf := fun j => frzRow q j; have ql := lt_of_heap q) | (have q := (hb2.block w1.heap.size (by simp)).trans (allocN w1 _); have q0 := cellRow (j := 0) q rfl; have q1 := cellRow (j := 1) q rfl; have q2 := cellRow (j := 2) q rfl; have q3 := cellRow (j := 3) q rfl; have q4 := cellRow (j := 4) q rfl; have qf := fun j => frzRow q j; have ql := lt_of_heap q) | skip)))
  all_goals
    have hx2 : IntKind.i64.wrap (x2 : Int) = (x2 : Int) := by rw [IntKind.wrap_i64]; omega
    rw [hx2]
    first
    | (obtain ⟨W2, hW2, KB, LB, LK⟩ := row5_ex (.int .i64 x0) (.int .i64 x1) (.int .i64 x2) (.int .i64 0) (.int .i64 0) q hB2 (by omega); rw [← hW2])
    | (obtain ⟨W2, hW2, KB, LB, LK⟩ := row5_ex (.int .i64 x0) (.int .i64 x1) (.int .i64 x2) (.int .i64 0) (.int .i64 0) q hB1 (by omega); rw [← hW2])
    | (obtain ⟨W2, hW2, KB, LB, LK⟩ := row5_new #[.int .i64 x0, .int .i64 x1, .int .i64 x2, .int .i64 0, .int .i64 0] 110 hB2 zw2; rw [← hW2])
    | (obtain ⟨W2, hW2, KB, LB, LK⟩ := row5_new #[.int .i64 x0, .int .i64 x1, .int .i64 x2, .int .i64 0, .int .i64 0] 110 hB1 zw1; rw [← hW2])
  all_goals exact REST _ _ KB LB LK
end Go.Proofs.YtaejpejfmpbinaaGreatDoor
