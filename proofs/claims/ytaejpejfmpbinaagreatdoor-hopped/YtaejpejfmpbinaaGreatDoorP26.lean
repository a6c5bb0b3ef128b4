import Derived.Test.YtaejpejfmpbinaaGreatDoorP25
import Derived.Test.YtaejpejfmpbinaaGreatDoorP22
import Derived.Test.YtaejpejfmpbinaaGreatDoorP18
import Derived.Test.YtaejpejfmpbinaaGreatDoorP24
namespace Go.Proofs.YtaejpejfmpbinaaGreatDoor
open Go.RowKit
open Go.Sort (grow)
attribute [local go_sem] cell?_regrown

theorem convB (W : World) (g : Nat) (x : Int) (hx : 0 ≤ x ∧ x < 256) (h0 : W.cell? ⟨g, 0, none⟩ = some (.int .u8 x)) :
    (convert 42 9 (.slice (some ⟨g, 0, none⟩) 1 1)).run Tryz.prog W = .ok (.string ⟨#[UInt8.ofNat x.toNat]⟩) W := by
  refine run_convert_bytes_back W 42 9 5 ⟨g, 0, none⟩ 1 [UInt8.ofNat x.toNat] Tryz.underlying42 Tryz.underlying5 Tryz.underlying9 ?_
  intro j hj
  match j, hj with
  | 0, _ =>
    have e : ((UInt8.ofNat x.toNat).toNat : Int) = x := by simp; omega
    show W.cell? ⟨g, 0, none⟩ = some (.int .u8 ((UInt8.ofNat x.toNat).toNat : Int))
    rw [e]; exact h0
/-- The last bytes of a number, the highest first. -/
def bL (n : Int) : Nat → List UInt8
  | 0 => []
  | i + 1 => UInt8.ofNat (n / 256 ^ i % 256).toNat :: bL n i
theorem bL_length (n : Int) : ∀ i, (bL n i).length = i
  | 0 => rfl
  | i + 1 => by rw [bL, List.length_cons, bL_length n i]

set_option maxRecDepth 100000 in
set_option maxHeartbeats 1000000 in
theorem kbytes_any (n : Int) (k : Nat) (w : World) (h0 : 0 ≤ n) (h1 : n ≤ 9223372036854775807) (hk : k ≤ 8) : Calls Tryz.prog 19 #[.int .i64 n, .int .i64 k] w fun e w' => e = .returned (.string (ofL (bL n k))) ∧ Below w.heap.size w w' := by
  go_enter Tryz.func19, Tryz.ntmps19
  go_wp2
  go_loopw [0, 5, 6] (fun m s a wr => ∃ i : Nat, i ≤ k ∧ m = .int .i64 (n / 256 ^ i) ∧ s = .string (ofL (bL n i)) ∧ a = .int .i64 i ∧ Hid (Below w.heap.size w wr)) (fun _ _ a _ => k - (intOf a).toNat)
  case atStart => exact ⟨0, Nat.zero_le _, by simp, rfl, rfl, hide (Below.refl _ _)⟩
  case round =>
    obtain ⟨i, hi, rfl, rfl, rfl, hI⟩ := hrel
    obtain ⟨m, hm⟩ : ∃ m, m = n / 256 ^ i := ⟨_, rfl⟩
    have hm0 : 0 ≤ m := by rw [hm]; exact Int.ediv_nonneg h0 (Int.pow_nonneg (by omega))
    have hm1 : m ≤ 9223372036854775807 := by
      rw [hm]
      exact Int.le_trans (Int.ediv_le_self _ h0) h1
    by_cases hlt : i < k
    · have hki : (i : Int) < k := by omega
      have hib : (i : Int) ≤ 8 := by omega
      have hcv := convB (wr.alloc (.cells #[.int .u8 (m % 256)] 5)) wr.heap.size (m % 256) (by omega) (cellRow (allocN _ _) rfl)
      have HS : Hid (⟨#[UInt8.ofNat (m % 256).toNat]⟩ ++ ofL (bL n i) = ofL (bL n (i + 1))) := hide (by
        show ofL [UInt8.ofNat (m % 256).toNat] ++ ofL (bL n i) = _
        rw [ofL_append, bL, hm]; rfl)
      have HM : Hid (m / 256 = n / 256 ^ (i + 1)) := hide (by rw [hm, Int.ediv_ediv_of_nonneg (Int.pow_nonneg (by omega)), Int.pow_succ])
      have HN : Hid (Below w.heap.size w (wr.alloc (.cells #[.int .u8 (m % 256)] 5))) := hide (hI.out.alloc hI.out.size _)
      rw [← hm]
      clear hm
      have hbz : ¬ 9223372036854775807 < 1 + (ofL (bL n i)).size := by rw [ofL_size, bL_length]; omega
      generalize ofL (bL n i) = bs at *
      go_wp2
      go_roundw
      case rel => exact ⟨i + 1, by omega, by rw [HM.out], by rw [HS.out], by go_num, HN⟩
      case measure =>
        simp [intOf]
        omega
    · obtain rfl : i = k := by omega
      have hki : ¬ (i : Int) < i := by omega
      rw [← hm]
      go_wp2
      go_ret
      exact ⟨rfl, hI.out⟩

set_option maxRecDepth 100000 in
set_option maxHeartbeats 1000000 in
theorem ksum_any (b : ByteArray) (w : World) (h : 20 ≤ b.size) (hs : b.size ≤ 1000) : Calls Tryz.prog 17 #[.string b] w fun e w' => e = .returned (.int .i64 (hsum b 10)) ∧ Below w.heap.size w w' := by
  go_enter Tryz.func17, Tryz.ntmps17
  go_wp2
  go_loopw [3, 4] (fun s a wr => ∃ k : Nat, k ≤ 10 ∧ s = .int .i64 (hsum b k) ∧ a = .int .i64 ((2 * k : Nat) : Int) ∧ Hid (Below w.heap.size w wr)) (fun _ a _ => 20 - (intOf a).toNat)
  case atStart => exact ⟨0, Nat.zero_le _, rfl, rfl, hide (Below.refl _ _)⟩
  case round =>
    obtain ⟨k, hk, rfl, rfl, hI⟩ := hrel
    have hsl := hsum_le b k
    by_cases hlt : k < 10
    · have hki : ((2 * k : Nat) : Int) < 20 := by omega
      have hkb : 2 * k + 1 < b.size := by omega
      have j0 : 2 * k < b.size := by omega
      have hw : w16 b (2 * k) = (b[2 * k]'(by omega)).toNat * 256 + (b[2 * k + 1]'hkb).toNat := dif_pos hkb
      have hx := (b[2 * k]'(by omega)).toNat_lt
      have hy := (b[2 * k + 1]'hkb).toNat_lt
      have hsk : Hid (hsum b (k + 1) = ones (hsum b k) (w16 b (2 * k))) := hide rfl
      have i0 : ((2 * k : Nat) : Int) < b.size := by omega
      have i1 : ((2 * k : Nat) : Int) + 1 < b.size := by omega
      have i3 : (0 : Int) ≤ ((2 * k : Nat) : Int) + 1 := by omega
      obtain ⟨k2, hk2⟩ : ∃ k2, k2 = 2 * k := ⟨_, rfl⟩
      simp only [← hk2] at hkb j0 hw hx hy hsk i0 i1 i3 hki ⊢
      have hx1 : ∀ W : World, (Instr.index 9 (.string b) (.int .i64 (IntKind.i64.wrap ((k2 : Int) + 1)))).run Tryz.prog W = .ok (.int .u8 ((b[k2 + 1]'hkb).toNat : Int)) W := fun W => by
        rw [show IntKind.i64.wrap ((k2 : Int) + 1) = (k2 : Int) + 1 by rw [IntKind.wrap_i64]; omega]
        simp [go_sem, i1, i3]
      have hx0 : ∀ W : World, (Instr.index 9 (.string b) (.int .i64 (k2 : Int))).run Tryz.prog W = .ok (.int .u8 ((b[k2]'j0).toNat : Int)) W := fun W => by
        simp [go_sem, i0]
      generalize (b[k2 + 1]'hkb).toNat = y at *
      generalize (b[k2]'j0).toNat = x at *
      generalize hsum b k = z at *
      obtain ⟨z2, hz2⟩ : ∃ z2, z2 = hsum b (k + 1) := ⟨_, rfl⟩
      rw [← hz2] at hsk
      have HZ2 := hide hz2
      clear hz2
      have HK2 := hide hk2
      have HW := hide hw
      clear hk2 hw i1 i3 i0 j0 hkb
      have E : Hid (IntKind.i64.wrap (IntKind.i64.wrap ((z : Int) + IntKind.i64.wrap (256 * IntKind.i64.wrap (x : Int))) + IntKind.i64.wrap (y : Int)) = ((z + (x * 256 + y) : Nat) : Int)) := hide (by
        have e1 : IntKind.i64.wrap (x : Int) = x := by rw [IntKind.wrap_i64]; omega
        have e2 : IntKind.i64.wrap (y : Int) = y := by rw [IntKind.wrap_i64]; omega
        have e3 : IntKind.i64.wrap (256 * (x : Int)) = 256 * x := by rw [IntKind.wrap_i64]; omega
        have e4 : IntKind.i64.wrap ((z : Int) + 256 * x) = z + 256 * x := by rw [IntKind.wrap_i64]; omega
        have e5 : IntKind.i64.wrap ((z : Int) + 256 * x + y) = z + 256 * x + y := by rw [IntKind.wrap_i64]; omega
        rw [e1, e2, e3, e4, e5]
        omega)
      go_wp2
      refine wp_region_quiet_below (by kernel_rfl) (by kernel_rfl) ?_
      repeat (first | go_big_quiet_skip | quiet_step (fail))
      refine wpQuiet_nil ?_; intro wq hwq; replace hwq := below_of_regrown hwq; obtain ⟨hcq, hfq⟩ := bcell hwq; have hzq := hwq.size
      have HQ := hide hwq
      clear hcq hfq hwq
      rw [E.out]
      generalize hzz : z + (x * 256 + y) = zz at *
      have hzb : zz < 200000 := by omega
      have HZ := hide hzz
      clear hzz E
      go_wp2
      go_roundw
      case rel => exact ⟨k + 1, by omega, by rw [← HZ2.out, hsk.out, HW.out]; unfold ones; rw [HZ.out]; go_num, by rw [HK2.out]; go_num, hide (hI.out.trans (HQ.out.mono hI.out.size))⟩
      case measure =>
        have h7 := HK2.out
        simp [intOf]
        omega
    · obtain rfl : k = 10 := by omega
      clear hsl
      go_wp2
      go_ret
      exact ⟨rfl, hI.out⟩

/-- A right packet of these numbers, without its sum. -/
def hdL (ttl pr : Int) (len : Nat) : List UInt8 := [69, 0] ++ bL (20 + len) 2 ++ [0, 0, 0, 0] ++ bL ttl 1 ++ bL pr 1
def tlL (fr to : Int) : List UInt8 := bL fr 4 ++ bL to 4
/-- The number that makes its sum right. -/
def csN (ttl pr fr to : Int) (len : Nat) : Nat := 65535 - hsum (ofL (hdL ttl pr len ++ [0, 0] ++ tlL fr to)) 10
def pkL (ttl pr fr to : Int) (rest : List UInt8) : List UInt8 := hdL ttl pr rest.length ++ bL (csN ttl pr fr to rest.length) 2 ++ tlL fr to ++ rest
theorem hdL_length (ttl pr : Int) (len : Nat) : (hdL ttl pr len).length = 10 := by simp [hdL, bL_length]
theorem tlL_length (fr to : Int) : (tlL fr to).length = 8 := by simp [tlL, bL_length]
set_option maxRecDepth 100000 in
set_option maxHeartbeats 1000000 in
theorem kpacket_any (ttl pr fr to : Int) (rest : List UInt8) (w : World) (h0 : 0 ≤ ttl ∧ ttl < 65536) (h1 : 0 ≤ pr ∧ pr < 65536) (h2 : 0 ≤ fr ∧ fr < 4294967296) (h3 : 0 ≤ to ∧ to < 4294967296) (h4 : rest.length ≤ 500) :
    Calls Tryz.prog 16 #[.int .i64 ttl, .int .i64 pr, .int .i64 fr, .int .i64 to, .string (ofL rest)] w fun e w' => e = .returned (.string (ofL (pkL ttl pr fr to rest))) ∧ Below w.heap.size w w' := by
  have hlen : (ofL rest).size = rest.length := ofL_size _
  have B1 := hide fun (W : World) => kbytes_any (20 + (rest.length : Int)) 2 W (by omega) (by omega) (by omega)
  have B2 := hide fun (W : World) => kbytes_any ttl 1 W (by omega) (by omega) (by omega)
  have B3 := hide fun (W : World) => kbytes_any pr 1 W (by omega) (by omega) (by omega)
  have B4 := hide fun (W : World) => kbytes_any fr 4 W (by omega) (by omega) (by omega)
  have B5 := hide fun (W : World) => kbytes_any to 4 W (by omega) (by omega) (by omega)
  obtain ⟨z, hz⟩ : ∃ z, z = hsum (ofL (hdL ttl pr rest.length ++ [0, 0] ++ tlL fr to)) 10 := ⟨_, rfl⟩
  have hzl : z ≤ 65535 := by rw [hz]; exact hsum_le _ _
  have BS := hide fun (W : World) => ksum_any (ofL (hdL ttl pr rest.length ++ [0, 0] ++ tlL fr to)) W (by rw [ofL_size]; simp [hdL_length, tlL_length]) (by rw [ofL_size]; simp [hdL_length, tlL_length])
  have hc : (csN ttl pr fr to rest.length : Int) = 65535 - (z : Int) := by unfold csN; rw [← hz]; omega
  have B6 := hide fun (W : World) => kbytes_any (65535 - (z : Int)) 2 W (by omega) (by omega) (by omega)
  rw [← hz] at BS
  have HH : ofL [69, 0] ++ ofL (bL (20 + (rest.length : Int)) 2) ++ ofL [0, 0, 0, 0] ++ ofL (bL ttl 1) ++ ofL (bL pr 1) = ofL (hdL ttl pr rest.length) := by
    simp only [ofL_append, hdL]
  have HT : ofL (bL fr 4) ++ ofL (bL to 4) = ofL (tlL fr to) := ofL_append _ _
  have HF : ofL (pkL ttl pr fr to rest) = ofL (hdL ttl pr rest.length) ++ ofL (bL (65535 - (z : Int)) 2) ++ ofL (tlL fr to) ++ ofL rest := by
    unfold pkL
    rw [hc]
    simp only [ofL_append]
  have HG : ofL (hdL ttl pr rest.length ++ [0, 0] ++ tlL fr to) = ofL (hdL ttl pr rest.length) ++ ofL [0, 0] ++ ofL (tlL fr to) := by
    simp only [ofL_append]
  rw [HF]
  rw [HG] at BS
  clear HF HG hc hz
  have s1 : (ofL (bL (20 + (rest.length : Int)) 2)).size = 2 := by rw [ofL_size, bL_length]
  have s2 : (ofL (bL ttl 1)).size = 1 := by rw [ofL_size, bL_length]
  have s3 : (ofL (bL pr 1)).size = 1 := by rw [ofL_size, bL_length]
  have s4 : (ofL (bL fr 4)).size = 4 := by rw [ofL_size, bL_length]
  have s5 : (ofL (bL to 4)).size = 4 := by rw [ofL_size, bL_length]
  have s6 : (ofL (bL (65535 - (z : Int)) 2)).size = 2 := by rw [ofL_size, bL_length]
  have s7 : (ofL (hdL ttl pr rest.length)).size = 10 := by rw [ofL_size, hdL_length]
  have s8 : (ofL (tlL fr to)).size = 8 := by rw [ofL_size, tlL_length]
  generalize ofL (bL (20 + (rest.length : Int)) 2) = x1 at *
  generalize ofL (bL ttl 1) = x2 at *
  generalize ofL (bL pr 1) = x3 at *
  generalize ofL (bL fr 4) = x4 at *
  generalize ofL (bL to 4) = x5 at *
  generalize ofL (bL (65535 - (z : Int)) 2) = x6 at *
  generalize ofL (hdL ttl pr rest.length) = x7 at *
  generalize ofL (tlL fr to) = x8 at *
  generalize ofL rest = x9 at *
  have hn : (x9.size : Int) ≤ 500 := by omega
  rw [← hlen] at B1
  have HH' : Hid (⟨#[69, 0]⟩ ++ x1 ++ ⟨#[0, 0, 0, 0]⟩ ++ x2 ++ x3 = x7) := hide HH
  have HT' := hide HT
  clear HH HT h4 hlen
  go_enter Tryz.func16, Tryz.ntmps16
  go_wp2_with fail
  refine (B1.out _).mono ?_
  rintro e W1 ⟨rfl, hb1⟩
  go_wp2_with fail
  refine (B2.out _).mono ?_
  rintro e W2 ⟨rfl, hb2⟩
  go_wp2_with fail
  refine (B3.out _).mono ?_
  rintro e W3 ⟨rfl, hb3⟩
  have HB3 := hide ((hb1.trans (hb2.mono hb1.size)).trans (hb3.mono (hb1.trans (hb2.mono hb1.size)).size))
  clear hb1 hb2 hb3 B1 B2 B3
  go_wp2_with fail
  rw [HH'.out]
  refine (B4.out _).mono ?_
  rintro e W4 ⟨rfl, hb4⟩
  go_wp2_with fail
  refine (B5.out _).mono ?_
  rintro e W5 ⟨rfl, hb5⟩
  have HB5 := hide ((HB3.out.trans (hb4.mono HB3.out.size)).trans (hb5.mono (HB3.out.trans (hb4.mono HB3.out.size)).size))
  clear hb4 hb5 B4 B5 HB3
  go_wp2_with fail
  rw [HT'.out]
  refine (BS.out _).mono ?_
  rintro e W6 ⟨rfl, hb6⟩
  go_wp2_with fail
  refine (B6.out _).mono ?_
  rintro e W7 ⟨rfl, hb7⟩
  have HB7 := hide ((HB5.out.trans (hb6.mono HB5.out.size)).trans (hb7.mono (HB5.out.trans (hb6.mono HB5.out.size)).size))
  clear hb6 hb7 BS B6 HB5
  go_wp2
  go_ret
  exact ⟨rfl, HB7.out⟩
end Go.Proofs.YtaejpejfmpbinaaGreatDoor

namespace Go.Proofs.YtaejpejfmpbinaaGreatDoor
open Go.RowKit

theorem wd (xs ys : List UInt8) (x y : UInt8) : w16 (ofL (xs ++ x :: y :: ys)) xs.length = x.toNat * 256 + y.toNat := by
  have h : xs.length + 1 < (ofL (xs ++ x :: y :: ys)).size := by rw [ofL_size]; simp
  unfold w16
  rw [dif_pos h, ofL_get, ofL_get]
  simp
theorem bd (xs ys : List UInt8) (x : UInt8) : b8 (ofL (xs ++ x :: ys)) xs.length = x.toNat := by
  have h : xs.length < (ofL (xs ++ x :: ys)).size := by rw [ofL_size]; simp
  unfold b8
  rw [dif_pos h, ofL_get]
  simp
theorem w20 (x0 x1 x2 x3 x4 x5 x6 x7 x8 x9 x10 x11 x12 x13 x14 x15 x16 x17 x18 x19 : UInt8) (r : List UInt8) :
    w16 (ofL (x0 :: x1 :: x2 :: x3 :: x4 :: x5 :: x6 :: x7 :: x8 :: x9 :: x10 :: x11 :: x12 :: x13 :: x14 :: x15 :: x16 :: x17 :: x18 :: x19 :: r)) 0 = x0.toNat * 256 + x1.toNat ∧ w16 (ofL (x0 :: x1 :: x2 :: x3 :: x4 :: x5 :: x6 :: x7 :: x8 :: x9 :: x10 :: x11 :: x12 :: x13 :: x14 :: x15 :: x16 :: x17 :: x18 :: x19 :: r)) 2 = x2.toNat * 256 + x3.toNat ∧ w16 (ofL (x0 :: x1 :: x2 :: x3 :: x4 :: x5 :: x6 :: x7 :: x8 :: x9 :: x10 :: x11 :: x12 :: x13 :: x14 :: x15 :: x16 :: x17 :: x18 :: x19 :: r)) 4 = x4.toNat * 256 + x5.toNat ∧ w16 (ofL (x0 :: x1 :: x2 :: x3 :: x4 :: x5 :: x6 :: x7 :: x8 :: x9 :: x10 :: x11 :: x12 :: x13 :: x14 :: x15 :: x16 :: x17 :: x18 :: x19 :: r)) 6 = x6.toNat * 256 + x7.toNat ∧ w16 (ofL (x0 :: x1 :: x2 :: x3 :: x4 :: x5 :: x6 :: x7 :: x8 :: x9 :: x10 :: x11 :: x12 :: x13 :: x14 :: x15 :: x16 :: x17 :: x18 :: x19 :: r)) 8 = x8.toNat * 256 + x9.toNat ∧ w16 (ofL (x0 :: x1 :: x2 :: x3 :: x4 :: x5 :: x6 :: x7 :: x8 :: x9 :: x10 :: x11 :: x12 :: x13 :: x14 :: x15 :: x16 :: x17 :: x18 :: x19 :: r)) 10 = x10.toNat * 256 + x11.toNat ∧ w16 (ofL (x0 :: x1 :: x2 :: x3 :: x4 :: x5 :: x6 :: x7 :: x8 :: x9 :: x10 :: x11 :: x12 :: x13 :: x14 :: x15 :: x16 :: x17 :: x18 :: x19 :: r)) 12 = x12.toNat * 256 + x13.toNat ∧ w16 (ofL (x0 :: x1 :: x2 :: x3 :: x4 :: x5 :: x6 :: x7 :: x8 :: x9 :: x10 :: x11 :: x12 :: x13 :: x14 :: x15 :: x16 :: x17 :: x18 :: x19 :: r)) 14 = x14.toNat * 256 + x15.toNat ∧ w16 (ofL (x0 :: x1 :: x2 :: x3 :: x4 :: x5 :: x6 :: x7 :: x8 :: x9 :: x10 :: x11 :: x12 :: x13 :: x14 :: x15 :: x16 :: x17 :: x18 :: x19 :: r)) 16 = x16.toNat * 256 + x17.toNat ∧ w16 (ofL (x0 :: x1 :: x2 :: x3 :: x4 :: x5 :: x6 :: x7 :: x8 :: x9 :: x10 :: x11 :: x12 :: x13 :: x14 :: x15 :: x16 :: x17 :: x18 :: x19 :: r)) 18 = x18.toNat * 256 + x19.toNat :=
  ⟨wd [] _ _ _, wd [x0, x1] _ _ _, wd [x0, x1, x2, x3] _ _ _, wd [x0, x1, x2, x3, x4, x5] _ _ _, wd [x0, x1, x2, x3, x4, x5, x6, x7] _ _ _, wd [x0, x1, x2, x3, x4, x5, x6, x7, x8, x9] _ _ _, wd [x0, x1, x2, x3, x4, x5, x6, x7, x8, x9, x10, x11] _ _ _, wd [x0, x1, x2, x3, x4, x5, x6, x7, x8, x9, x10, x11, x12, x13] _ _ _, wd [x0, x1, x2, x3, x4, x5, x6, x7, x8, x9, x10, x11, x12, x13, x14, x15] _ _ _, wd [x0, x1, x2, x3, x4, x5, x6, x7, x8, x9, x10, x11, x12, x13, x14, x15, x16, x17] _ _ _⟩
theorem b20 (x0 x1 x2 x3 x4 x5 x6 x7 x8 x9 x10 x11 x12 x13 x14 x15 x16 x17 x18 x19 : UInt8) (r : List UInt8) : b8 (ofL (x0 :: x1 :: x2 :: x3 :: x4 :: x5 :: x6 :: x7 :: x8 :: x9 :: x10 :: x11 :: x12 :: x13 :: x14 :: x15 :: x16 :: x17 :: x18 :: x19 :: r)) 8 = x8.toNat ∧ b8 (ofL (x0 :: x1 :: x2 :: x3 :: x4 :: x5 :: x6 :: x7 :: x8 :: x9 :: x10 :: x11 :: x12 :: x13 :: x14 :: x15 :: x16 :: x17 :: x18 :: x19 :: r)) 9 = x9.toNat := ⟨bd [x0, x1, x2, x3, x4, x5, x6, x7] _ _, bd [x0, x1, x2, x3, x4, x5, x6, x7, x8] _ _⟩
theorem ones_mod {x y : Nat} (_hx : x ≤ 65535) (_hy : y ≤ 65535) : ones x y % 65535 = (x + y) % 65535 := by unfold ones; omega
theorem ones_pos {x y : Nat} (h : 0 < x ∨ 0 < y) : 0 < ones x y := by unfold ones; omega
/-- The plain sum of the first words. -/
def wsum (b : ByteArray) : Nat → Nat
  | 0 => 0
  | k + 1 => wsum b k + w16 b (2 * k)
theorem hsum_mod (b : ByteArray) : ∀ k, hsum b k % 65535 = wsum b k % 65535
  | 0 => rfl
  | k + 1 => by
    have h1 := ones_mod (hsum_le b k) (show w16 b (2 * k) ≤ 65535 by have := w16_lt b (2 * k); omega)
    have h2 := hsum_mod b k
    show ones (hsum b k) (w16 b (2 * k)) % 65535 = (wsum b k + w16 b (2 * k)) % 65535
    omega
theorem hsum_pos (b : ByteArray) (h : 0 < w16 b 0) : ∀ k, 0 < hsum b (k + 1)
  | 0 => ones_pos (.inr h)
  | k + 1 => ones_pos (.inl (hsum_pos b h k))

/-- The bytes of a packet with these two for its sum. -/
def pkB (ttl pr fr to : Int) (len : Nat) (c1 c0 : UInt8) (rest : List UInt8) : List UInt8 := hdL ttl pr len ++ [c1, c0] ++ tlL fr to ++ rest
def by8 (n : Int) (i : Nat) : UInt8 := UInt8.ofNat (n / 256 ^ i % 256).toNat
theorem pkB_eq (ttl pr fr to : Int) (len : Nat) (c1 c0 : UInt8) (rest : List UInt8) : pkB ttl pr fr to len c1 c0 rest = 69 :: 0 :: by8 (20 + len) 1 :: by8 (20 + len) 0 :: 0 :: 0 :: 0 :: 0 :: by8 ttl 0 :: by8 pr 0 :: c1 :: c0 :: by8 fr 3 :: by8 fr 2 :: by8 fr 1 :: by8 fr 0 :: by8 to 3 :: by8 to 2 :: by8 to 1 :: by8 to 0 :: rest := rfl
theorem by8_nat (n : Int) (i : Nat) : ((by8 n i).toNat : Int) = n / 256 ^ i % 256 := by
  unfold by8
  have h0 : 0 ≤ n / 256 ^ i % 256 := Int.emod_nonneg _ (by omega)
  have h1 : n / 256 ^ i % 256 < 256 := Int.emod_lt_of_pos _ (by omega)
  simp only [UInt8.toNat_ofNat']
  omega
theorem two8 {n : Int} (h : 0 ≤ n ∧ n < 65536) : (((by8 n 1).toNat * 256 + (by8 n 0).toNat : Nat) : Int) = n := by
  have h1 := by8_nat n 1
  have h0 := by8_nat n 0
  simp only [Int.pow_zero, Int.ediv_one, Int.pow_succ] at h0 h1
  omega
theorem four8 {n : Int} (h : 0 ≤ n ∧ n < 4294967296) : ((((by8 n 3).toNat * 256 + (by8 n 2).toNat) * 65536 + ((by8 n 1).toNat * 256 + (by8 n 0).toNat) : Nat) : Int) = n := by
  have h3 := by8_nat n 3
  have h2 := by8_nat n 2
  have h1 := by8_nat n 1
  have h0 := by8_nat n 0
  simp only [Int.pow_zero, Int.ediv_one, Int.pow_succ] at h0 h1 h2 h3
  omega
/-- The sum of a packet's other words. -/
def wOth (ttl pr fr to : Int) (len : Nat) : Nat := 69 * 256 + ((by8 (20 + len) 1).toNat * 256 + (by8 (20 + len) 0).toNat) + ((by8 ttl 0).toNat * 256 + (by8 pr 0).toNat) + ((by8 fr 3).toNat * 256 + (by8 fr 2).toNat) + ((by8 fr 1).toNat * 256 + (by8 fr 0).toNat) + ((by8 to 3).toNat * 256 + (by8 to 2).toNat) + ((by8 to 1).toNat * 256 + (by8 to 0).toNat)
theorem wsum_pk (ttl pr fr to : Int) (len : Nat) (c1 c0 : UInt8) (rest : List UInt8) : wsum (ofL (pkB ttl pr fr to len c1 c0 rest)) 10 = wOth ttl pr fr to len + (c1.toNat * 256 + c0.toNat) := by
  rw [pkB_eq]
  simp only [wsum]
  obtain ⟨e0, e1, e2, e3, e4, e5, e6, e7, e8, e9⟩ := w20 69 0 (by8 (20 + len) 1) (by8 (20 + len) 0) 0 0 0 0 (by8 ttl 0) (by8 pr 0) c1 c0 (by8 fr 3) (by8 fr 2) (by8 fr 1) (by8 fr 0) (by8 to 3) (by8 to 2) (by8 to 1) (by8 to 0) rest
  rw [Nat.mul_zero, show 2 * 1 = 2 from rfl, show 2 * 2 = 4 from rfl, show 2 * 3 = 6 from rfl, show 2 * 4 = 8 from rfl, show 2 * 5 = 10 from rfl, show 2 * 6 = 12 from rfl, show 2 * 7 = 14 from rfl, show 2 * 8 = 16 from rfl, show 2 * 9 = 18 from rfl, e0, e1, e2, e3, e4, e5, e6, e7, e8, e9]
  unfold wOth
  simp only [show (69 : UInt8).toNat = 69 from rfl, show (0 : UInt8).toNat = 0 from rfl]
  omega
theorem pkL_eq (ttl pr fr to : Int) (rest : List UInt8) : pkL ttl pr fr to rest = pkB ttl pr fr to rest.length (by8 (csN ttl pr fr to rest.length) 1) (by8 (csN ttl pr fr to rest.length) 0) rest := rfl
/-- A packet's sum is right. -/
theorem hsum_pk (ttl pr fr to : Int) (rest : List UInt8) : hsum (ofL (pkL ttl pr fr to rest)) 10 = 65535 := by
  have h0 : csN ttl pr fr to rest.length = 65535 - hsum (ofL (pkB ttl pr fr to rest.length 0 0 [])) 10 := by
    unfold csN pkB
    rw [List.append_nil]
  have h1 := hsum_mod (ofL (pkB ttl pr fr to rest.length 0 0 [])) 10
  rw [wsum_pk] at h1
  have h2 := hsum_le (ofL (pkB ttl pr fr to rest.length 0 0 [])) 10
  generalize hsum (ofL (pkB ttl pr fr to rest.length 0 0 [])) 10 = S at h0 h1 h2
  have h3 := hsum_mod (ofL (pkL ttl pr fr to rest)) 10
  rw [pkL_eq, wsum_pk] at h3
  have h4 := two8 (n := (csN ttl pr fr to rest.length : Nat)) (by omega)
  have h5 : 0 < hsum (ofL (pkL ttl pr fr to rest)) 10 := by
    refine hsum_pos _ ?_ 9
    rw [pkL_eq, pkB_eq, (w20 _ _ _ _ _ _ _ _ _ _ _ _ _ _ _ _ _ _ _ _ _).1]
    simp only [show (69 : UInt8).toNat = 69 from rfl]
    omega
  have h6 := hsum_le (ofL (pkL ttl pr fr to rest)) 10
  rw [pkL_eq] at h5 h6 ⊢
  simp only [show (0 : UInt8).toNat = 0 from rfl] at h1
  omega
theorem w16_6 (ttl pr fr to : Int) (rest : List UInt8) : w16 (ofL (pkL ttl pr fr to rest)) 6 = 0 := by
  rw [pkL_eq, pkB_eq, (w20 _ _ _ _ _ _ _ _ _ _ _ _ _ _ _ _ _ _ _ _ _).2.2.2.1]
  rfl
theorem w16_2 (ttl pr fr to : Int) (rest : List UInt8) (h : rest.length ≤ 500) : w16 (ofL (pkL ttl pr fr to rest)) 2 = 20 + rest.length := by
  rw [pkL_eq, pkB_eq, (w20 _ _ _ _ _ _ _ _ _ _ _ _ _ _ _ _ _ _ _ _ _).2.1]
  have := two8 (n := 20 + (rest.length : Int)) (by omega)
  omega
theorem pk_from (ttl pr fr to : Int) (rest : List UInt8) (h : 0 ≤ fr ∧ fr < 4294967296) : (a32 (ofL (pkL ttl pr fr to rest)) 12 : Int) = fr := by
  unfold a32
  rw [pkL_eq, pkB_eq, (w20 _ _ _ _ _ _ _ _ _ _ _ _ _ _ _ _ _ _ _ _ _).2.2.2.2.2.2.1, (w20 _ _ _ _ _ _ _ _ _ _ _ _ _ _ _ _ _ _ _ _ _).2.2.2.2.2.2.2.1]
  exact four8 h
theorem pk_to (ttl pr fr to : Int) (rest : List UInt8) (h : 0 ≤ to ∧ to < 4294967296) : (a32 (ofL (pkL ttl pr fr to rest)) 16 : Int) = to := by
  unfold a32
  rw [pkL_eq, pkB_eq, (w20 _ _ _ _ _ _ _ _ _ _ _ _ _ _ _ _ _ _ _ _ _).2.2.2.2.2.2.2.2.1, (w20 _ _ _ _ _ _ _ _ _ _ _ _ _ _ _ _ _ _ _ _ _).2.2.2.2.2.2.2.2.2]
  exact four8 h
theorem pk_ttl (ttl pr fr to : Int) (rest : List UInt8) (h : 0 ≤ ttl ∧ ttl < 256) : (b8 (ofL (pkL ttl pr fr to rest)) 8 : Int) = ttl := by
  rw [pkL_eq, pkB_eq, (b20 _ _ _ _ _ _ _ _ _ _ _ _ _ _ _ _ _ _ _ _ _).1]
  have := by8_nat ttl 0
  simp only [Int.pow_zero, Int.ediv_one] at this
  omega
theorem pk_pr (ttl pr fr to : Int) (rest : List UInt8) (h : 0 ≤ pr ∧ pr < 256) : (b8 (ofL (pkL ttl pr fr to rest)) 9 : Int) = pr := by
  rw [pkL_eq, pkB_eq, (b20 _ _ _ _ _ _ _ _ _ _ _ _ _ _ _ _ _ _ _ _ _).2]
  have := by8_nat pr 0
  simp only [Int.pow_zero, Int.ediv_one] at this
  omega
theorem pk_size (ttl pr fr to : Int) (rest : List UInt8) : (ofL (pkL ttl pr fr to rest)).size = 20 + rest.length := by
  rw [ofL_size, pkL_eq, pkB_eq]
  simp only [List.length_cons]
  omega
theorem pk_first (ttl pr fr to : Int) (rest : List UInt8) : ver (ofL (pkL ttl pr fr to rest)) = 4 ∧ ihl (ofL (pkL ttl pr fr to rest)) = 20 := by
  have h : 0 < (ofL (pkL ttl pr fr to rest)).size := by rw [pk_size]; omega
  unfold ver ihl
  rw [dif_pos h, dif_pos h, ofL_get]
  have : (pkL ttl pr fr to rest)[0]'(by rw [ofL_size] at h; exact h) = 69 := rfl
  rw [this]
  exact ⟨rfl, rfl⟩
/-- A packet that was made so is right. -/
theorem pk_right (ttl pr fr to : Int) (rest : List UInt8) (h : rest.length ≤ 500) : isRt (ofL (pkL ttl pr fr to rest)) = true := by
  unfold isRt
  rw [(pk_first ttl pr fr to rest).1, (pk_first ttl pr fr to rest).2, pk_size, w16_2 _ _ _ _ _ h, hsum_pk]
  simp
theorem pk_ports (ttl fr to : Int) (a b c d : UInt8) (rest : List UInt8) (h : rest.length ≤ 490) : pt0 (ofL (pkL ttl 17 fr to (a :: b :: c :: d :: rest))) = a.toNat * 256 + b.toNat ∧ pt1 (ofL (pkL ttl 17 fr to (a :: b :: c :: d :: rest))) = c.toNat * 256 + d.toNat := by
  have hp : hasPt (ofL (pkL ttl 17 fr to (a :: b :: c :: d :: rest))) = true := by
    unfold hasPt
    have h1 := pk_pr ttl 17 fr to (a :: b :: c :: d :: rest) (by omega)
    have h2 : b8 (ofL (pkL ttl 17 fr to (a :: b :: c :: d :: rest))) 9 = 17 := by omega
    rw [h2, w16_6, (pk_first ttl 17 fr to _).2, w16_2 _ _ _ _ _ (by simp only [List.length_cons]; omega)]
    simp
    omega
  unfold pt0 pt1
  rw [if_pos hp, if_pos hp, (pk_first ttl 17 fr to _).2]
  have hl : (hdL ttl 17 (a :: b :: c :: d :: rest).length ++ bL (csN ttl 17 fr to (a :: b :: c :: d :: rest).length) 2 ++ tlL fr to).length = 20 := by
    simp [hdL_length, tlL_length, bL_length]
  have e1 := wd (hdL ttl 17 (a :: b :: c :: d :: rest).length ++ bL (csN ttl 17 fr to (a :: b :: c :: d :: rest).length) 2 ++ tlL fr to) (c :: d :: rest) a b
  have e2 := wd (hdL ttl 17 (a :: b :: c :: d :: rest).length ++ bL (csN ttl 17 fr to (a :: b :: c :: d :: rest).length) 2 ++ tlL fr to ++ [a, b]) rest c d
  rw [hl] at e1
  rw [List.length_append, hl, List.append_assoc] at e2
  exact ⟨e1, e2⟩
end Go.Proofs.YtaejpejfmpbinaaGreatDoor

namespace Go.Proofs.YtaejpejfmpbinaaGreatDoor
open Go.RowKit
open Go.Sort (grow)

/-- A frame on its way with its packet. -/
def unpR (p : Pg) : Pg := if isRt p.f.rest then { p with pb := p.f.rest, ph := ihl p.f.rest, pt := w16 p.f.rest 2, right := true } else { p with pb := ⟨#[]⟩, ph := 0, pt := 0, right := false }
def unpP (p : Pg) : Pg := if kind2 p.f.ty == 2 then unpR p else p
theorem unpP_f (p : Pg) : (unpP p).f = p.f := by unfold unpP unpR; split <;> (try split) <;> rfl

theorem PgAt.setPk {w : World} {g : Nat} {p : Pg} {ov : Value} (h : PgAt w g p ov) (b : ByteArray) (i j : Int) (r : Bool) :
    PgAt ((((w.setCell ⟨g, 9, none⟩ (.string b)).setCell ⟨g, 10, none⟩ (.int .i64 i)).setCell ⟨g, 11, none⟩ (.int .i64 j)).setCell ⟨g, 12, none⟩ (.bool r)) g { p with pb := b, ph := i, pt := j, right := r } ov := by
  unfold PgAt at *
  have h2 := heap_setCell_same w g 9 _ _ (.string b) h
  have h3 := heap_setCell_same _ g 10 _ _ (.int .i64 i) h2
  have h4 := heap_setCell_same _ g 11 _ _ (.int .i64 j) h3
  have h5 := heap_setCell_same _ g 12 _ _ (.bool r) h4
  rw [h5]
  simp [pgCells]

set_option maxRecDepth 100000 in
set_option maxHeartbeats 1000000 in
theorem unpack_any (g : Nat) (p : Pg) (ov : Value) (w : World) (hg : PgAt w g p ov) (hm : Means w) (hs : p.f.rest.size ≤ 1000) :
    Calls Tryz.prog 26 #[.pointer (some ⟨g, 0, none⟩)] w fun e w' => e = .returned (.int .i64 (-1)) ∧ PgAt w' g (unpP p) ov ∧ OnlyG g w w' := by
  have C := isIPv4_any g p ov w hg hm
  cases hk : (kind2 p.f.ty == 2) with
  | false =>
    refine (unpackN_any g p ov w hg hm hk).mono ?_
    rintro e w1 ⟨rfl, hb⟩
    refine ⟨rfl, ?_, OnlyG.of_below hb⟩
    unfold unpP
    rw [hk]
    exact hg.below hb
  | true =>
    rw [hk] at C
    have HC := hide C
    have HG := hide hg
    have CR := hide fun (W : World) => pRead_any p.f.rest W hs
    have HU : Hid (unpP p = unpR p) := hide (by unfold unpP; rw [hk]; rfl)
    clear C hg hm hk
    cases hr : isRt p.f.rest with
    | true =>
      have hpk : pkOf p.f.rest = #[.string p.f.rest, .int .i64 (ihl p.f.rest), .int .i64 (w16 p.f.rest 2)] := by unfold pkOf; rw [hr]; rfl
      rw [hr, hpk] at CR
      have HR : Hid (unpR p = { p with pb := p.f.rest, ph := ihl p.f.rest, pt := w16 p.f.rest 2, right := true }) := hide (by unfold unpR; rw [hr]; rfl)
      clear hpk hr
      go_enter Tryz.func26, Tryz.ntmps26
      go_wp2_with fail
      refine HC.out.mono ?_
      rintro e w1 ⟨rfl, hb⟩
      have P1 := HG.out.below hb
      have g8 : w1.cell? ⟨g, 8, none⟩ = some (.string p.f.rest) := P1.cell rfl
      have HP1 := hide P1
      have HB1 := hide hb
      clear P1 hb HC
      go_wp2_with fail
      refine (CR.out _).mono ?_
      rintro e w2 ⟨rfl, hb⟩
      have P2 := HP1.out.below hb
      have hfz : ∀ i, w2.frozen? ⟨g, i, none⟩ = false := fun i => P2.frozen i
      have t9 : w2.cell? ⟨g, 9, none⟩ = some (.string p.pb) := P2.cell rfl
      have t10 : w2.cell? ⟨g, 10, none⟩ = some (.int .i64 p.ph) := P2.cell rfl
      have t11 : w2.cell? ⟨g, 11, none⟩ = some (.int .i64 p.pt) := P2.cell rfl
      have t12 : w2.cell? ⟨g, 12, none⟩ = some (.bool p.right) := P2.cell rfl
      have HO := hide ((((((OnlyG.of_below (g := g) (HB1.out.trans (hb.mono HB1.out.size))).set 9 (.string p.f.rest)).set 10 (.int .i64 (ihl p.f.rest)))).set 11 (.int .i64 (w16 p.f.rest 2))).set 12 (.bool true))
      have HF := hide (P2.setPk p.f.rest (ihl p.f.rest) (w16 p.f.rest 2) true)
      clear P2 hb CR g8
      go_wp2
      go_ret
      exact ⟨rfl, by rw [HU.out, HR.out]; exact HF.out, HO.out⟩
    | false =>
      have hpk : pkOf p.f.rest = #[.string ⟨#[]⟩, .int .i64 0, .int .i64 0] := by unfold pkOf; rw [hr]; rfl
      rw [hr, hpk] at CR
      have HR : Hid (unpR p = { p with pb := ⟨#[]⟩, ph := 0, pt := 0, right := false }) := hide (by unfold unpR; rw [hr]; rfl)
      clear hpk hr
      go_enter Tryz.func26, Tryz.ntmps26
      go_wp2_with fail
      refine HC.out.mono ?_
      rintro e w1 ⟨rfl, hb⟩
      have P1 := HG.out.below hb
      have g8 : w1.cell? ⟨g, 8, none⟩ = some (.string p.f.rest) := P1.cell rfl
      have HP1 := hide P1
      have HB1 := hide hb
      clear P1 hb HC
      go_wp2_with fail
      refine (CR.out _).mono ?_
      rintro e w2 ⟨rfl, hb⟩
      have P2 := HP1.out.below hb
      have hfz : ∀ i, w2.frozen? ⟨g, i, none⟩ = false := fun i => P2.frozen i
      have t9 : w2.cell? ⟨g, 9, none⟩ = some (.string p.pb) := P2.cell rfl
      have t10 : w2.cell? ⟨g, 10, none⟩ = some (.int .i64 p.ph) := P2.cell rfl
      have t11 : w2.cell? ⟨g, 11, none⟩ = some (.int .i64 p.pt) := P2.cell rfl
      have t12 : w2.cell? ⟨g, 12, none⟩ = some (.bool p.right) := P2.cell rfl
      have HO := hide ((((((OnlyG.of_below (g := g) (HB1.out.trans (hb.mono HB1.out.size))).set 9 (.string ⟨#[]⟩)).set 10 (.int .i64 0))).set 11 (.int .i64 0)).set 12 (.bool false))
      have HF := hide (P2.setPk ⟨#[]⟩ 0 0 false)
      clear P2 hb CR g8
      go_wp2
      go_ret
      exact ⟨rfl, by rw [HU.out, HR.out]; exact HF.out, HO.out⟩
end Go.Proofs.YtaejpejfmpbinaaGreatDoor

namespace Go.Proofs.YtaejpejfmpbinaaGreatDoor
open Go.RowKit
open Go.Sort (grow)
attribute [local go_sem] cell?_regrown

theorem MapF.below {w w' : World} {m : Nat} {sv : Value} {L : List Fc} (hm : MapF w m sv L) (hb : Below w.heap.size w w') : MapF w' m sv L :=
  ⟨(hb.cell (p := ⟨m, 0, none⟩) (block_lt_of_cell hm.1)).trans hm.1, (hb.cell (p := ⟨m, 1, none⟩) (block_lt_of_cell hm.2.1)).trans hm.2.1, ownsRow_keep hm.2.2.1 (fun g hg => hb.block g (hm.2.2.1.lt g hg).2), fun j => (hb.frozen (p := ⟨m, j, none⟩) (show m < w.heap.size from block_lt_of_cell hm.1)).trans (hm.2.2.2.1 j), hm.2.2.2.2⟩

/-- Whether a frame is for the face of its VLAN. -/
def forFace (L : List Fc) (p : Pg) : Bool := (faceOf L p.f.vlan).isSome && (p.f.to.toList == (faceS L p.f.vlan).toList)

set_option maxRecDepth 100000 in
set_option maxHeartbeats 1000000 in
theorem isForFace_any (s g m : Nat) (sv : Value) (L : List Fc) (p : Pg) (ov : Value) (w : World) (h1 : w.cell? ⟨s, 1, none⟩ = some (.pointer (some ⟨m, 0, none⟩))) (hF : MapF w m sv L) (hs : SortedF L) (hg : PgAt w g p ov) :
    Calls Tryz.prog 58 #[.pointer (some ⟨s, 0, none⟩), .pointer (some ⟨g, 0, none⟩)] w fun e w' => e = .returned (.bool (forFace L p)) ∧ Below w.heap.size w w' := by
  have CG := hide fun (d : Nat) (os : Array Obj) => getFc_any m sv L p.f.vlan (grow (redrawn w d) os) (hF.below (below_regrown w d os)) hs
  have g5 : w.cell? ⟨g, 5, none⟩ = some (.int .i64 p.f.vlan) := hg.cell rfl
  have g2 : w.cell? ⟨g, 2, none⟩ = some (.string p.f.to) := hg.cell rfl
  have hslt := block_lt_of_cell h1
  have hglt := hg.lt
  have HR : Hid (forFace L p = ((faceOf L p.f.vlan).isSome && (p.f.to.toList == (faceS L p.f.vlan).toList))) := hide rfl
  clear hF hg hs
  generalize (faceOf L p.f.vlan).isSome = fd at *
  generalize faceS L p.f.vlan = fs at *
  go_enter Tryz.func58, Tryz.ntmps58
  go_wp2
  refine wp_region_quiet_below (by kernel_rfl) (by kernel_rfl) ?_
  repeat (first | go_big_quiet_skip | quiet_step (exact Calls.regrown_of (CG.out _ _)))
  refine wpQuiet_nil ?_; intro wq hwq; replace hwq := below_of_regrown hwq; obtain ⟨hcq, hfq⟩ := bcell hwq; have hzq := hwq.size
  have q2 := cell_later hwq g2
  have HQ := hide hwq
  clear hcq hfq hwq CG g2 g5 h1
  cases fd with
  | false =>
    go_wp2
    go_ret
    exact ⟨by rw [HR.out]; rfl, HQ.out⟩
  | true =>
    go_wp2
    go_ret
    exact ⟨by rw [HR.out]; rfl, HQ.out⟩

set_option maxRecDepth 100000 in
set_option maxHeartbeats 1000000 in
/-- A frame that is for no face goes on. -/
theorem routeU_any (s g m : Nat) (sv : Value) (L : List Fc) (p : Pg) (ov : Value) (w : World) (h1 : w.cell? ⟨s, 1, none⟩ = some (.pointer (some ⟨m, 0, none⟩))) (hF : MapF w m sv L) (hs : SortedF L) (hg : PgAt w g p ov) (hm : Means w) (hk : forFace L p = false) :
    Calls Tryz.prog 28 #[.pointer (some ⟨s, 0, none⟩), .pointer (some ⟨g, 0, none⟩)] w fun e w' => e = .returned (.int .i64 (-1)) ∧ Below w.heap.size w w' := by
  have C := isIPv4_any g p ov w hg hm
  have CF := hide fun (W : World) (hb : Below w.heap.size w W) => isForFace_any s g m sv L p ov W ((hb.cell (p := ⟨s, 1, none⟩) (block_lt_of_cell h1)).trans h1) (hF.below hb) hs (hg.below hb)
  rw [hk] at CF
  have HC := hide C
  clear C hg hm hF hs h1 hk
  generalize (kind2 p.f.ty == 2) = kk at *
  cases kk with
  | false =>
    go_enter Tryz.func28, Tryz.ntmps28
    go_wp2_with fail
    refine HC.out.mono ?_
    rintro e w1 ⟨rfl, hb⟩
    go_wp2
    go_ret
    exact ⟨rfl, hb⟩
  | true =>
    go_enter Tryz.func28, Tryz.ntmps28
    go_wp2_with fail
    refine HC.out.mono ?_
    rintro e w1 ⟨rfl, hb⟩
    go_wp2_with fail
    refine (CF.out _ hb).mono ?_
    rintro e w2 ⟨rfl, hb2⟩
    go_wp2
    go_ret
    exact ⟨rfl, hb.trans (hb2.mono hb.size)⟩
end Go.Proofs.YtaejpejfmpbinaaGreatDoor
