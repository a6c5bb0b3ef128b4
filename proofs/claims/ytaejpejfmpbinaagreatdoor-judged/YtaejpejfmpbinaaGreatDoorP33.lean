import Derived.Test.YtaejpejfmpbinaaGreatDoorP32
import Derived.Test.YtaejpejfmpbinaaGreatDoorP24
import Derived.Test.YtaejpejfmpbinaaGreatDoorP31
namespace Go.Proofs.YtaejpejfmpbinaaGreatDoor
open Go.RowKit

theorem wd (xs ys : List UInt8) (x y : UInt8) : w16 (ofL (xs ++ x :: y :: ys)) xs.length = x.toNat * 256 + y.toNat := by
  have h : xs.length + 1 < (ofL (xs ++ x :: y :: ys)).size := by rw [ofL_size]; simp
  unfold w16
  rw [dif_pos h, ofL_get, ofL_get]
  simp
theorem bd (xs ys : List UInt8) (x : UInt8) : b8 (ofL (xs ++ x :: ys)) xs.length = x.toNat := by
  have h : xs.length < (ofL (xs ++ x :: ys)).size := by rw [ofL_size]; simp
  unfold b8
  rw [dif_pos h, ofL_get]
  simp
theorem w20 (x0 x1 x2 x3 x4 x5 x6 x7 x8 x9 x10 x11 x12 x13 x14 x15 x16 x17 x18 x19 : UInt8) (r : List UInt8) :
    w16 (ofL (x0 :: x1 :: x2 :: x3 :: x4 :: x5 :: x6 :: x7 :: x8 :: x9 :: x10 :: x11 :: x12 :: x13 :: x14 :: x15 :: x16 :: x17 :: x18 :: x19 :: r)) 0 = x0.toNat * 256 + x1.toNat ∧ w16 (ofL (x0 :: x1 :: x2 :: x3 :: x4 :: x5 :: x6 :: x7 :: x8 :: x9 :: x10 :: x11 :: x12 :: x13 :: x14 :: x15 :: x16 :: x17 :: x18 :: x19 :: r)) 2 = x2.toNat * 256 + x3.toNat ∧ w16 (ofL (x0 :: x1 :: x2 :: x3 :: x4 :: x5 :: x6 :: x7 :: x8 :: x9 :: x10 :: x11 :: x12 :: x13 :: x14 :: x15 :: x16 :: x17 :: x18 :: x19 :: r)) 4 = x4.toNat * 256 + x5.toNat ∧ w16 (ofL (x0 :: x1 :: x2 :: x3 :: x4 :: x5 :: x6 :: x7 :: x8 :: x9 :: x10 :: x11 :: x12 :: x13 :: x14 :: x15 :: x16 :: x17 :: x18 :: x19 :: r)) 6 = x6.toNat * 256 + x7.toNat ∧ w16 (ofL (x0 :: x1 :: x2 :: x3 :: x4 :: x5 :: x6 :: x7 :: x8 :: x9 :: x10 :: x11 :: x12 :: x13 :: x14 :: x15 :: x16 :: x17 :: x18 :: x19 :: r)) 8 = x8.toNat * 256 + x9.toNat ∧ w16 (ofL (x0 :: x1 :: x2 :: x3 :: x4 :: x5 :: x6 :: x7 :: x8 :: x9 :: x10 :: x11 :: x12 :: x13 :: x14 :: x15 :: x16 :: x17 :: x18 :: x19 :: r)) 10 = x10.toNat * 256 + x11.toNat ∧ w16 (ofL (x0 :: x1 :: x2 :: x3 :: x4 :: x5 :: x6 :: x7 :: x8 :: x9 :: x10 :: x11 :: x12 :: x13 :: x14 :: x15 :: x16 :: x17 :: x18 :: x19 :: r)) 12 = x12.toNat * 256 + x13.toNat ∧ w16 (ofL (x0 :: x1 :: x2 :: x3 :: x4 :: x5 :: x6 :: x7 :: x8 :: x9 :: x10 :: x11 :: x12 :: x13 :: x14 :: x15 :: x16 :: x17 :: x18 :: x19 :: r)) 14 = x14.toNat * 256 + x15.toNat ∧ w16 (ofL (x0 :: x1 :: x2 :: x3 :: x4 :: x5 :: x6 :: x7 :: x8 :: x9 :: x10 :: x11 :: x12 :: x13 :: x14 :: x15 :: x16 :: x17 :: x18 :: x19 :: r)) 16 = x16.toNat * 256 + x17.toNat ∧ w16 (ofL (x0 :: x1 :: x2 :: x3 :: x4 :: x5 :: x6 :: x7 :: x8 :: x9 :: x10 :: x11 :: x12 :: x13 :: x14 :: x15 :: x16 :: x17 :: x18 :: x19 :: r)) 18 = x18.toNat * 256 + x19.toNat :=
  ⟨wd [] _ _ _, wd [x0, x1] _ _ _, wd [x0, x1, x2, x3] _ _ _, wd [x0, x1, x2, x3, x4, x5] _ _ _, wd [x0, x1, x2, x3, x4, x5, x6, x7] _ _ _, wd [x0, x1, x2, x3, x4, x5, x6, x7, x8, x9] _ _ _, wd [x0, x1, x2, x3, x4, x5, x6, x7, x8, x9, x10, x11] _ _ _, wd [x0, x1, x2, x3, x4, x5, x6, x7, x8, x9, x10, x11, x12, x13] _ _ _, wd [x0, x1, x2, x3, x4, x5, x6, x7, x8, x9, x10, x11, x12, x13, x14, x15] _ _ _, wd [x0, x1, x2, x3, x4, x5, x6, x7, x8, x9, x10, x11, x12, x13, x14, x15, x16, x17] _ _ _⟩
theorem b20 (x0 x1 x2 x3 x4 x5 x6 x7 x8 x9 x10 x11 x12 x13 x14 x15 x16 x17 x18 x19 : UInt8) (r : List UInt8) : b8 (ofL (x0 :: x1 :: x2 :: x3 :: x4 :: x5 :: x6 :: x7 :: x8 :: x9 :: x10 :: x11 :: x12 :: x13 :: x14 :: x15 :: x16 :: x17 :: x18 :: x19 :: r)) 8 = x8.toNat ∧ b8 (ofL (x0 :: x1 :: x2 :: x3 :: x4 :: x5 :: x6 :: x7 :: x8 :: x9 :: x10 :: x11 :: x12 :: x13 :: x14 :: x15 :: x16 :: x17 :: x18 :: x19 :: r)) 9 = x9.toNat := ⟨bd [x0, x1, x2, x3, x4, x5, x6, x7] _ _, bd [x0, x1, x2, x3, x4, x5, x6, x7, x8] _ _⟩
theorem ones_mod {x y : Nat} (_hx : x ≤ 65535) (_hy : y ≤ 65535) : ones x y % 65535 = (x + y) % 65535 := by unfold ones; omega
theorem ones_pos {x y : Nat} (h : 0 < x ∨ 0 < y) : 0 < ones x y := by unfold ones; omega
/-- The plain sum of the first words. -/
def wsum (b : ByteArray) : Nat → Nat
  | 0 => 0
  | k + 1 => wsum b k + w16 b (2 * k)
theorem hsum_mod (b : ByteArray) : ∀ k, hsum b k % 65535 = wsum b k % 65535
  | 0 => rfl
  | k + 1 => by
    have h1 := ones_mod (hsum_le b k) (show w16 b (2 * k) ≤ 65535 by have := w16_lt b (2 * k); omega)
    have h2 := hsum_mod b k
    show ones (hsum b k) (w16 b (2 * k)) % 65535 = (wsum b k + w16 b (2 * k)) % 65535
    omega
theorem hsum_pos (b : ByteArray) (h : 0 < w16 b 0) : ∀ k, 0 < hsum b (k + 1)
  | 0 => ones_pos (.inr h)
  | k + 1 => ones_pos (.inl (hsum_pos b h k))

/-- The bytes of a packet with these two for its sum. -/
def pkB (ttl pr fr to : Int) (len : Nat) (c1 c0 : UInt8) (rest : List UInt8) : List UInt8 := hdL ttl pr len ++ [c1, c0] ++ tlL fr to ++ rest
def by8 (n : Int) (i : Nat) : UInt8 := UInt8.ofNat (n / 256 ^ i % 256).toNat
theorem pkB_eq (ttl pr fr to : Int) (len : Nat) (c1 c0 : UInt8) (rest : List UInt8) : pkB ttl pr fr to len c1 c0 rest = 69 :: 0 :: by8 (20 + len) 1 :: by8 (20 + len) 0 :: 0 :: 0 :: 0 :: 0 :: by8 ttl 0 :: by8 pr 0 :: c1 :: c0 :: by8 fr 3 :: by8 fr 2 :: by8 fr 1 :: by8 fr 0 :: by8 to 3 :: by8 to 2 :: by8 to 1 :: by8 to 0 :: rest := rfl
theorem by8_nat (n : Int) (i : Nat) : ((by8 n i).toNat : Int) = n / 256 ^ i % 256 := by
  unfold by8
  have h0 : 0 ≤ n / 256 ^ i % 256 := Int.emod_nonneg _ (by omega)
  have h1 : n / 256 ^ i % 256 < 256 := Int.emod_lt_of_pos _ (by omega)
  simp only [UInt8.toNat_ofNat']
  omega
theorem two8 {n : Int} (h : 0 ≤ n ∧ n < 65536) : (((by8 n 1).toNat * 256 + (by8 n 0).toNat : Nat) : Int) = n := by
  have h1 := by8_nat n 1
  have h0 := by8_nat n 0
  simp only [Int.pow_zero, Int.ediv_one, Int.pow_succ] at h0 h1
  omega
theorem four8 {n : Int} (h : 0 ≤ n ∧ n < 4294967296) : ((((by8 n 3).toNat * 256 + (by8 n 2).toNat) * 65536 + ((by8 n 1).toNat * 256 + (by8 n 0).toNat) : Nat) : Int) = n := by
  have h3 := by8_nat n 3
  have h2 := by8_nat n 2
  have h1 := by8_nat n 1
  have h0 := by8_nat n 0
  simp only [Int.pow_zero, Int.ediv_one, Int.pow_succ] at h0 h1 h2 h3
  omega
/-- The sum of a packet's other words. -/
def wOth (ttl pr fr to : Int) (len : Nat) : Nat := 69 * 256 + ((by8 (20 + len) 1).toNat * 256 + (by8 (20 + len) 0).toNat) + ((by8 ttl 0).toNat * 256 + (by8 pr 0).toNat) + ((by8 fr 3).toNat * 256 + (by8 fr 2).toNat) + ((by8 fr 1).toNat * 256 + (by8 fr 0).toNat) + ((by8 to 3).toNat * 256 + (by8 to 2).toNat) + ((by8 to 1).toNat * 256 + (by8 to 0).toNat)
theorem wsum_pk (ttl pr fr to : Int) (len : Nat) (c1 c0 : UInt8) (rest : List UInt8) : wsum (ofL (pkB ttl pr fr to len c1 c0 rest)) 10 = wOth ttl pr fr to len + (c1.toNat * 256 + c0.toNat) := by
  rw [pkB_eq]
  simp only [wsum]
  obtain ⟨e0, e1, e2, e3, e4, e5, e6, e7, e8, e9⟩ := w20 69 0 (by8 (20 + len) 1) (by8 (20 + len) 0) 0 0 0 0 (by8 ttl 0) (by8 pr 0) c1 c0 (by8 fr 3) (by8 fr 2) (by8 fr 1) (by8 fr 0) (by8 to 3) (by8 to 2) (by8 to 1) (by8 to 0) rest
  rw [Nat.mul_zero, show 2 * 1 = 2 from rfl, show 2 * 2 = 4 from rfl, show 2 * 3 = 6 from rfl, show 2 * 4 = 8 from rfl, show 2 * 5 = 10 from rfl, show 2 * 6 = 12 from rfl, show 2 * 7 = 14 from rfl, show 2 * 8 = 16 from rfl, show 2 * 9 = 18 from rfl, e0, e1, e2, e3, e4, e5, e6, e7, e8, e9]
  unfold wOth
  simp only [show (69 : UInt8).toNat = 69 from rfl, show (0 : UInt8).toNat = 0 from rfl]
  omega
theorem pkL_eq (ttl pr fr to : Int) (rest : List UInt8) : pkL ttl pr fr to rest = pkB ttl pr fr to rest.length (by8 (csN ttl pr fr to rest.length) 1) (by8 (csN ttl pr fr to rest.length) 0) rest := rfl
/-- A packet's sum is right. -/
theorem hsum_pk (ttl pr fr to : Int) (rest : List UInt8) : hsum (ofL (pkL ttl pr fr to rest)) 10 = 65535 := by
  have h0 : csN ttl pr fr to rest.length = 65535 - hsum (ofL (pkB ttl pr fr to rest.length 0 0 [])) 10 := by
    unfold csN pkB
    rw [List.append_nil]
  have h1 := hsum_mod (ofL (pkB ttl pr fr to rest.length 0 0 [])) 10
  rw [wsum_pk] at h1
  have h2 := hsum_le (ofL (pkB ttl pr fr to rest.length 0 0 [])) 10
  generalize hsum (ofL (pkB ttl pr fr to rest.length 0 0 [])) 10 = S at h0 h1 h2
  have h3 := hsum_mod (ofL (pkL ttl pr fr to rest)) 10
  rw [pkL_eq, wsum_pk] at h3
  have h4 := two8 (n := (csN ttl pr fr to rest.length : Nat)) (by omega)
  have h5 : 0 < hsum (ofL (pkL ttl pr fr to rest)) 10 := by
    refine hsum_pos _ ?_ 9
    rw [pkL_eq, pkB_eq, (w20 _ _ _ _ _ _ _ _ _ _ _ _ _ _ _ _ _ _ _ _ _).1]
    simp only [show (69 : UInt8).toNat = 69 from rfl]
    omega
  have h6 := hsum_le (ofL (pkL ttl pr fr to rest)) 10
  rw [pkL_eq] at h5 h6 ⊢
  simp only [show (0 : UInt8).toNat = 0 from rfl] at h1
  omega
theorem w16_6 (ttl pr fr to : Int) (rest : List UInt8) : w16 (ofL (pkL ttl pr fr to rest)) 6 = 0 := by
  rw [pkL_eq, pkB_eq, (w20 _ _ _ _ _ _ _ _ _ _ _ _ _ _ _ _ _ _ _ _ _).2.2.2.1]
  rfl
theorem w16_2 (ttl pr fr to : Int) (rest : List UInt8) (h : rest.length ≤ 500) : w16 (ofL (pkL ttl pr fr to rest)) 2 = 20 + rest.length := by
  rw [pkL_eq, pkB_eq, (w20 _ _ _ _ _ _ _ _ _ _ _ _ _ _ _ _ _ _ _ _ _).2.1]
  have := two8 (n := 20 + (rest.length : Int)) (by omega)
  omega
theorem pk_from (ttl pr fr to : Int) (rest : List UInt8) (h : 0 ≤ fr ∧ fr < 4294967296) : (a32 (ofL (pkL ttl pr fr to rest)) 12 : Int) = fr := by
  unfold a32
  rw [pkL_eq, pkB_eq, (w20 _ _ _ _ _ _ _ _ _ _ _ _ _ _ _ _ _ _ _ _ _).2.2.2.2.2.2.1, (w20 _ _ _ _ _ _ _ _ _ _ _ _ _ _ _ _ _ _ _ _ _).2.2.2.2.2.2.2.1]
  exact four8 h
theorem pk_to (ttl pr fr to : Int) (rest : List UInt8) (h : 0 ≤ to ∧ to < 4294967296) : (a32 (ofL (pkL ttl pr fr to rest)) 16 : Int) = to := by
  unfold a32
  rw [pkL_eq, pkB_eq, (w20 _ _ _ _ _ _ _ _ _ _ _ _ _ _ _ _ _ _ _ _ _).2.2.2.2.2.2.2.2.1, (w20 _ _ _ _ _ _ _ _ _ _ _ _ _ _ _ _ _ _ _ _ _).2.2.2.2.2.2.2.2.2]
  exact four8 h
theorem pk_ttl (ttl pr fr to : Int) (rest : List UInt8) (h : 0 ≤ ttl ∧ ttl < 256) : (b8 (ofL (pkL ttl pr fr to rest)) 8 : Int) = ttl := by
  rw [pkL_eq, pkB_eq, (b20 _ _ _ _ _ _ _ _ _ _ _ _ _ _ _ _ _ _ _ _ _).1]
  have := by8_nat ttl 0
  simp only [Int.pow_zero, Int.ediv_one] at this
  omega
theorem pk_pr (ttl pr fr to : Int) (rest : List UInt8) (h : 0 ≤ pr ∧ pr < 256) : (b8 (ofL (pkL ttl pr fr to rest)) 9 : Int) = pr := by
  rw [pkL_eq, pkB_eq, (b20 _ _ _ _ _ _ _ _ _ _ _ _ _ _ _ _ _ _ _ _ _).2]
  have := by8_nat pr 0
  simp only [Int.pow_zero, Int.ediv_one] at this
  omega
theorem pk_size (ttl pr fr to : Int) (rest : List UInt8) : (ofL (pkL ttl pr fr to rest)).size = 20 + rest.length := by
  rw [ofL_size, pkL_eq, pkB_eq]
  simp only [List.length_cons]
  omega
theorem pk_first (ttl pr fr to : Int) (rest : List UInt8) : ver (ofL (pkL ttl pr fr to rest)) = 4 ∧ ihl (ofL (pkL ttl pr fr to rest)) = 20 := by
  have h : 0 < (ofL (pkL ttl pr fr to rest)).size := by rw [pk_size]; omega
  unfold ver ihl
  rw [dif_pos h, dif_pos h, ofL_get]
  have : (pkL ttl pr fr to rest)[0]'(by rw [ofL_size] at h; exact h) = 69 := rfl
  rw [this]
  exact ⟨rfl, rfl⟩
/-- A packet that was made so is right. -/
theorem pk_right (ttl pr fr to : Int) (rest : List UInt8) (h : rest.length ≤ 500) : isRt (ofL (pkL ttl pr fr to rest)) = true := by
  unfold isRt
  rw [(pk_first ttl pr fr to rest).1, (pk_first ttl pr fr to rest).2, pk_size, w16_2 _ _ _ _ _ h, hsum_pk]
  simp
theorem pk_ports (ttl fr to : Int) (a b c d : UInt8) (rest : List UInt8) (h : rest.length ≤ 490) : pt0 (ofL (pkL ttl 17 fr to (a :: b :: c :: d :: rest))) = a.toNat * 256 + b.toNat ∧ pt1 (ofL (pkL ttl 17 fr to (a :: b :: c :: d :: rest))) = c.toNat * 256 + d.toNat := by
  have hp : hasPt (ofL (pkL ttl 17 fr to (a :: b :: c :: d :: rest))) = true := by
    unfold hasPt
    have h1 := pk_pr ttl 17 fr to (a :: b :: c :: d :: rest) (by omega)
    have h2 : b8 (ofL (pkL ttl 17 fr to (a :: b :: c :: d :: rest))) 9 = 17 := by omega
    rw [h2, w16_6, (pk_first ttl 17 fr to _).2, w16_2 _ _ _ _ _ (by simp only [List.length_cons]; omega)]
    simp
    omega
  unfold pt0 pt1
  rw [if_pos hp, if_pos hp, (pk_first ttl 17 fr to _).2]
  have hl : (hdL ttl 17 (a :: b :: c :: d :: rest).length ++ bL (csN ttl 17 fr to (a :: b :: c :: d :: rest).length) 2 ++ tlL fr to).length = 20 := by
    simp [hdL_length, tlL_length, bL_length]
  have e1 := wd (hdL ttl 17 (a :: b :: c :: d :: rest).length ++ bL (csN ttl 17 fr to (a :: b :: c :: d :: rest).length) 2 ++ tlL fr to) (c :: d :: rest) a b
  have e2 := wd (hdL ttl 17 (a :: b :: c :: d :: rest).length ++ bL (csN ttl 17 fr to (a :: b :: c :: d :: rest).length) 2 ++ tlL fr to ++ [a, b]) rest c d
  rw [hl] at e1
  rw [List.length_append, hl, List.append_assoc] at e2
  exact ⟨e1, e2⟩
end Go.Proofs.YtaejpejfmpbinaaGreatDoor

namespace Go.Proofs.YtaejpejfmpbinaaGreatDoor
open Go.RowKit
open Go.Sort (grow)

/-- A frame on its way with its packet. -/
def unpR (p : Pg) : Pg := if isRt p.f.rest then { p with pb := p.f.rest, ph := ihl p.f.rest, pt := w16 p.f.rest 2, right := true } else { p with pb := ⟨#[]⟩, ph := 0, pt := 0, right := false }
def unpP (p : Pg) : Pg := if kind2 p.f.ty == 2 then unpR p else p
theorem unpP_f (p : Pg) : (unpP p).f = p.f := by unfold unpP unpR; split <;> (try split) <;> rfl

theorem PgAt.setPk {w : World} {g : Nat} {p : Pg} {ov : Value} (h : PgAt w g p ov) (b : ByteArray) (i j : Int) (r : Bool) :
    PgAt ((((w.setCell ⟨g, 9, none⟩ (.string b)).setCell ⟨g, 10, none⟩ (.int .i64 i)).setCell ⟨g, 11, none⟩ (.int .i64 j)).setCell ⟨g, 12, none⟩ (.bool r)) g { p with pb := b, ph := i, pt := j, right := r } ov := by
  unfold PgAt at *
  have h2 := heap_setCell_same w g 9 _ _ (.string b) h
  have h3 := heap_setCell_same _ g 10 _ _ (.int .i64 i) h2
  have h4 := heap_setCell_same _ g 11 _ _ (.int .i64 j) h3
  have h5 := heap_setCell_same _ g 12 _ _ (.bool r) h4
  rw [h5]
  simp [pgCells]

set_option maxRecDepth 100000 in
set_option maxHeartbeats 1000000 in
theorem unpack_any (g : Nat) (p : Pg) (ov : Value) (w : World) (hg : PgAt w g p ov) (hm : Means w) (hs : p.f.rest.size ≤ 1000) :
    Calls Tryz.prog 26 #[.pointer (some ⟨g, 0, none⟩)] w fun e w' => e = .returned (.int .i64 (-1)) ∧ PgAt w' g (unpP p) ov ∧ OnlyG g w w' := by
  have C := isIPv4_any g p ov w hg hm
  cases hk : (kind2 p.f.ty == 2) with
  | false =>
    refine (unpackN_any g p ov w hg hm hk).mono ?_
    rintro e w1 ⟨rfl, hb⟩
    refine ⟨rfl, ?_, OnlyG.of_below hb⟩
    unfold unpP
    rw [hk]
    exact hg.below hb
  | true =>
    rw [hk] at C
    have HC := hide C
    have HG := hide hg
    have CR := hide fun (W : World) => pRead_any p.f.rest W hs
    have HU : Hid (unpP p = unpR p) := hide (by unfold unpP; rw [hk]; rfl)
    clear C hg hm hk
    cases hr : isRt p.f.rest with
    | true =>
      have hpk : pkOf p.f.rest = #[.string p.f.rest, .int .i64 (ihl p.f.rest), .int .i64 (w16 p.f.rest 2)] := by unfold pkOf; rw [hr]; rfl
      rw [hr, hpk] at CR
      have HR : Hid (unpR p = { p with pb := p.f.rest, ph := ihl p.f.rest, pt := w16 p.f.rest 2, right := true }) := hide (by unfold unpR; rw [hr]; rfl)
      clear hpk hr
      go_enter Tryz.func26, Tryz.ntmps26
      go_wp2_with fail
      refine HC.out.mono ?_
      rintro e w1 ⟨rfl, hb⟩
      have P1 := HG.out.below hb
      have g8 : w1.cell? ⟨g, 8, none⟩ = some (.string p.f.rest) := P1.cell rfl
      have HP1 := hide P1
      have HB1 := hide hb
      clear P1 hb HC
      go_wp2_with fail
      refine (CR.out _).mono ?_
      rintro e w2 ⟨rfl, hb⟩
      have P2 := HP1.out.below hb
      have hfz : ∀ i, w2.frozen? ⟨g, i, none⟩ = false := fun i => P2.frozen i
      have t9 : w2.cell? ⟨g, 9, none⟩ = some (.string p.pb) := P2.cell rfl
      have t10 : w2.cell? ⟨g, 10, none⟩ = some (.int .i64 p.ph) := P2.cell rfl
      have t11 : w2.cell? ⟨g, 11, none⟩ = some (.int .i64 p.pt) := P2.cell rfl
      have t12 : w2.cell? ⟨g, 12, none⟩ = some (.bool p.right) := P2.cell rfl
      have HO := hide ((((((OnlyG.of_below (g := g) (HB1.out.trans (hb.mono HB1.out.size))).set 9 (.string p.f.rest)).set 10 (.int .i64 (ihl p.f.rest)))).set 11 (.int .i64 (w16 p.f.rest 2))).set 12 (.bool true))
      have HF := hide (P2.setPk p.f.rest (ihl p.f.rest) (w16 p.f.rest 2) true)
      clear P2 hb CR g8
      go_wp2
      go_ret
      exact ⟨rfl, by rw [HU.out, HR.out]; exact HF.out, HO.out⟩
    | false =>
      have hpk : pkOf p.f.rest = #[.string ⟨#[]⟩, .int .i64 0, .int .i64 0] := by unfold pkOf; rw [hr]; rfl
      rw [hr, hpk] at CR
      have HR : Hid (unpR p = { p with pb := ⟨#[]⟩, ph := 0, pt := 0, right := false }) := hide (by unfold unpR; rw [hr]; rfl)
      clear hpk hr
      go_enter Tryz.func26, Tryz.ntmps26
      go_wp2_with fail
      refine HC.out.mono ?_
      rintro e w1 ⟨rfl, hb⟩
      have P1 := HG.out.below hb
      have g8 : w1.cell? ⟨g, 8, none⟩ = some (.string p.f.rest) := P1.cell rfl
      have HP1 := hide P1
      have HB1 := hide hb
      clear P1 hb HC
      go_wp2_with fail
      refine (CR.out _).mono ?_
      rintro e w2 ⟨rfl, hb⟩
      have P2 := HP1.out.below hb
      have hfz : ∀ i, w2.frozen? ⟨g, i, none⟩ = false := fun i => P2.frozen i
      have t9 : w2.cell? ⟨g, 9, none⟩ = some (.string p.pb) := P2.cell rfl
      have t10 : w2.cell? ⟨g, 10, none⟩ = some (.int .i64 p.ph) := P2.cell rfl
      have t11 : w2.cell? ⟨g, 11, none⟩ = some (.int .i64 p.pt) := P2.cell rfl
      have t12 : w2.cell? ⟨g, 12, none⟩ = some (.bool p.right) := P2.cell rfl
      have HO := hide ((((((OnlyG.of_below (g := g) (HB1.out.trans (hb.mono HB1.out.size))).set 9 (.string ⟨#[]⟩)).set 10 (.int .i64 0))).set 11 (.int .i64 0)).set 12 (.bool false))
      have HF := hide (P2.setPk ⟨#[]⟩ 0 0 false)
      clear P2 hb CR g8
      go_wp2
      go_ret
      exact ⟨rfl, by rw [HU.out, HR.out]; exact HF.out, HO.out⟩
end Go.Proofs.YtaejpejfmpbinaaGreatDoor

namespace Go.Proofs.YtaejpejfmpbinaaGreatDoor
open Go.RowKit
open Go.Sort (grow)
attribute [local go_sem] cell?_regrown

theorem MapF.below {w w' : World} {m : Nat} {sv : Value} {L : List Fc} (hm : MapF w m sv L) (hb : Below w.heap.size w w') : MapF w' m sv L :=
  ⟨(hb.cell (p := ⟨m, 0, none⟩) (block_lt_of_cell hm.1)).trans hm.1, (hb.cell (p := ⟨m, 1, none⟩) (block_lt_of_cell hm.2.1)).trans hm.2.1, ownsRow_keep hm.2.2.1 (fun g hg => hb.block g (hm.2.2.1.lt g hg).2), fun j => (hb.frozen (p := ⟨m, j, none⟩) (show m < w.heap.size from block_lt_of_cell hm.1)).trans (hm.2.2.2.1 j), hm.2.2.2.2⟩

/-- Whether a frame is for the face of its VLAN. -/
def forFace (L : List Fc) (p : Pg) : Bool := (faceOf L p.f.vlan).isSome && (p.f.to.toList == (faceS L p.f.vlan).toList)

set_option maxRecDepth 100000 in
set_option maxHeartbeats 1000000 in
theorem isForFace_any (s g m : Nat) (sv : Value) (L : List Fc) (p : Pg) (ov : Value) (w : World) (h1 : w.cell? ⟨s, 1, none⟩ = some (.pointer (some ⟨m, 0, none⟩))) (hF : MapF w m sv L) (hs : SortedF L) (hg : PgAt w g p ov) :
    Calls Tryz.prog 58 #[.pointer (some ⟨s, 0, none⟩), .pointer (some ⟨g, 0, none⟩)] w fun e w' => e = .returned (.bool (forFace L p)) ∧ Below w.heap.size w w' := by
  have CG := hide fun (d : Nat) (os : Array Obj) => getFc_any m sv L p.f.vlan (grow (redrawn w d) os) (hF.below (below_regrown w d os)) hs
  have g5 : w.cell? ⟨g, 5, none⟩ = some (.int .i64 p.f.vlan) := hg.cell rfl
  have g2 : w.cell? ⟨g, 2, none⟩ = some (.string p.f.to) := hg.cell rfl
  have hslt := block_lt_of_cell h1
  have hglt := hg.lt
  have HR : Hid (forFace L p = ((faceOf L p.f.vlan).isSome && (p.f.to.toList == (faceS L p.f.vlan).toList))) := hide rfl
  clear hF hg hs
  generalize (faceOf L p.f.vlan).isSome = fd at *
  generalize faceS L p.f.vlan = fs at *
  go_enter Tryz.func58, Tryz.ntmps58
  go_wp2
  refine wp_region_quiet_below (by kernel_rfl) (by kernel_rfl) ?_
  repeat (first | go_big_quiet_skip | quiet_step (exact Calls.regrown_of (CG.out _ _)))
  refine wpQuiet_nil ?_; intro wq hwq; replace hwq := below_of_regrown hwq; obtain ⟨hcq, hfq⟩ := bcell hwq; have hzq := hwq.size
  have q2 := cell_later hwq g2
  have HQ := hide hwq
  clear hcq hfq hwq CG g2 g5 h1
  cases fd with
  | false =>
    go_wp2
    go_ret
    exact ⟨by rw [HR.out]; rfl, HQ.out⟩
  | true =>
    go_wp2
    go_ret
    exact ⟨by rw [HR.out]; rfl, HQ.out⟩

set_option maxRecDepth 100000 in
set_option maxHeartbeats 1000000 in
/-- A frame that is for no face goes on. -/
theorem routeU_any (s g m : Nat) (sv : Value) (L : List Fc) (p : Pg) (ov : Value) (w : World) (h1 : w.cell? ⟨s, 1, none⟩ = some (.pointer (some ⟨m, 0, none⟩))) (hF : MapF w m sv L) (hs : SortedF L) (hg : PgAt w g p ov) (hm : Means w) (hk : forFace L p = false) :
    Calls Tryz.prog 28 #[.pointer (some ⟨s, 0, none⟩), .pointer (some ⟨g, 0, none⟩)] w fun e w' => e = .returned (.int .i64 (-1)) ∧ Below w.heap.size w w' := by
  have C := isIPv4_any g p ov w hg hm
  have CF := hide fun (W : World) (hb : Below w.heap.size w W) => isForFace_any s g m sv L p ov W ((hb.cell (p := ⟨s, 1, none⟩) (block_lt_of_cell h1)).trans h1) (hF.below hb) hs (hg.below hb)
  rw [hk] at CF
  have HC := hide C
  clear C hg hm hF hs h1 hk
  generalize (kind2 p.f.ty == 2) = kk at *
  cases kk with
  | false =>
    go_enter Tryz.func28, Tryz.ntmps28
    go_wp2_with fail
    refine HC.out.mono ?_
    rintro e w1 ⟨rfl, hb⟩
    go_wp2
    go_ret
    exact ⟨rfl, hb⟩
  | true =>
    go_enter Tryz.func28, Tryz.ntmps28
    go_wp2_with fail
    refine HC.out.mono ?_
    rintro e w1 ⟨rfl, hb⟩
    go_wp2_with fail
    refine (CF.out _ hb).mono ?_
    rintro e w2 ⟨rfl, hb2⟩
    go_wp2
    go_ret
    exact ⟨rfl, hb.trans (hb2.mono hb.size)⟩
end Go.Proofs.YtaejpejfmpbinaaGreatDoor
