import Derived.Test.YtaejpejfmpbinaaGreatDoorP26
import Derived.Test.YtaejpejfmpbinaaGreatDoorP33
namespace Go.Proofs.YtaejpejfmpbinaaGreatDoor
open Go.RowKit

/-- The number that stands for the sum one hop on. -/
def hopS (ttl pr fr to : Int) (len : Nat) : Nat := ones (csN ttl pr fr to len) 256
/-- The bytes of a packet one hop on. -/
def hopL (ttl pr fr to : Int) (rest : List UInt8) : List UInt8 := pkB (ttl - 1) pr fr to rest.length (by8 (hopS ttl pr fr to rest.length) 1) (by8 (hopS ttl pr fr to rest.length) 0) rest
theorem csN_le (ttl pr fr to : Int) (len : Nat) : csN ttl pr fr to len ≤ 65535 := by unfold csN; omega
/-- A packet is right again one hop on. -/
theorem hop_sum (ttl pr fr to : Int) (rest : List UInt8) (ht : 1 ≤ ttl ∧ ttl < 256) : hsum (ofL (hopL ttl pr fr to rest)) 10 = 65535 := by
  have h1 := hsum_mod (ofL (pkL ttl pr fr to rest)) 10
  rw [hsum_pk, pkL_eq, wsum_pk] at h1
  have hc := csN_le ttl pr fr to rest.length
  have h2 := two8 (n := (csN ttl pr fr to rest.length : Nat)) (by omega)
  have hs : hopS ttl pr fr to rest.length ≤ 65535 := ones_le hc (by omega)
  have h3 := two8 (n := (hopS ttl pr fr to rest.length : Nat)) (by omega)
  have h4 := hsum_mod (ofL (hopL ttl pr fr to rest)) 10
  have h5 : wsum (ofL (hopL ttl pr fr to rest)) 10 = _ := wsum_pk (ttl - 1) pr fr to rest.length _ _ rest
  rw [h5] at h4
  have h6 : 0 < hsum (ofL (hopL ttl pr fr to rest)) 10 := by
    refine hsum_pos _ ?_ 9
    show 0 < w16 (ofL (pkB (ttl - 1) pr fr to rest.length _ _ rest)) 0
    rw [pkB_eq, (w20 _ _ _ _ _ _ _ _ _ _ _ _ _ _ _ _ _ _ _ _ _).1]
    simp only [show (69 : UInt8).toNat = 69 from rfl]
    omega
  have h7 := hsum_le (ofL (hopL ttl pr fr to rest)) 10
  have h8 : hopS ttl pr fr to rest.length % 65535 = (csN ttl pr fr to rest.length + 256) % 65535 := ones_mod hc (by omega)
  have t0 := by8_nat ttl 0
  have t1 := by8_nat (ttl - 1) 0
  simp only [Int.pow_zero, Int.ediv_one] at t0 t1
  have h9 : wOth ttl pr fr to rest.length = wOth (ttl - 1) pr fr to rest.length + 256 := by
    unfold wOth
    have e0 : (by8 ttl 0).toNat = (by8 (ttl - 1) 0).toNat + 1 := by omega
    rw [e0]
    omega
  omega
theorem hop_eq (ttl pr fr to : Int) (rest : List UInt8) : hopL ttl pr fr to rest = 69 :: 0 :: by8 (20 + rest.length) 1 :: by8 (20 + rest.length) 0 :: 0 :: 0 :: 0 :: 0 :: by8 (ttl - 1) 0 :: by8 pr 0 :: by8 (hopS ttl pr fr to rest.length) 1 :: by8 (hopS ttl pr fr to rest.length) 0 :: by8 fr 3 :: by8 fr 2 :: by8 fr 1 :: by8 fr 0 :: by8 to 3 :: by8 to 2 :: by8 to 1 :: by8 to 0 :: rest := rfl
/-- One hop on by the bytes: three of them are others. -/
theorem hop_set (ttl pr fr to : Int) (rest : List UInt8) (_ht : 1 ≤ ttl ∧ ttl < 256) : (((pkL ttl pr fr to rest).set 8 (by8 ttl 0 - 1)).set 10 (by8 (hopS ttl pr fr to rest.length) 1)).set 11 (by8 (hopS ttl pr fr to rest.length) 0) = hopL ttl pr fr to rest := by
  have e : by8 ttl 0 - 1 = by8 (ttl - 1) 0 := by
    have t0 := by8_nat ttl 0
    have t1 := by8_nat (ttl - 1) 0
    simp only [Int.pow_zero, Int.ediv_one] at t0 t1
    apply UInt8.toNat_inj.1
    rw [UInt8.toNat_sub]
    simp only [show (1 : UInt8).toNat = 1 from rfl]
    omega
  rw [e, hop_eq, pkL_eq, pkB_eq]
  rfl

/-- A byte with its last bit turned. -/
theorem flip_nat (x : UInt8) : (x ^^^ 1).toNat = if x.toNat % 2 = 0 then x.toNat + 1 else x.toNat - 1 := by
  have h : ∀ n, n < 256 → (UInt8.ofNat n ^^^ 1).toNat = if n % 2 = 0 then n + 1 else n - 1 := by decide +kernel
  have := h x.toNat x.toNat_lt
  rwa [UInt8.ofNat_toNat] at this
theorem flip_ne (x : UInt8) : (x ^^^ 1).toNat = x.toNat + 1 ∨ (x ^^^ 1).toNat + 1 = x.toNat := by
  rw [flip_nat]
  split <;> omega
/-- A packet of twenty bytes or more whose first byte is 69 is right only if its words add up. -/
theorem rt_sum {l : List UInt8} (h69 : l[0]? = some 69) (h : isRt (ofL l) = true) : wsum (ofL l) 10 % 65535 = 0 := by
  unfold isRt at h
  simp only [Bool.and_eq_true, beq_iff_eq] at h
  have hs := h.2
  have hz : 0 < (ofL l).size := by
    rw [ofL_size]
    exact (List.getElem?_eq_some_iff.1 h69).1
  have hi : ihl (ofL l) = 20 := by
    unfold ihl
    rw [dif_pos hz, ofL_get]
    have : l[0]'(by rw [ofL_size] at hz; exact hz) = 69 := (List.getElem?_eq_some_iff.1 h69).2
    rw [this]
    rfl
  rw [hi] at hs
  have := hsum_mod (ofL l) 10
  rw [show (20 : Nat) / 2 = 10 from rfl] at hs
  omega
theorem wsum20 (x0 x1 x2 x3 x4 x5 x6 x7 x8 x9 x10 x11 x12 x13 x14 x15 x16 x17 x18 x19 : UInt8) (r : List UInt8) :
    wsum (ofL (x0 :: x1 :: x2 :: x3 :: x4 :: x5 :: x6 :: x7 :: x8 :: x9 :: x10 :: x11 :: x12 :: x13 :: x14 :: x15 :: x16 :: x17 :: x18 :: x19 :: r)) 10 = x0.toNat * 256 + x1.toNat + (x2.toNat * 256 + x3.toNat) + (x4.toNat * 256 + x5.toNat) + (x6.toNat * 256 + x7.toNat) + (x8.toNat * 256 + x9.toNat) + (x10.toNat * 256 + x11.toNat) + (x12.toNat * 256 + x13.toNat) + (x14.toNat * 256 + x15.toNat) + (x16.toNat * 256 + x17.toNat) + (x18.toNat * 256 + x19.toNat) := by
  obtain ⟨e0, e1, e2, e3, e4, e5, e6, e7, e8, e9⟩ := w20 x0 x1 x2 x3 x4 x5 x6 x7 x8 x9 x10 x11 x12 x13 x14 x15 x16 x17 x18 x19 r
  simp only [wsum]
  rw [Nat.mul_zero, show 2 * 1 = 2 from rfl, show 2 * 2 = 4 from rfl, show 2 * 3 = 6 from rfl, show 2 * 4 = 8 from rfl, show 2 * 5 = 10 from rfl, show 2 * 6 = 12 from rfl, show 2 * 7 = 14 from rfl, show 2 * 8 = 16 from rfl, show 2 * 9 = 18 from rfl, e0, e1, e2, e3, e4, e5, e6, e7, e8, e9]
  omega
set_option maxRecDepth 100000 in
/-- A change of the last bit of any byte of the header is found. -/
theorem flip_bad (ttl pr fr to : Int) (rest : List UInt8) (i : Nat) (hi : i < 20) (x : UInt8) (hx : (pkL ttl pr fr to rest)[i]? = some x) : isRt (ofL ((pkL ttl pr fr to rest).set i (x ^^^ 1))) = false := by
  have h1 := hsum_mod (ofL (pkL ttl pr fr to rest)) 10
  rw [hsum_pk] at h1
  rw [Bool.eq_false_iff]
  intro hr
  rw [pkL_eq, pkB_eq] at hx h1 hr
  generalize by8 (20 + (rest.length : Int)) 1 = x2 at *
  generalize by8 (20 + (rest.length : Int)) 0 = x3 at *
  generalize by8 ttl 0 = x8 at *
  generalize by8 pr 0 = x9 at *
  generalize by8 (csN ttl pr fr to rest.length : Int) 1 = x10 at *
  generalize by8 (csN ttl pr fr to rest.length : Int) 0 = x11 at *
  generalize by8 fr 3 = x12 at *
  generalize by8 fr 2 = x13 at *
  generalize by8 fr 1 = x14 at *
  generalize by8 fr 0 = x15 at *
  generalize by8 to 3 = x16 at *
  generalize by8 to 2 = x17 at *
  generalize by8 to 1 = x18 at *
  generalize by8 to 0 = x19 at *
  rw [wsum20] at h1
  have hf := flip_ne x
  by_cases h0 : i = 0
  · subst h0
    obtain rfl : (69 : UInt8) = x := by simpa using hx
    unfold isRt at hr
    simp only [Bool.and_eq_true, decide_eq_true_eq, beq_iff_eq] at hr
    have h2 := hr.1.2.1.1
    have hz : 0 < (ofL ((69 :: 0 :: x2 :: x3 :: 0 :: 0 :: 0 :: 0 :: x8 :: x9 :: x10 :: x11 :: x12 :: x13 :: x14 :: x15 :: x16 :: x17 :: x18 :: x19 :: rest).set 0 (69 ^^^ 1))).size := by rw [ofL_size]; simp
    unfold ihl at h2
    rw [dif_pos hz, ofL_get] at h2
    simp at h2
  · have hs := rt_sum (by rw [List.getElem?_set_ne (fun e => h0 e)]; rfl) hr
    have h69 : (69 : UInt8).toNat = 69 := rfl
    have hc : i = 1 ∨ i = 2 ∨ i = 3 ∨ i = 4 ∨ i = 5 ∨ i = 6 ∨ i = 7 ∨ i = 8 ∨ i = 9 ∨ i = 10 ∨ i = 11 ∨ i = 12 ∨ i = 13 ∨ i = 14 ∨ i = 15 ∨ i = 16 ∨ i = 17 ∨ i = 18 ∨ i = 19 := by omega
    clear hi h0 hr
    rcases hc with rfl | rfl | rfl | rfl | rfl | rfl | rfl | rfl | rfl | rfl | rfl | rfl | rfl | rfl | rfl | rfl | rfl | rfl | rfl
    all_goals
      obtain rfl := Option.some.inj hx
      have hs2 := hs
      simp only [List.set] at hs2
      rw [wsum20] at hs2
      clear hs hx
      omega
end Go.Proofs.YtaejpejfmpbinaaGreatDoor

namespace Go.Proofs.YtaejpejfmpbinaaGreatDoor
open Go.RowKit
open Go.Sort (grow)

/-- The bytes in a block. -/
def ByAt (W : World) (g : Nat) (l : List UInt8) : Prop := ∀ j (hj : j < l.length), W.cell? ⟨g, j, none⟩ = some (.int .u8 (l[j].toNat : Int))
theorem ByAt.set {W : World} {g : Nat} {l : List UInt8} (h : ByAt W g l) {i : Nat} (hi : i < l.length) (x : UInt8) : ByAt (W.setCell ⟨g, i, none⟩ (.int .u8 (x.toNat : Int))) g (l.set i x) := by
  intro j hj
  rw [List.length_set] at hj
  rw [List.getElem_set]
  by_cases e : i = j
  · subst e
    rw [if_pos rfl]
    exact World.cell?_setCell_same _ _ _ (h i hi)
  · rw [if_neg e, World.cell?_setCell_other _ _ _ _ (by intro h'; simp at h' <;> omega)]
    exact h j hj
theorem ByAt.below {W W' : World} {g : Nat} {l : List UInt8} (h : ByAt W g l) (hb : Below W.heap.size W W') : ByAt W' g l := fun j hj => cell_later hb (h j hj)
/-- A string becomes bytes. -/
theorem hop_conv (W : World) (b : ByteArray) : ∃ cap W1, (convert 9 42 (.string b)).run Tryz.prog W = .ok (.slice (some ⟨W.heap.size, 0, none⟩) b.size cap) W1 ∧ Below W.heap.size W W1 ∧ W1.heap.size = W.heap.size + 1 ∧ b.size ≤ cap ∧ ByAt W1 W.heap.size b.toList ∧ ∀ j, j < b.size → W1.frozen? ⟨W.heap.size, j, none⟩ = false := by
  have hge := grownCap_ge W b.size 0 5
  have hN := World.alloc_heap_new W.drew (.cells (bytesRow b (grownCap W b.size 0 5)) 5 ((bytesRow b (grownCap W b.size 0 5)).size, (bytesRow b (grownCap W b.size 0 5)).size + 1))
  have hN' : (W.drew.alloc (.cells (bytesRow b (grownCap W b.size 0 5)) 5 ((bytesRow b (grownCap W b.size 0 5)).size, (bytesRow b (grownCap W b.size 0 5)).size + 1))).heap[W.heap.size]? = some (.cells (bytesRow b (grownCap W b.size 0 5)) 5 ((bytesRow b (grownCap W b.size 0 5)).size, (bytesRow b (grownCap W b.size 0 5)).size + 1)) := hN
  have hsz : (bytesRow b (grownCap W b.size 0 5)).size = grownCap W b.size 0 5 := by
    simp only [bytesRow, Array.size_append, Array.size_map, Array.size_replicate]
    have : b.data.size = b.size := rfl
    omega
  refine ⟨_, _, run_bytes_of_string W 9 42 5 b Tryz.underlying9 Tryz.underlying42 Tryz.underlying5, ?_, ?_, hge, ?_, ?_⟩
  · exact (Below.refl _ W).drew.alloc (Nat.le_refl _) _
  · simp
  · intro j hj
    have hj' : j < b.data.size := by rwa [ByteArray.toList_eq, Array.length_toList] at hj
    refine cellRow hN' ?_
    unfold bytesRow
    rw [Array.getElem?_append_left (by simpa using hj')]
    simp [ByteArray.toList_eq]
    exact ⟨_, Array.getElem?_eq_getElem hj', rfl⟩
  · intro j hj
    unfold World.frozen?
    simp only [hN']
    rw [hsz, decide_eq_false (by omega : ¬ grownCap W b.size 0 5 ≤ j)]
    rfl
/-- The bytes of a packet one hop on. -/
def hopB (b : ByteArray) : ByteArray := ofL (((b.toList.set 8 (UInt8.ofNat (b8 b 8 - 1))).set 10 (UInt8.ofNat (ones (w16 b 10) 256 / 256))).set 11 (UInt8.ofNat (ones (w16 b 10) 256 % 256)))
theorem u8_of {n : Nat} (h : n < 256) : ((UInt8.ofNat n).toNat : Int) = n := by simp; omega

set_option maxRecDepth 100000 in
set_option maxHeartbeats 1000000 in
theorem pHop_any (b : ByteArray) (hd tt : Int) (w : World) (h : 20 ≤ b.size) (hs : b.size ≤ 1000) (h8 : 1 ≤ b8 b 8) :
    Calls Tryz.prog 108 #[.agg #[.string b, .int .i64 hd, .int .i64 tt]] w fun e w' => e = .returned (.string (hopB b)) ∧ Below w.heap.size w w' := by
  unfold hopB
  obtain ⟨w0, hw0⟩ : ∃ w0, w0 = w.alloc (.cells #[.string b, .int .i64 hd, .int .i64 tt] 63) := ⟨_, rfl⟩
  have hz0 : w0.heap.size = w.heap.size + 1 := by rw [hw0]; simp
  have hb0 : Below w.heap.size w w0 := by rw [hw0]; exact (Below.refl _ w).alloc (Nat.le_refl _) _
  have bx : w0.heap[w.heap.size]? = some (.cells #[.string b, .int .i64 hd, .int .i64 tt] 63 (0, 0)) := by rw [hw0]; exact allocN _ _
  obtain ⟨cap, W1, hcv, hb1, hz1, hcap, hcs, hfr⟩ := hop_conv w0 b
  rw [hw0] at hcv
  rw [hz0] at hcs hfr
  have hlen : b.toList.length = b.size := by rw [ByteArray.toList_eq, Array.length_toList]; rfl
  have x8 : b.toList[8]'(by omega) = UInt8.ofNat (b8 b 8) := by
    unfold b8
    rw [dif_pos (by omega : 8 < b.size)]
    simp [ByteArray.toList_eq]
    rfl
  have l8 := b8_lt b 8
  have c8 : W1.cell? ⟨w.heap.size + 1, 8, none⟩ = some (.int .u8 (b8 b 8 : Int)) := by
    rw [hcs 8 (by omega), x8, u8_of l8]
  have f8 := hfr 8 (by omega)
  have hcap' : (b.size : Int) ≤ cap := by omega
  have i8 : (8 : Int) < b.size := by omega
  have i10 : (10 : Int) < b.size := by omega
  have i11 : (11 : Int) < b.size := by omega
  have CW := hide fun (W : World) => pWord_any b hd tt 10 W (by omega) hs
  have hw16 := w16_lt b 10
  have CA := hide fun (W : World) => pAdd_any (w16 b 10) 256 W (by omega) (by omega)
  have hso : ones (w16 b 10) 256 ≤ 65535 := ones_le (by omega) (by omega)
  obtain ⟨W2, hW2⟩ : ∃ W2, W2 = W1.setCell ⟨w.heap.size + 1, 8, none⟩ (.int .u8 ((UInt8.ofNat (b8 b 8 - 1)).toNat : Int)) := ⟨_, rfl⟩
  have B2 : ByAt W2 (w.heap.size + 1) (b.toList.set 8 (UInt8.ofNat (b8 b 8 - 1))) := by rw [hW2]; exact hcs.set (by omega) _
  rw [u8_of (by omega)] at hW2
  have hb2 : Below w.heap.size w W2 := by rw [hW2]; exact (hb0.trans (hb1.mono (by omega))).setCell (show w.heap.size ≤ w.heap.size + 1 by omega) _
  have f2 : ∀ j, j < b.size → W2.frozen? ⟨w.heap.size + 1, j, none⟩ = false := fun j hj => by rw [hW2, World.frozen?_setCell]; exact hfr j hj
  have bx2 : W2.heap[w.heap.size]? = some (.cells #[.string b, .int .i64 hd, .int .i64 tt] 63 (0, 0)) := by
    rw [hW2, heap_setCell_other _ _ _ _ (Nat.ne_of_lt (Nat.lt_succ_self _))]
    exact (hb1.block _ (lt_of_heap bx)).trans bx
  have p0 : W2.cell? ⟨w.heap.size, 0, none⟩ = some (.string b) := cellRow bx2 rfl
  have p1 : W2.cell? ⟨w.heap.size, 1, none⟩ = some (.int .i64 hd) := cellRow bx2 rfl
  have p2 : W2.cell? ⟨w.heap.size, 2, none⟩ = some (.int .i64 tt) := cellRow bx2 rfl
  have bx1 := (hb1.block _ (lt_of_heap bx)).trans bx
  have k0 : W1.cell? ⟨w.heap.size, 0, none⟩ = some (.string b) := cellRow bx1 rfl
  have k1 : W1.cell? ⟨w.heap.size, 1, none⟩ = some (.int .i64 hd) := cellRow bx1 rfl
  have k2 : W1.cell? ⟨w.heap.size, 2, none⟩ = some (.int .i64 tt) := cellRow bx1 rfl
  have HW2 := hide hW2
  have hz2 := block_lt_of_cell k0
  have h8i : (1 : Int) ≤ (b8 b 8 : Int) := by omega
  have e8 : ((b8 b 8 - 1 : Nat) : Int) = (b8 b 8 : Int) - 1 := by omega
  rw [e8] at HW2
  have HB2 := hide B2
  have HF2 := hide f2
  have HBW := hide hb2
  have HLN := hide hlen
  clear bx1 hw0 hb0 bx bx2 p0 p1 p2 hcs hfr hW2 B2 f2 hb2 hb1 hlen x8 e8 hz0 hz1
  generalize b8 b 8 = n8 at *
  generalize w16 b 10 = n10 at *
  generalize ones n10 256 = so at *
  go_enter Tryz.func108, Tryz.ntmps108
  go_wp2_with fail
  rw [← HW2.out]
  clear HW2 k0 k1 k2 c8 f8 hcv
  refine (CW.out _).mono ?_
  rintro e W3 ⟨rfl, hb3⟩
  have B3 := HB2.out.below hb3
  have HB3 := hide B3
  have hl3 : (b.toList.set 8 (UInt8.ofNat (n8 - 1))).length = b.size := by rw [List.length_set]; exact HLN.out
  have c10 : ∃ v, W3.cell? ⟨w.heap.size + 1, 10, none⟩ = some (.int .u8 v) := ⟨_, B3 10 (by omega)⟩
  have c11 : ∃ v, W3.cell? ⟨w.heap.size + 1, 11, none⟩ = some (.int .u8 v) := ⟨_, B3 11 (by omega)⟩
  obtain ⟨v10, c10⟩ := c10
  obtain ⟨v11, c11⟩ := c11
  have hgl : w.heap.size + 1 < W2.heap.size := block_lt_of_cell (HB2.out 0 (by omega))
  have f10 : W3.frozen? ⟨w.heap.size + 1, 10, none⟩ = false := (hb3.frozen (p := ⟨w.heap.size + 1, 10, none⟩) hgl).trans (HF2.out 10 (by omega))
  have f11 : W3.frozen? ⟨w.heap.size + 1, 11, none⟩ = false := (hb3.frozen (p := ⟨w.heap.size + 1, 11, none⟩) hgl).trans (HF2.out 11 (by omega))
  have HBW3 := hide (HBW.out.trans (hb3.mono HBW.out.size))
  clear hb3 B3 HB2 HF2 HBW
  go_wp2_with fail
  refine (CA.out _).mono ?_
  rintro e W ⟨rfl, hww⟩
  rw [hww]
  clear hww W
  obtain ⟨L3, hL3⟩ : ∃ L3, L3 = b.toList.set 8 (UInt8.ofNat (n8 - 1)) := ⟨_, rfl⟩
  rw [← hL3] at HB3 hl3
  have HL3 := hide hL3
  have e1 : (((UInt8.ofNat (so / 256)).toNat : Nat) : Int) = (so : Int) / 256 := by rw [u8_of (n := so / 256) (by omega)]; omega
  have e2 : (((UInt8.ofNat (so % 256)).toNat : Nat) : Int) = (so : Int) % 256 := by rw [u8_of (n := so % 256) (by omega)]; omega
  have BF := (HB3.out.set (i := 10) (by omega) (UInt8.ofNat (so / 256))).set (i := 11) (by rw [List.length_set]; omega) (UInt8.ofNat (so % 256))
  rw [e1, e2] at BF
  have hl4 : ((L3.set 10 (UInt8.ofNat (so / 256))).set 11 (UInt8.ofNat (so % 256))).length = b.size := by rw [List.length_set, List.length_set]; exact hl3
  generalize hL4 : (L3.set 10 (UInt8.ofNat (so / 256))).set 11 (UInt8.ofNat (so % 256)) = L4 at BF hl4
  have HL4 := hide hL4
  have hcv2 := run_convert_bytes_back _ 42 9 5 ⟨w.heap.size + 1, 0, none⟩ cap L4 Tryz.underlying42 Tryz.underlying5 Tryz.underlying9 (fun j hj => by
    have e : (⟨w.heap.size + 1, 0, none⟩ : Addr).add j = ⟨w.heap.size + 1, j, none⟩ := by
      unfold Addr.add
      split <;> simp_all
    rw [e]
    exact BF j hj)
  rw [hl4] at hcv2
  have HBF := hide (((HBW3.out).setCell (show w.heap.size ≤ (⟨w.heap.size + 1, 10, none⟩ : Addr).block by simp) (.int .u8 ((so : Int) / 256))).setCell (show w.heap.size ≤ (⟨w.heap.size + 1, 11, none⟩ : Addr).block by simp) (.int .u8 ((so : Int) % 256)))
  clear BF HB3 HBW3 e1 e2 hL3 hL4
  go_wp2
  go_ret
  exact ⟨by rw [← HL3.out, HL4.out]; rfl, HBF.out⟩
end Go.Proofs.YtaejpejfmpbinaaGreatDoor

namespace Go.Proofs.YtaejpejfmpbinaaGreatDoor
open Go.RowKit
open Go.Sort (grow)

/-- A frame that goes on from a face to a hop. -/
def readP (p : Pg) (v : Int) (m face : ByteArray) : Pg := { p with routed := true, f := { p.f with to := m, fr := face, vlan := v, mark := 0, rest := hopB p.pb } }
set_option maxRecDepth 100000 in
set_option maxHeartbeats 1000000 in
theorem readdress_any (g : Nat) (p : Pg) (ov : Value) (v : Int) (m face : ByteArray) (w : World) (hg : PgAt w g p ov) (hz : 20 ≤ p.pb.size) (hs : p.pb.size ≤ 1000) (h8 : 1 ≤ b8 p.pb 8) :
    Calls Tryz.prog 63 #[.pointer (some ⟨g, 0, none⟩), .agg #[.int .i64 v, .string m], .string face] w fun e w' => e = .returned (.tuple #[]) ∧ PgAt w' g (readP p v m face) ov ∧ OnlyG g w w' := by
  obtain ⟨W0, hW0⟩ : ∃ W0, W0 = ((((w.setCell ⟨g, 13, none⟩ (.bool true)).setCell ⟨g, 2, none⟩ (.string m)).setCell ⟨g, 3, none⟩ (.string face)).setCell ⟨g, 5, none⟩ (.int .i64 v)).setCell ⟨g, 6, none⟩ (.int .i64 0) := ⟨_, rfl⟩
  obtain ⟨W1, hW1⟩ : ∃ W1, W1 = W0.alloc (.cells #[.int .i64 v, .string m] 92) := ⟨_, rfl⟩
  have hb1 : Below W0.heap.size W0 W1 := by rw [hW1]; exact (Below.refl _ W0).alloc (Nat.le_refl _) _
  have P1 : PgAt W1 g { p with routed := true, f := { p.f with to := m, fr := face, vlan := v, mark := 0 } } ov := by
    have q1 := hg.set (q := { p with routed := true }) (ov' := ov) 13 (.bool true) (by simp [pgCells])
    have q2 := q1.set (q := { p with routed := true, f := { p.f with to := m } }) (ov' := ov) 2 (.string m) (by simp [pgCells])
    have q3 := q2.set (q := { p with routed := true, f := { p.f with to := m, fr := face } }) (ov' := ov) 3 (.string face) (by simp [pgCells])
    have q4 := q3.set (q := { p with routed := true, f := { p.f with to := m, fr := face, vlan := v } }) (ov' := ov) 5 (.int .i64 v) (by simp [pgCells])
    have q5 := q4.set (q := { p with routed := true, f := { p.f with to := m, fr := face, vlan := v, mark := 0 } }) (ov' := ov) 6 (.int .i64 0) (by simp [pgCells])
    rw [← hW0] at q5
    exact q5.below hb1
  have O1 : OnlyG g w W1 := by
    have q := (((((OnlyG.of_below (Below.refl _ w)).set (g := g) 13 (.bool true)).set 2 (.string m)).set 3 (.string face)).set 5 (.int .i64 v)).set 6 (.int .i64 0)
    rw [← hW0] at q
    exact q.trans (OnlyG.of_below hb1)
  have c13 : w.cell? ⟨g, 13, none⟩ = some (.bool p.routed) := hg.cell rfl
  have c2 : w.cell? ⟨g, 2, none⟩ = some (.string p.f.to) := hg.cell rfl
  have c3 : w.cell? ⟨g, 3, none⟩ = some (.string p.f.fr) := hg.cell rfl
  have c5 : w.cell? ⟨g, 5, none⟩ = some (.int .i64 p.f.vlan) := hg.cell rfl
  have c6 : w.cell? ⟨g, 6, none⟩ = some (.int .i64 p.f.mark) := hg.cell rfl
  have c9 : w.cell? ⟨g, 9, none⟩ = some (.string p.pb) := hg.cell rfl
  have c10 : w.cell? ⟨g, 10, none⟩ = some (.int .i64 p.ph) := hg.cell rfl
  have c11 : w.cell? ⟨g, 11, none⟩ = some (.int .i64 p.pt) := hg.cell rfl
  have f13 := hg.frozen 13
  have f2 := hg.frozen 2
  have f3 := hg.frozen 3
  have f5 := hg.frozen 5
  have f6 := hg.frozen 6
  have hgl := hg.lt
  have hne : ¬ g = w.heap.size := by omega
  have hne2 : ¬ w.heap.size = g := by omega
  have hgl1 : g < w.heap.size + 1 := by omega
  have CH := hide fun (W : World) => pHop_any p.pb p.ph p.pt W hz hs h8
  rw [hW0] at hW1
  have HW1 := hide hW1
  have HP1 := hide P1
  have HO1 := hide O1
  clear hW0 hb1 hW1 P1 O1 hg hz hs h8
  go_enter Tryz.func63, Tryz.ntmps63
  go_wp2_with fail
  rw [← HW1.out]
  refine (CH.out _).mono ?_
  rintro e W2 ⟨rfl, hb2⟩
  have P2 := HP1.out.below hb2
  have c8 : W2.cell? ⟨g, 8, none⟩ = some (.string p.f.rest) := P2.cell rfl
  have f8 := P2.frozen 8
  have hgl2 := P2.lt
  have HP3 := hide (P2.set (q := readP p v m face) (ov' := ov) 8 (.string (hopB p.pb)) (by simp [pgCells, readP]))
  have HO3 := hide ((HO1.out.trans (OnlyG.of_below hb2)).set 8 (.string (hopB p.pb)))
  clear hb2 P2 HW1 c13 c2 c3 c5 c6 c9 c10 c11 f13 f2 f3 f5 f6
  go_wp2
  go_end0
  exact ⟨rfl, HP3.out, HO3.out⟩
end Go.Proofs.YtaejpejfmpbinaaGreatDoor
