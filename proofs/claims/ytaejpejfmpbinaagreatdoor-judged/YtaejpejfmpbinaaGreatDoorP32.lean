import Derived.Test.YtaejpejfmpbinaaGreatDoorP31
import Derived.Deep.RegionHeld3
import Derived.Test.YtaejpejfmpbinaaGreatDoorP29
namespace Go.Proofs.YtaejpejfmpbinaaGreatDoor
open Go.RowKit
open Go.Sort (grow)
attribute [local go_sem] cell?_regrown

/-- The number of four bytes at a place. -/
def a32 (b : ByteArray) (i : Nat) : Nat := w16 b i * 65536 + w16 b (i + 2)
theorem a32_lt (b : ByteArray) (i : Nat) : a32 b i < 4294967296 := by
  have h1 := w16_lt b i
  have h2 := w16_lt b (i + 2)
  unfold a32
  omega
theorem or_words (x y : Nat) (hx : x < 65536) (hy : y < 65536) : bits BinOp.or IntKind.i64 (IntKind.i64.wrap ((x : Int) * 65536)) y = ((x * 65536 + y : Nat) : Int) := by
  have e0 : IntKind.i64.wrap ((x : Int) * 65536) = (x : Int) * 65536 := by rw [IntKind.wrap_i64]; omega
  have e : (x : Int) * 65536 = ((x * 65536 : Nat) : Int) := by omega
  rw [e0, e, i64_or_nat _ _ (by omega) (by omega)]
  congr 1
  have := Nat.shiftLeft_add_eq_or_of_lt (i := 16) (b := y) (by omega) x
  rw [Nat.shiftLeft_eq] at this
  exact this.symm

set_option maxRecDepth 100000 in
set_option maxHeartbeats 1000000 in
theorem pAddress_any (b : ByteArray) (hd tt : Int) (i : Nat) (w : World) (h : i + 3 < b.size) (hs : b.size ≤ 1000) :
    Calls Tryz.prog 103 #[.agg #[.string b, .int .i64 hd, .int .i64 tt], .int .i64 i] w fun e w' => e = .returned (.int .i64 (a32 b i)) ∧ Below w.heap.size w w' := by
  have e2 : IntKind.i64.wrap ((i : Int) + 2) = ((i + 2 : Nat) : Int) := by rw [IntKind.wrap_i64]; omega
  have HO : Hid (bits BinOp.or IntKind.i64 (IntKind.i64.wrap ((w16 b i : Int) * 65536)) (w16 b (i + 2)) = ((a32 b i : Nat) : Int)) := hide (or_words _ _ (w16_lt b i) (w16_lt b (i + 2)))
  go_enter Tryz.func103, Tryz.ntmps103
  go_wp2
  obtain ⟨W0, hW0⟩ : ∃ W0, W0 = w.alloc (.cells #[.string b, .int .i64 hd, .int .i64 tt] 63) := ⟨_, rfl⟩
  have c0 : W0.cell? ⟨w.heap.size, 0, none⟩ = some (.string b) := by rw [hW0]; exact cellRow (allocN _ _) rfl
  have c1 : W0.cell? ⟨w.heap.size, 1, none⟩ = some (.int .i64 hd) := by rw [hW0]; exact cellRow (allocN _ _) rfl
  have c2 : W0.cell? ⟨w.heap.size, 2, none⟩ = some (.int .i64 tt) := by rw [hW0]; exact cellRow (allocN _ _) rfl
  have hlt : w.heap.size < W0.heap.size := by rw [hW0]; simp
  have HB : Hid (Below w.heap.size w W0) := hide (by rw [hW0]; exact (Below.refl _ w).alloc (Nat.le_refl _) _)
  have C1 := hide fun (d : Nat) (os : Array Obj) => pWord_any b hd tt i (grow (redrawn W0 d) os) (by omega) hs
  have C2 := hide fun (d : Nat) (os : Array Obj) => pWord_any b hd tt (i + 2) (grow (redrawn W0 d) os) (by omega) hs
  rw [← e2] at C2
  rw [← hW0]
  generalize w16 b i = x at *
  generalize w16 b (i + 2) = y at *
  clear hW0 e2 h
  refine wp_region_quiet_below (by kernel_rfl) (by kernel_rfl) ?_
  repeat (first | go_big_quiet_skip | quiet_step (fail))
  quiet_step (exact Calls.regrown_of (C1.out _ _))
  repeat (first | go_big_quiet_skip | quiet_step (fail))
  quiet_step (exact Calls.regrown_of (C2.out _ _))
  repeat (first | go_big_quiet_skip | quiet_step (fail))
  refine wpQuiet_nil ?_; intro wq hwq; replace hwq := below_of_regrown hwq; obtain ⟨hcq, hfq⟩ := bcell hwq; have hzq := hwq.size
  have HQ := hide hwq
  clear hcq hfq hwq
  go_wp2
  go_ret
  exact ⟨retInt (by rw [HO.out]), HB.out.trans (HQ.out.mono (Nat.le_of_lt hlt))⟩

set_option maxRecDepth 100000 in
theorem pDest_any (b : ByteArray) (hd tt : Int) (w : World) (h : 20 ≤ b.size) (hs : b.size ≤ 1000) :
    Calls Tryz.prog 61 #[.agg #[.string b, .int .i64 hd, .int .i64 tt]] w fun e w' => e = .returned (.int .i64 (a32 b 16)) ∧ Below w.heap.size w w' := by
  have C : Hid (∀ W : World, Calls Tryz.prog 103 #[.agg #[.string b, .int .i64 hd, .int .i64 tt], .int .i64 16] W fun e w' => e = .returned (.int .i64 (a32 b 16)) ∧ Below W.heap.size W w') := hide fun W => pAddress_any b hd tt 16 W (by omega) hs
  go_enter Tryz.func61, Tryz.ntmps61
  go_wp2_with fail
  refine (C.out _).mono ?_
  rintro e W1 ⟨rfl, hb⟩
  go_wp2
  go_ret
  exact ⟨rfl, ((Below.refl _ w).alloc (Nat.le_refl _) _).trans (hb.mono (by simp))⟩

/-- A byte at a place. -/
def b8 (b : ByteArray) (i : Nat) : Nat := if h : i < b.size then (b[i]'h).toNat else 0
theorem b8_lt (b : ByteArray) (i : Nat) : b8 b i < 256 := by
  unfold b8
  split
  · rename_i h
    exact (b[i]'h).toNat_lt
  · omega
theorem index_b8 (b : ByteArray) (i : Nat) (h : i < b.size) (W : World) : (Instr.index 9 (.string b) (.int .i64 (i : Int))).run Tryz.prog W = .ok (.int .u8 (b8 b i : Int)) W := by
  have i0 : (i : Int) < b.size := by omega
  have e : b8 b i = (b[i]'h).toNat := dif_pos h
  rw [e]
  simp [go_sem, i0]
set_option maxRecDepth 100000 in
theorem pTTL_any (b : ByteArray) (hd tt : Int) (w : World) (h : 20 ≤ b.size) :
    Calls Tryz.prog 59 #[.agg #[.string b, .int .i64 hd, .int .i64 tt]] w fun e w' => e = .returned (.int .i64 (b8 b 8)) ∧ Below w.heap.size w w' := by
  have hx : ∀ W : World, (Instr.index 9 (.string b) (.int .i64 8)).run Tryz.prog W = .ok (.int .u8 (b8 b 8 : Int)) W := fun W => index_b8 b 8 (by omega) W
  have hl := b8_lt b 8
  generalize b8 b 8 = x at *
  go_enter Tryz.func59, Tryz.ntmps59
  go_wp2
  go_ret
  exact ⟨rfl, (Below.refl _ w).alloc (Nat.le_refl _) _⟩

/-- Whether ports stand behind the header. -/
def hasPt (b : ByteArray) : Bool := (b8 b 9 == 6 || b8 b 9 == 17) && (w16 b 6 % 8192 == 0) && decide (ihl b + 4 ≤ w16 b 2)
theorem and_13 (n : Nat) (h : n < 65536) : bits BinOp.and IntKind.i64 (n : Int) 8191 = ((n % 8192 : Nat) : Int) := by
  have := i64_and_nat n 8191 (by omega) (by omega)
  rw [show ((8191 : Nat) : Int) = 8191 from rfl] at this
  rw [this]
  congr 1
  exact Nat.and_two_pow_sub_one_eq_mod n 13
set_option maxRecDepth 100000 in
set_option maxHeartbeats 1000000 in
theorem pHasPorts_any (b : ByteArray) (w : World) (h : 20 ≤ b.size) (hs : b.size ≤ 1000) :
    Calls Tryz.prog 104 #[.agg #[.string b, .int .i64 (ihl b), .int .i64 (w16 b 2)]] w fun e w' => e = .returned (.bool (hasPt b)) ∧ Below w.heap.size w w' := by
  have hx : ∀ W : World, (Instr.index 9 (.string b) (.int .i64 9)).run Tryz.prog W = .ok (.int .u8 (b8 b 9 : Int)) W := fun W => index_b8 b 9 (by omega) W
  have hl := b8_lt b 9
  have han := and_13 _ (w16_lt b 6)
  have hi := ihl_le b
  have hw := w16_lt b 2
  obtain ⟨hp, hhp⟩ : ∃ hp, hp = hasPt b := ⟨_, rfl⟩
  rw [← hhp]
  have HP := hide hhp
  have HAN := hide han
  clear hhp han
  go_enter Tryz.func104, Tryz.ntmps104
  go_wp2
  obtain ⟨W0, hW0⟩ : ∃ W0, W0 = w.alloc (.cells #[.string b, .int .i64 (ihl b), .int .i64 (w16 b 2)] 63) := ⟨_, rfl⟩
  have c0 : W0.cell? ⟨w.heap.size, 0, none⟩ = some (.string b) := by rw [hW0]; exact cellRow (allocN _ _) rfl
  have c1 : W0.cell? ⟨w.heap.size, 1, none⟩ = some (.int .i64 (ihl b)) := by rw [hW0]; exact cellRow (allocN _ _) rfl
  have c2 : W0.cell? ⟨w.heap.size, 2, none⟩ = some (.int .i64 (w16 b 2)) := by rw [hW0]; exact cellRow (allocN _ _) rfl
  have hlt : w.heap.size < W0.heap.size := by rw [hW0]; simp
  have HB : Hid (Below w.heap.size w W0) := hide (by rw [hW0]; exact (Below.refl _ w).alloc (Nat.le_refl _) _)
  have C1 : Hid (∀ (d : Nat) (os : Array Obj), Calls Tryz.prog 98 #[.agg #[.string b, .int .i64 (ihl b), .int .i64 (w16 b 2)], .int .i64 6] (grow (redrawn W0 d) os) fun e w' => e = .returned (.int .i64 (w16 b 6)) ∧ Below (grow (redrawn W0 d) os).heap.size (grow (redrawn W0 d) os) w') := hide fun d os => pWord_any b (ihl b) (w16 b 2) 6 (grow (redrawn W0 d) os) (by omega) hs
  rw [← hW0]
  clear hW0
  refine wp_region_quiet_below (by kernel_rfl) (by kernel_rfl) ?_
  repeat (first | go_big_quiet_skip | quiet_step (exact Calls.regrown_of (C1.out _ _)))
  refine wpQuiet_nil ?_; intro wq hwq; replace hwq := below_of_regrown hwq; obtain ⟨hcq, hfq⟩ := bcell hwq; have hzq := hwq.size
  have q1 := cell_later hwq c1
  have q2 := cell_later hwq c2
  have HQ : Hid (Below w.heap.size w wq) := hide (HB.out.trans (hwq.mono (Nat.le_of_lt hlt)))
  clear hcq hfq hwq c0 c1 c2 C1 hx
  have HPX : Hid (hp = ((b8 b 9 == 6 || b8 b 9 == 17) && (w16 b 6 % 8192 == 0) && decide (ihl b + 4 ≤ w16 b 2))) := HP
  rw [HAN.out]
  clear HAN HP HB
  generalize b8 b 9 = pr at *
  generalize w16 b 6 = fr at *
  generalize ihl b = ih at *
  generalize w16 b 2 = tt at *
  obtain ⟨off, hoff⟩ : ∃ off, off = fr % 8192 := ⟨_, rfl⟩
  rw [← hoff] at HPX ⊢
  clear hoff
  have fin : ∀ b1 b2 b3 : Bool, (pr == 6 || pr == 17) = b1 → (off == 0) = b2 → decide (ih + 4 ≤ tt) = b3 → hp = (b1 && b2 && b3) := fun b1 b2 b3 e1 e2 e3 => by rw [HPX.out, e1, e2, e3]
  clear HPX
  by_cases e1 : pr = 6
  · have i1 : (pr : Int) = 6 := by omega
    by_cases e2 : off = 0
    · have i2 : (off : Int) = 0 := by omega
      by_cases e3 : ih + 4 ≤ tt
      · have i3 : (ih : Int) + 4 ≤ tt := by omega
        obtain rfl := fin true true true (by simp [e1]) (by simp [e2]) (by simp [e3])
        clear fin e1 e2 e3
        go_wp2
        go_ret
        exact ⟨rfl, HQ.out⟩
      · have i3 : ¬ (ih : Int) + 4 ≤ tt := by omega
        obtain rfl := fin true true false (by simp [e1]) (by simp [e2]) (by simp [e3])
        clear fin e1 e2 e3
        go_wp2
        go_ret
        exact ⟨rfl, HQ.out⟩
    · have i2 : ¬ (off : Int) = 0 := by omega
      obtain rfl := fin true false (decide (ih + 4 ≤ tt)) (by simp [e1]) (by simp [e2]) rfl
      clear fin e1 e2
      go_wp2
      go_ret
      exact ⟨rfl, HQ.out⟩
  · have i1 : ¬ (pr : Int) = 6 := by omega
    by_cases e4 : pr = 17
    · have i4 : (pr : Int) = 17 := by omega
      by_cases e2 : off = 0
      · have i2 : (off : Int) = 0 := by omega
        by_cases e3 : ih + 4 ≤ tt
        · have i3 : (ih : Int) + 4 ≤ tt := by omega
          obtain rfl := fin true true true (by simp [e4]) (by simp [e2]) (by simp [e3])
          clear fin e1 e2 e3 e4
          go_wp2
          go_ret
          exact ⟨rfl, HQ.out⟩
        · have i3 : ¬ (ih : Int) + 4 ≤ tt := by omega
          obtain rfl := fin true true false (by simp [e4]) (by simp [e2]) (by simp [e3])
          clear fin e1 e2 e3 e4
          go_wp2
          go_ret
          exact ⟨rfl, HQ.out⟩
      · have i2 : ¬ (off : Int) = 0 := by omega
        obtain rfl := fin true false (decide (ih + 4 ≤ tt)) (by simp [e4]) (by simp [e2]) rfl
        clear fin e1 e2 e4
        go_wp2
        go_ret
        exact ⟨rfl, HQ.out⟩
    · have i4 : ¬ (pr : Int) = 17 := by omega
      obtain rfl := fin false (off == 0) (decide (ih + 4 ≤ tt)) (by simp [e1, e4]) rfl rfl
      clear fin e1 e4
      go_wp2
      go_ret
      exact ⟨rfl, HQ.out⟩
end Go.Proofs.YtaejpejfmpbinaaGreatDoor

namespace Go.Proofs.YtaejpejfmpbinaaGreatDoor
open Go.RowKit
open Go.Sort (grow)

theorem results_cell1 {fn : Func} {p : Tmp} {ty : TypeId} (h : fn.results = #[.cell p ty]) (tmps : Array Value) (P : Program) (w : World) :
    (results fn tmps).run P w = ((asAddr (tmps.getD p undef)).run P w).andThen fun a w₁ => (loadVar ty a).run P w₁ := by
  simp only [results, h]
  simp [Sem.run_bind]
theorem ret_key {tmps : Array Value} {W : World} {b : Nat} {x0 x1 x2 x3 x4 : Value} (hb : W.heap[b]? = some (.cells #[x0, x1, x2, x3, x4] 110 (0, 0))) (hp : tmps.getD 2 undef = .pointer (some ⟨b, 0, none⟩)) :
    (results Tryz.f56 tmps).run Tryz.prog W = .ok (.agg #[x0, x1, x2, x3, x4]) W := by
  rw [results_cell1 (fn := Tryz.f56) (p := 2) (ty := 110) rfl, hp]
  have hi : (Tryz.prog.info? 110).map (·.size) = some (#[x0, x1, x2, x3, x4] : Array Value).size := by kernel_rfl
  simp [asAddr, run_loadVar_row W b 110 110 #[x0, x1, x2, x3, x4] (0, 0) _ hb Tryz.underlying110 rfl hi, Result.andThen]

theorem row5_set {W : World} {b : Nat} {t : TypeId} {x0 x1 x2 x3 x4 v0 v1 v2 v3 v4 : Value} (h : W.heap[b]? = some (.cells #[x0, x1, x2, x3, x4] t (0, 0))) :
    (((((W.setCell ⟨b, 0, none⟩ v0).setCell ⟨b, 1, none⟩ v1).setCell ⟨b, 2, none⟩ v2).setCell ⟨b, 3, none⟩ v3).setCell ⟨b, 4, none⟩ v4).heap[b]? = some (.cells #[v0, v1, v2, v3, v4] t (0, 0)) := by
  have h0 := heap_setCell_same W b 0 _ _ v0 h
  have h1 := heap_setCell_same _ b 1 _ _ v1 h0
  have h2 := heap_setCell_same _ b 2 _ _ v2 h1
  have h3 := heap_setCell_same _ b 3 _ _ v3 h2
  have h4 := heap_setCell_same _ b 4 _ _ v4 h3
  simpa using h4
theorem row5_low {W w : World} {b B : Nat} {v0 v1 v2 v3 v4 : Value} (h : Below B w W) (hB : B ≤ b) :
    Below B w (((((W.setCell ⟨b, 0, none⟩ v0).setCell ⟨b, 1, none⟩ v1).setCell ⟨b, 2, none⟩ v2).setCell ⟨b, 3, none⟩ v3).setCell ⟨b, 4, none⟩ v4) :=
  ((((h.setCell hB _).setCell hB _).setCell hB _).setCell hB _).setCell hB _
theorem row5_ex {W w : World} {b B : Nat} {t : TypeId} {x0 x1 x2 x3 x4 : Value} (v0 v1 v2 v3 v4 : Value) (h : W.heap[b]? = some (.cells #[x0, x1, x2, x3, x4] t (0, 0))) (hw : Below B w W) (hB : B ≤ b) :
    ∃ W2, W2 = (((((W.setCell ⟨b, 0, none⟩ v0).setCell ⟨b, 1, none⟩ v1).setCell ⟨b, 2, none⟩ v2).setCell ⟨b, 3, none⟩ v3).setCell ⟨b, 4, none⟩ v4) ∧ W2.heap[b]? = some (.cells #[v0, v1, v2, v3, v4] t (0, 0)) ∧ Below B w W2 ∧ B ≤ b := ⟨_, rfl, row5_set h, row5_low hw hB, hB⟩
theorem row5_new {W w : World} {B : Nat} (cs : Array Value) (t : TypeId) (hw : Below B w W) (hB : B ≤ W.heap.size) :
    ∃ W2, W2 = W.alloc (.cells cs t) ∧ W2.heap[W.heap.size]? = some (.cells cs t (0, 0)) ∧ Below B w W2 ∧ B ≤ W.heap.size := ⟨_, rfl, allocN W _, hw.alloc hB _, hB⟩
/-- A packet's ports. -/
def pt0 (b : ByteArray) : Nat := if hasPt b then w16 b (ihl b) else 0
def pt1 (b : ByteArray) : Nat := if hasPt b then w16 b (ihl b + 2) else 0
set_option maxRecDepth 100000 in
set_option maxHeartbeats 2000000 in
theorem pKey_any (b : ByteArray) (w : World) (h : 20 ≤ b.size) (hs : b.size ≤ 1000) (ht : w16 b 2 ≤ b.size) :
    Calls Tryz.prog 56 #[.agg #[.string b, .int .i64 (ihl b), .int .i64 (w16 b 2)]] w fun e w' => e = .returned (.agg #[.int .i64 (a32 b 12), .int .i64 (a32 b 16), .int .i64 (b8 b 9), .int .i64 (pt0 b), .int .i64 (pt1 b)]) ∧ Below w.heap.size w w' := by
  have hx : ∀ W : World, (Instr.index 9 (.string b) (.int .i64 9)).run Tryz.prog W = .ok (.int .u8 (b8 b 9 : Int)) W := fun W => index_b8 b 9 (by omega) W
  have hl := b8_lt b 9
  have CA : Hid (∀ W : World, Calls Tryz.prog 103 #[.agg #[.string b, .int .i64 (ihl b), .int .i64 (w16 b 2)], .int .i64 12] W fun e w' => e = .returned (.int .i64 (a32 b 12)) ∧ Below W.heap.size W w') := hide fun W => pAddress_any b _ _ 12 W (by omega) hs
  have CD := hide fun (W : World) => pDest_any b (ihl b) (w16 b 2) W h hs
  have CH := hide fun (W : World) => pHasPorts_any b W h hs
  go_enter Tryz.func56, Tryz.ntmps56
  go_wp2_with fail
  obtain ⟨W0, hW0⟩ : ∃ W0, W0 = (w.alloc (.cells #[.string b, .int .i64 (ihl b), .int .i64 (w16 b 2)] 63)).alloc (.cells #[.int .i64 0, .int .i64 0, .int .i64 0, .int .i64 0, .int .i64 0] 110) := ⟨_, rfl⟩
  have A0 : W0.heap[w.heap.size]? = some (.cells #[.string b, .int .i64 (ihl b), .int .i64 (w16 b 2)] 63 (0, 0)) := by rw [hW0]; exact (((Below.refl _ (w.alloc _)).alloc (Nat.le_refl _) _).block _ (by simp)).trans (allocN _ _)
  have A1 : W0.heap[w.heap.size + 1]? = some (.cells #[.int .i64 0, .int .i64 0, .int .i64 0, .int .i64 0, .int .i64 0] 110 (0, 0)) := by
    rw [hW0]
    have := allocN (w.alloc (.cells #[.string b, .int .i64 (ihl b), .int .i64 (w16 b 2)] 63)) (.cells #[.int .i64 0, .int .i64 0, .int .i64 0, .int .i64 0, .int .i64 0] 110)
    rwa [World.size_alloc] at this
  have HB0 : Hid (Below w.heap.size w W0) := hide (by rw [hW0]; exact ((Below.refl _ w).alloc (Nat.le_refl _) _).alloc (by simp) _)
  have hs0 : W0.heap.size = w.heap.size + 2 := by rw [hW0]; simp
  rw [← hW0]
  have c0 : W0.cell? ⟨w.heap.size, 0, none⟩ = some (.string b) := cellRow A0 rfl
  have c1 : W0.cell? ⟨w.heap.size, 1, none⟩ = some (.int .i64 (ihl b)) := cellRow A0 rfl
  have c2 : W0.cell? ⟨w.heap.size, 2, none⟩ = some (.int .i64 (w16 b 2)) := cellRow A0 rfl
  have n1 : ¬ w.heap.size = W0.heap.size := by omega
  have n2 : ¬ W0.heap.size = w.heap.size := by omega
  have hww : w.heap.size < W0.heap.size := by omega
  have hwx : w.heap.size ≤ W0.heap.size := by omega
  have HS0 := hide hs0
  clear hW0 hs0
  generalize hx0 : a32 b 12 = x0 at *
  generalize hx1 : a32 b 16 = x1 at *
  generalize hx2' : b8 b 9 = x2 at *
  have HX0 := hide hx0
  have HX1 := hide hx1
  have HX2 := hide hx2'
  clear hx0 hx1 hx2'
  rename_i Kc hKc
  have REST : ∀ (kb : Nat) (W2 : World), W2.heap[kb]? = some (.cells #[.int .i64 x0, .int .i64 x1, .int .i64 x2, .int .i64 0, .int .i64 0] 110 (0, 0)) → Below W0.heap.size W0 W2 → W0.heap.size ≤ kb → Kc { tmps := #[.agg #[.string b, .int .i64 (ihl b), .int .i64 (w16 b 2)], .pointer (some ⟨w.heap.size, 0, none⟩), .pointer (some ⟨w.heap.size + 1, 0, none⟩), .pointer (some ⟨kb, 0, none⟩), .agg #[.string b, .int .i64 (ihl b), .int .i64 (w16 b 2)], .int .i64 x0, .agg #[.string b, .int .i64 (ihl b), .int .i64 (w16 b 2)], .int .i64 x1, .pointer (some ⟨w.heap.size, 0, none⟩), .string b, .int .u8 x2, .int .i64 x2, .agg #[.int .i64 x0, .int .i64 x1, .int .i64 x2, .int .i64 0, .int .i64 0], undef, undef, undef, undef, undef, undef, undef, undef, undef, undef, undef, undef, undef, undef], defers := [] } W2 := by
    intro kb W2 KB LB LK
    have R0 := (LB.block _ (lt_of_heap A0)).trans A0
    have R1 := (LB.block _ (lt_of_heap A1)).trans A1
    have BL : Below w.heap.size w W2 := HB0.out.trans (LB.mono hwx)
    have hkb : w.heap.size + 1 < kb := by have := HS0.out; omega
    refine hKc _ _ ?_
    have p0 : W2.cell? ⟨w.heap.size, 0, none⟩ = some (.string b) := cellRow R0 rfl
    have p1 : W2.cell? ⟨w.heap.size, 1, none⟩ = some (.int .i64 (ihl b)) := cellRow R0 rfl
    have p2 : W2.cell? ⟨w.heap.size, 2, none⟩ = some (.int .i64 (w16 b 2)) := cellRow R0 rfl
    clear CA CD LB c0 c1 c2 A0 A1 HB0
    go_wp2_with fail
    refine (CH.out _).mono ?_
    rintro e W3 ⟨rfl, hb3⟩
    have KB3 := (hb3.block _ (lt_of_heap KB)).trans KB
    have R03 := (hb3.block _ (lt_of_heap R0)).trans R0
    have R13 := (hb3.block _ (lt_of_heap R1)).trans R1
    have BL3 : Below w.heap.size w W3 := BL.trans (hb3.mono BL.size)
    clear hb3 KB R0 R1 BL p0 p1 p2 CH
    cases hpt : hasPt b with
    | false =>
      have HE0 : Hid (pt0 b = 0) := hide (by unfold pt0; rw [hpt]; rfl)
      have HE1 : Hid (pt1 b = 0) := hide (by unfold pt1; rw [hpt]; rfl)
      clear hpt R03
      have k0 := cellRow (j := 0) KB3 rfl
      have k1 := cellRow (j := 1) KB3 rfl
      have k2 := cellRow (j := 2) KB3 rfl
      have k3 := cellRow (j := 3) KB3 rfl
      have k4 := cellRow (j := 4) KB3 rfl
      have t0 := cellRow (j := 0) R13 rfl
      have t1 := cellRow (j := 1) R13 rfl
      have t2 := cellRow (j := 2) R13 rfl
      have t3 := cellRow (j := 3) R13 rfl
      have t4 := cellRow (j := 4) R13 rfl
      have tf := fun j => frzRow R13 j
      have HZ := hide (row5_ex (.int .i64 x0) (.int .i64 x1) (.int .i64 x2) (.int .i64 0) (.int .i64 0) R13 BL3 (by omega))
      clear KB3 R13 BL3
      go_wp2
      obtain ⟨W9, hW9, Z1, Z2, _⟩ := HZ.out
      rw [← hW9]
      refine bodyPost_ret (ret_key Z1 rfl) rfl ?_
      exact ⟨by rw [HX0.out, HX1.out, HX2.out, HE0.out, HE1.out]; rfl, Z2⟩
    | true =>
      have HE0 : Hid (pt0 b = w16 b (ihl b)) := hide (by unfold pt0; rw [hpt]; rfl)
      have HE1 : Hid (pt1 b = w16 b (ihl b + 2)) := hide (by unfold pt1; rw [hpt]; rfl)
      have hih := ihl_le b
      have hle : ihl b + 4 ≤ b.size := by
        unfold hasPt at hpt
        simp only [Bool.and_eq_true, decide_eq_true_eq] at hpt
        omega
      have e2 : IntKind.i64.wrap ((ihl b : Int) + 2) = ((ihl b + 2 : Nat) : Int) := by rw [IntKind.wrap_i64]; omega
      have C1 := hide fun (W : World) => pWord_any b (ihl b) (w16 b 2) (ihl b) W (by omega) hs
      have C2 := hide fun (W : World) => pWord_any b (ihl b) (w16 b 2) (ihl b + 2) W (by omega) hs
      rw [← e2] at C2
      have d0 : W3.cell? ⟨w.heap.size, 0, none⟩ = some (.string b) := cellRow R03 rfl
      have d1 : W3.cell? ⟨w.heap.size, 1, none⟩ = some (.int .i64 (ihl b)) := cellRow R03 rfl
      have d2 : W3.cell? ⟨w.heap.size, 2, none⟩ = some (.int .i64 (w16 b 2)) := cellRow R03 rfl
      have hw3 : w.heap.size < W3.heap.size := lt_of_heap R03
      have nk1 : ¬ kb = w.heap.size := by omega
      have nk2 : ¬ w.heap.size = kb := by omega
      have q := KB3
      have r0 := R03
      have r1 := R13
      have bl := BL3
      generalize w16 b (ihl b) = y3 at *
      generalize w16 b (ihl b + 2) = y4 at *
      clear hpt e2 hle KB3 R03 R13 BL3
      go_wp2_with fail
      go_region_held3 (fun w' => w'.cell? ⟨w.heap.size, 0, none⟩ = some (.string b) ∧ w'.cell? ⟨w.heap.size, 1, none⟩ = some (.int .i64 (ihl b)) ∧ w'.cell? ⟨w.heap.size, 2, none⟩ = some (.int .i64 (w16 b 2))) (go_keep)
        (first
          | (go_at_call 98; with_reducible refine (C1.out _).mono ?_; rintro e v1 ⟨rfl, hb⟩; have q := (hb.block _ (lt_of_heap q)).trans q; have r0 := (hb.block _ (lt_of_heap r0)).trans r0; have r1 := (hb.block _ (lt_of_heap r1)).trans r1; have d0 := cellRow (j := 0) r0 rfl; have d1 := cellRow (j := 1) r0 rfl; have d2 := cellRow (j := 2) r0 rfl; have bl : Below w.heap.size w v1 := Below.trans (b := _) (by repeat (first | exact Below.refl _ _ | assumption | refine Below.drewN ?_ | refine Below.drew ?_ | refine Below.setCell ?_ (by first | exact Nat.le_refl _ | omega | (simp; done) | (simp; omega)) _ | refine Below.alloc ?_ (by first | exact Nat.le_refl _ | omega | (simp; done) | (simp; omega)) _)) (hb.mono (by have := bl.size; first | omega | (simp; omega))); have q3 := cellRow (j := 3) q rfl; have q4 := cellRow (j := 4) q rfl; have qf := fun j => frzRow q j; have ql := lt_of_heap q)
          | (go_at_call 98; with_reducible refine (C2.out _).mono ?_; rintro e v2 ⟨rfl, hb⟩; have q := (hb.block _ (lt_of_heap q)).trans q; have r0 := (hb.block _ (lt_of_heap r0)).trans r0; have r1 := (hb.block _ (lt_of_heap r1)).trans r1; have d0 := cellRow (j := 0) r0 rfl; have d1 := cellRow (j := 1) r0 rfl; have d2 := cellRow (j := 2) r0 rfl; have bl : Below w.heap.size w v2 := Below.trans (b := _) (by repeat (first | exact Below.refl _ _ | assumption | refine Below.drewN ?_ | refine Below.drew ?_ | refine Below.setCell ?_ (by first | exact Nat.le_refl _ | omega | (simp; done) | (simp; omega)) _ | refine Below.alloc ?_ (by first | exact Nat.le_refl _ | omega | (simp; done) | (simp; omega)) _)) (hb.mono (by have := bl.size; first | omega | (simp; omega))); have q3 := cellRow (j := 3) q rfl; have q4 := cellRow (j := 4) q rfl; have qf := fun j => frzRow q j; have ql := lt_of_heap q))
      obtain ⟨W5, hW5⟩ : ∃ W5, W5 = (v2.setCell ⟨kb, 3, none⟩ (.int .i64 y3)).setCell ⟨kb, 4, none⟩ (.int .i64 y4) := ⟨_, rfl⟩
      have KB5 : W5.heap[kb]? = some (.cells #[.int .i64 x0, .int .i64 x1, .int .i64 x2, .int .i64 y3, .int .i64 y4] 110 (0, 0)) := by rw [hW5]; exact (heap_setCell_same _ _ 4 _ _ _ (heap_setCell_same _ _ 3 _ _ _ q)).trans (by simp)
      have R15 : W5.heap[w.heap.size + 1]? = some (.cells #[.int .i64 0, .int .i64 0, .int .i64 0, .int .i64 0, .int .i64 0] 110 (0, 0)) := by rw [hW5]; exact ((heap_setCell_other _ _ _ _ (fun (e : w.heap.size + 1 = kb) => by omega)).trans (heap_setCell_other _ _ _ _ (fun (e : w.heap.size + 1 = kb) => by omega))).trans r1
      have BL5 : Below w.heap.size w W5 := by rw [hW5]; exact (bl.setCell (by show w.heap.size ≤ kb; omega) _).setCell (by show w.heap.size ≤ kb; omega) _
      rw [← hW5]
      clear hW5 q r0 r1 bl d0 d1 d2
      have k0 := cellRow (j := 0) KB5 rfl
      have k1 := cellRow (j := 1) KB5 rfl
      have k2 := cellRow (j := 2) KB5 rfl
      have k3 := cellRow (j := 3) KB5 rfl
      have k4 := cellRow (j := 4) KB5 rfl
      have t0 := cellRow (j := 0) R15 rfl
      have t1 := cellRow (j := 1) R15 rfl
      have t2 := cellRow (j := 2) R15 rfl
      have t3 := cellRow (j := 3) R15 rfl
      have t4 := cellRow (j := 4) R15 rfl
      have tf := fun j => frzRow R15 j
      have HZ := hide (row5_ex (.int .i64 x0) (.int .i64 x1) (.int .i64 x2) (.int .i64 y3) (.int .i64 y4) R15 BL5 (by omega))
      clear KB5 R15 BL5
      go_wp2
      obtain ⟨W9, hW9, Z1, Z2, _⟩ := HZ.out
      rw [← hW9]
      refine bodyPost_ret (ret_key Z1 rfl) rfl ?_
      exact ⟨by rw [HX0.out, HX1.out, HX2.out, HE0.out, HE1.out], Z2⟩
  go_region_held3 (fun w' => w'.cell? ⟨w.heap.size, 0, none⟩ = some (.string b) ∧ w'.cell? ⟨w.heap.size, 1, none⟩ = some (.int .i64 (ihl b)) ∧ w'.cell? ⟨w.heap.size, 2, none⟩ = some (.int .i64 (w16 b 2))) (go_keep)
    (first
      | (go_at_call 103; refine (CA.out _).mono ?_; rintro e w1 ⟨rfl, hb1⟩; have hB1 : Below W0.heap.size W0 w1 := Below.trans (b := _) (by repeat (first | exact Below.refl _ _ | assumption | refine Below.drewN ?_ | refine Below.drew ?_ | refine Below.setCell ?_ (by first | exact Nat.le_refl _ | omega | (simp; done) | (simp; omega)) _ | refine Below.alloc ?_ (by first | exact Nat.le_refl _ | omega | (simp; done) | (simp; omega)) _)) (hb1.mono (by first | exact Nat.le_refl _ | omega | (simp; done) | (simp; omega))); have g0 := cell_later hB1 c0; have g1 := cell_later hB1 c1; have g2 := cell_later hB1 c2; have zw1 := hB1.size; have naw1 : ¬ w1.heap.size = w.heap.size := (by omega); have nbw1 : ¬ w.heap.size = w1.heap.size := (by omega); (first | (have q := (hb1.block _ (lt_of_heap q)).trans q; have q0 := cellRow (j := 0) q rfl; have q1 := cellRow (j := 1) q rfl; have q2 := cellRow (j := 2) q rfl; have q3 := cellRow (j := 3) q rfl; have q4 := cellRow (j := 4) q rfl; have qf := fun j => frzRow q j; have ql := lt_of_heap q) | (have q := (hb1.block W0.heap.size (by simp)).trans (allocN W0 _); have q0 := cellRow (j := 0) q rfl; have q1 := cellRow (j := 1) q rfl; have q2 := cellRow (j := 2) q rfl; have q3 := cellRow (j := 3) q rfl; have q4 := cellRow (j := 4) q rfl; have qf := fun j => frzRow q j; have ql := lt_of_heap q) | (have q := (hb1.block w2.heap.size (by simp)).trans (allocN w2 _); have q0 := cellRow (j := 0) q rfl; have q1 := cellRow (j := 1) q rfl; have q2 := cellRow (j := 2) q rfl; have q3 := cellRow (j := 3) q rfl; have q4 := cellRow (j := 4) q rfl; have qf := fun j => frzRow q j; have ql := lt_of_heap q) | skip))
      | (go_at_call 61; refine (CD.out _).mono ?_; rintro e w2 ⟨rfl, hb2⟩; have hB2 : Below W0.heap.size W0 w2 := Below.trans (b := _) (by repeat (first | exact Below.refl _ _ | assumption | refine Below.drewN ?_ | refine Below.drew ?_ | refine Below.setCell ?_ (by first | exact Nat.le_refl _ | omega | (simp; done) | (simp; omega)) _ | refine Below.alloc ?_ (by first | exact Nat.le_refl _ | omega | (simp; done) | (simp; omega)) _)) (hb2.mono (by first | exact Nat.le_refl _ | omega | (simp; done) | (simp; omega))); have k0 := cell_later hB2 c0; have k1 := cell_later hB2 c1; have k2 := cell_later hB2 c2; have zw2 := hB2.size; have naw2 : ¬ w2.heap.size = w.heap.size := (by omega); have nbw2 : ¬ w.heap.size = w2.heap.size := (by omega); (first | (have q := (hb2.block _ (lt_of_heap q)).trans q; have q0 := cellRow (j := 0) q rfl; have q1 := cellRow (j := 1) q rfl; have q2 := cellRow (j := 2) q rfl; have q3 := cellRow (j := 3) q rfl; have q4 := cellRow (j := 4) q rfl; have qf := fun j => frzRow q j; have ql := lt_of_heap q) | (have q := (hb2.block W0.heap.size (by simp)).trans (allocN W0 _); have q0 := cellRow (j := 0) q rfl; have q1 := cellRow (j := 1) q rfl; have q2 := cellRow (j := 2) q rfl; have q3 := cellRow (j := 3) q rfl; have q4 := cellRow (j := 4) q rfl; have qf := fun j => frzRow q j; have ql := lt_of_heap q) | (have q := (hb2.block w1.heap.size (by simp)).trans (allocN w1 _); have q0 := cellRow (j := 0) q rfl; have q1 := cellRow (j := 1) q rfl; have q2 := cellRow (j := 2) q rfl; have q3 := cellRow (j := 3) q rfl; have q4 := cellRow (j := 4) q rfl; have qf := fun j => frzRow q j; have ql := lt_of_heap q) | skip)))
  all_goals
    have hx2 : IntKind.i64.wrap (x2 : Int) = (x2 : Int) := by rw [IntKind.wrap_i64]; omega
    rw [hx2]
    first
    | (obtain ⟨W2, hW2, KB, LB, LK⟩ := row5_ex (.int .i64 x0) (.int .i64 x1) (.int .i64 x2) (.int .i64 0) (.int .i64 0) q hB2 (by omega); rw [← hW2])
    | (obtain ⟨W2, hW2, KB, LB, LK⟩ := row5_ex (.int .i64 x0) (.int .i64 x1) (.int .i64 x2) (.int .i64 0) (.int .i64 0) q hB1 (by omega); rw [← hW2])
    | (obtain ⟨W2, hW2, KB, LB, LK⟩ := row5_new #[.int .i64 x0, .int .i64 x1, .int .i64 x2, .int .i64 0, .int .i64 0] 110 hB2 zw2; rw [← hW2])
    | (obtain ⟨W2, hW2, KB, LB, LK⟩ := row5_new #[.int .i64 x0, .int .i64 x1, .int .i64 x2, .int .i64 0, .int .i64 0] 110 hB1 zw1; rw [← hW2])
  all_goals exact REST _ _ KB LB LK
end Go.Proofs.YtaejpejfmpbinaaGreatDoor

namespace Go.Proofs.YtaejpejfmpbinaaGreatDoor
open Go.RowKit
open Go.Sort (grow)
attribute [local go_sem] cell?_regrown

theorem convB (W : World) (g : Nat) (x : Int) (hx : 0 ≤ x ∧ x < 256) (h0 : W.cell? ⟨g, 0, none⟩ = some (.int .u8 x)) :
    (convert 42 9 (.slice (some ⟨g, 0, none⟩) 1 1)).run Tryz.prog W = .ok (.string ⟨#[UInt8.ofNat x.toNat]⟩) W := by
  refine run_convert_bytes_back W 42 9 5 ⟨g, 0, none⟩ 1 [UInt8.ofNat x.toNat] Tryz.underlying42 Tryz.underlying5 Tryz.underlying9 ?_
  intro j hj
  match j, hj with
  | 0, _ =>
    have e : ((UInt8.ofNat x.toNat).toNat : Int) = x := by simp; omega
    show W.cell? ⟨g, 0, none⟩ = some (.int .u8 ((UInt8.ofNat x.toNat).toNat : Int))
    rw [e]; exact h0
/-- The last bytes of a number, the highest first. -/
def bL (n : Int) : Nat → List UInt8
  | 0 => []
  | i + 1 => UInt8.ofNat (n / 256 ^ i % 256).toNat :: bL n i
theorem bL_length (n : Int) : ∀ i, (bL n i).length = i
  | 0 => rfl
  | i + 1 => by rw [bL, List.length_cons, bL_length n i]

set_option maxRecDepth 100000 in
set_option maxHeartbeats 1000000 in
theorem kbytes_any (n : Int) (k : Nat) (w : World) (h0 : 0 ≤ n) (h1 : n ≤ 9223372036854775807) (hk : k ≤ 8) : Calls Tryz.prog 19 #[.int .i64 n, .int .i64 k] w fun e w' => e = .returned (.string (ofL (bL n k))) ∧ Below w.heap.size w w' := by
  go_enter Tryz.func19, Tryz.ntmps19
  go_wp2
  go_loopw [0, 5, 6] (fun m s a wr => ∃ i : Nat, i ≤ k ∧ m = .int .i64 (n / 256 ^ i) ∧ s = .string (ofL (bL n i)) ∧ a = .int .i64 i ∧ Hid (Below w.heap.size w wr)) (fun _ _ a _ => k - (intOf a).toNat)
  case atStart => exact ⟨0, Nat.zero_le _, by simp, rfl, rfl, hide (Below.refl _ _)⟩
  case round =>
    obtain ⟨i, hi, rfl, rfl, rfl, hI⟩ := hrel
    obtain ⟨m, hm⟩ : ∃ m, m = n / 256 ^ i := ⟨_, rfl⟩
    have hm0 : 0 ≤ m := by rw [hm]; exact Int.ediv_nonneg h0 (Int.pow_nonneg (by omega))
    have hm1 : m ≤ 9223372036854775807 := by
      rw [hm]
      exact Int.le_trans (Int.ediv_le_self _ h0) h1
    by_cases hlt : i < k
    · have hki : (i : Int) < k := by omega
      have hib : (i : Int) ≤ 8 := by omega
      have hcv := convB (wr.alloc (.cells #[.int .u8 (m % 256)] 5)) wr.heap.size (m % 256) (by omega) (cellRow (allocN _ _) rfl)
      have HS : Hid (⟨#[UInt8.ofNat (m % 256).toNat]⟩ ++ ofL (bL n i) = ofL (bL n (i + 1))) := hide (by
        show ofL [UInt8.ofNat (m % 256).toNat] ++ ofL (bL n i) = _
        rw [ofL_append, bL, hm]; rfl)
      have HM : Hid (m / 256 = n / 256 ^ (i + 1)) := hide (by rw [hm, Int.ediv_ediv_of_nonneg (Int.pow_nonneg (by omega)), Int.pow_succ])
      have HN : Hid (Below w.heap.size w (wr.alloc (.cells #[.int .u8 (m % 256)] 5))) := hide (hI.out.alloc hI.out.size _)
      rw [← hm]
      clear hm
      have hbz : ¬ 9223372036854775807 < 1 + (ofL (bL n i)).size := by rw [ofL_size, bL_length]; omega
      generalize ofL (bL n i) = bs at *
      go_wp2
      go_roundw
      case rel => exact ⟨i + 1, by omega, by rw [HM.out], by rw [HS.out], by go_num, HN⟩
      case measure =>
        simp [intOf]
        omega
    · obtain rfl : i = k := by omega
      have hki : ¬ (i : Int) < i := by omega
      rw [← hm]
      go_wp2
      go_ret
      exact ⟨rfl, hI.out⟩

set_option maxRecDepth 100000 in
set_option maxHeartbeats 1000000 in
theorem ksum_any (b : ByteArray) (w : World) (h : 20 ≤ b.size) (hs : b.size ≤ 1000) : Calls Tryz.prog 17 #[.string b] w fun e w' => e = .returned (.int .i64 (hsum b 10)) ∧ Below w.heap.size w w' := by
  go_enter Tryz.func17, Tryz.ntmps17
  go_wp2
  go_loopw [3, 4] (fun s a wr => ∃ k : Nat, k ≤ 10 ∧ s = .int .i64 (hsum b k) ∧ a = .int .i64 ((2 * k : Nat) : Int) ∧ Hid (Below w.heap.size w wr)) (fun _ a _ => 20 - (intOf a).toNat)
  case atStart => exact ⟨0, Nat.zero_le _, rfl, rfl, hide (Below.refl _ _)⟩
  case round =>
    obtain ⟨k, hk, rfl, rfl, hI⟩ := hrel
    have hsl := hsum_le b k
    by_cases hlt : k < 10
    · have hki : ((2 * k : Nat) : Int) < 20 := by omega
      have hkb : 2 * k + 1 < b.size := by omega
      have j0 : 2 * k < b.size := by omega
      have hw : w16 b (2 * k) = (b[2 * k]'(by omega)).toNat * 256 + (b[2 * k + 1]'hkb).toNat := dif_pos hkb
      have hx := (b[2 * k]'(by omega)).toNat_lt
      have hy := (b[2 * k + 1]'hkb).toNat_lt
      have hsk : Hid (hsum b (k + 1) = ones (hsum b k) (w16 b (2 * k))) := hide rfl
      have i0 : ((2 * k : Nat) : Int) < b.size := by omega
      have i1 : ((2 * k : Nat) : Int) + 1 < b.size := by omega
      have i3 : (0 : Int) ≤ ((2 * k : Nat) : Int) + 1 := by omega
      obtain ⟨k2, hk2⟩ : ∃ k2, k2 = 2 * k := ⟨_, rfl⟩
      simp only [← hk2] at hkb j0 hw hx hy hsk i0 i1 i3 hki ⊢
      have hx1 : ∀ W : World, (Instr.index 9 (.string b) (.int .i64 (IntKind.i64.wrap ((k2 : Int) + 1)))).run Tryz.prog W = .ok (.int .u8 ((b[k2 + 1]'hkb).toNat : Int)) W := fun W => by
        rw [show IntKind.i64.wrap ((k2 : Int) + 1) = (k2 : Int) + 1 by rw [IntKind.wrap_i64]; omega]
        simp [go_sem, i1, i3]
      have hx0 : ∀ W : World, (Instr.index 9 (.string b) (.int .i64 (k2 : Int))).run Tryz.prog W = .ok (.int .u8 ((b[k2]'j0).toNat : Int)) W := fun W => by
        simp [go_sem, i0]
      generalize (b[k2 + 1]'hkb).toNat = y at *
      generalize (b[k2]'j0).toNat = x at *
      generalize hsum b k = z at *
      obtain ⟨z2, hz2⟩ : ∃ z2, z2 = hsum b (k + 1) := ⟨_, rfl⟩
      rw [← hz2] at hsk
      have HZ2 := hide hz2
      clear hz2
      have HK2 := hide hk2
      have HW := hide hw
      clear hk2 hw i1 i3 i0 j0 hkb
      have E : Hid (IntKind.i64.wrap (IntKind.i64.wrap ((z : Int) + IntKind.i64.wrap (256 * IntKind.i64.wrap (x : Int))) + IntKind.i64.wrap (y : Int)) = ((z + (x * 256 + y) : Nat) : Int)) := hide (by
        have e1 : IntKind.i64.wrap (x : Int) = x := by rw [IntKind.wrap_i64]; omega
        have e2 : IntKind.i64.wrap (y : Int) = y := by rw [IntKind.wrap_i64]; omega
        have e3 : IntKind.i64.wrap (256 * (x : Int)) = 256 * x := by rw [IntKind.wrap_i64]; omega
        have e4 : IntKind.i64.wrap ((z : Int) + 256 * x) = z + 256 * x := by rw [IntKind.wrap_i64]; omega
        have e5 : IntKind.i64.wrap ((z : Int) + 256 * x + y) = z + 256 * x + y := by rw [IntKind.wrap_i64]; omega
        rw [e1, e2, e3, e4, e5]
        omega)
      go_wp2
      refine wp_region_quiet_below (by kernel_rfl) (by kernel_rfl) ?_
      repeat (first | go_big_quiet_skip | quiet_step (fail))
      refine wpQuiet_nil ?_; intro wq hwq; replace hwq := below_of_regrown hwq; obtain ⟨hcq, hfq⟩ := bcell hwq; have hzq := hwq.size
      have HQ := hide hwq
      clear hcq hfq hwq
      rw [E.out]
      generalize hzz : z + (x * 256 + y) = zz at *
      have hzb : zz < 200000 := by omega
      have HZ := hide hzz
      clear hzz E
      go_wp2
      go_roundw
      case rel => exact ⟨k + 1, by omega, by rw [← HZ2.out, hsk.out, HW.out]; unfold ones; rw [HZ.out]; go_num, by rw [HK2.out]; go_num, hide (hI.out.trans (HQ.out.mono hI.out.size))⟩
      case measure =>
        have h7 := HK2.out
        simp [intOf]
        omega
    · obtain rfl : k = 10 := by omega
      clear hsl
      go_wp2
      go_ret
      exact ⟨rfl, hI.out⟩

/-- A right packet of these numbers, without its sum. -/
def hdL (ttl pr : Int) (len : Nat) : List UInt8 := [69, 0] ++ bL (20 + len) 2 ++ [0, 0, 0, 0] ++ bL ttl 1 ++ bL pr 1
def tlL (fr to : Int) : List UInt8 := bL fr 4 ++ bL to 4
/-- The number that makes its sum right. -/
def csN (ttl pr fr to : Int) (len : Nat) : Nat := 65535 - hsum (ofL (hdL ttl pr len ++ [0, 0] ++ tlL fr to)) 10
def pkL (ttl pr fr to : Int) (rest : List UInt8) : List UInt8 := hdL ttl pr rest.length ++ bL (csN ttl pr fr to rest.length) 2 ++ tlL fr to ++ rest
theorem hdL_length (ttl pr : Int) (len : Nat) : (hdL ttl pr len).length = 10 := by simp [hdL, bL_length]
theorem tlL_length (fr to : Int) : (tlL fr to).length = 8 := by simp [tlL, bL_length]
set_option maxRecDepth 100000 in
set_option maxHeartbeats 1000000 in
theorem kpacket_any (ttl pr fr to : Int) (rest : List UInt8) (w : World) (h0 : 0 ≤ ttl ∧ ttl < 65536) (h1 : 0 ≤ pr ∧ pr < 65536) (h2 : 0 ≤ fr ∧ fr < 4294967296) (h3 : 0 ≤ to ∧ to < 4294967296) (h4 : rest.length ≤ 500) :
    Calls Tryz.prog 16 #[.int .i64 ttl, .int .i64 pr, .int .i64 fr, .int .i64 to, .string (ofL rest)] w fun e w' => e = .returned (.string (ofL (pkL ttl pr fr to rest))) ∧ Below w.heap.size w w' := by
  have hlen : (ofL rest).size = rest.length := ofL_size _
  have B1 := hide fun (W : World) => kbytes_any (20 + (rest.length : Int)) 2 W (by omega) (by omega) (by omega)
  have B2 := hide fun (W : World) => kbytes_any ttl 1 W (by omega) (by omega) (by omega)
  have B3 := hide fun (W : World) => kbytes_any pr 1 W (by omega) (by omega) (by omega)
  have B4 := hide fun (W : World) => kbytes_any fr 4 W (by omega) (by omega) (by omega)
  have B5 := hide fun (W : World) => kbytes_any to 4 W (by omega) (by omega) (by omega)
  obtain ⟨z, hz⟩ : ∃ z, z = hsum (ofL (hdL ttl pr rest.length ++ [0, 0] ++ tlL fr to)) 10 := ⟨_, rfl⟩
  have hzl : z ≤ 65535 := by rw [hz]; exact hsum_le _ _
  have BS := hide fun (W : World) => ksum_any (ofL (hdL ttl pr rest.length ++ [0, 0] ++ tlL fr to)) W (by rw [ofL_size]; simp [hdL_length, tlL_length]) (by rw [ofL_size]; simp [hdL_length, tlL_length])
  have hc : (csN ttl pr fr to rest.length : Int) = 65535 - (z : Int) := by unfold csN; rw [← hz]; omega
  have B6 := hide fun (W : World) => kbytes_any (65535 - (z : Int)) 2 W (by omega) (by omega) (by omega)
  rw [← hz] at BS
  have HH : ofL [69, 0] ++ ofL (bL (20 + (rest.length : Int)) 2) ++ ofL [0, 0, 0, 0] ++ ofL (bL ttl 1) ++ ofL (bL pr 1) = ofL (hdL ttl pr rest.length) := by
    simp only [ofL_append, hdL]
  have HT : ofL (bL fr 4) ++ ofL (bL to 4) = ofL (tlL fr to) := ofL_append _ _
  have HF : ofL (pkL ttl pr fr to rest) = ofL (hdL ttl pr rest.length) ++ ofL (bL (65535 - (z : Int)) 2) ++ ofL (tlL fr to) ++ ofL rest := by
    unfold pkL
    rw [hc]
    simp only [ofL_append]
  have HG : ofL (hdL ttl pr rest.length ++ [0, 0] ++ tlL fr to) = ofL (hdL ttl pr rest.length) ++ ofL [0, 0] ++ ofL (tlL fr to) := by
    simp only [ofL_append]
  rw [HF]
  rw [HG] at BS
  clear HF HG hc hz
  have s1 : (ofL (bL (20 + (rest.length : Int)) 2)).size = 2 := by rw [ofL_size, bL_length]
  have s2 : (ofL (bL ttl 1)).size = 1 := by rw [ofL_size, bL_length]
  have s3 : (ofL (bL pr 1)).size = 1 := by rw [ofL_size, bL_length]
  have s4 : (ofL (bL fr 4)).size = 4 := by rw [ofL_size, bL_length]
  have s5 : (ofL (bL to 4)).size = 4 := by rw [ofL_size, bL_length]
  have s6 : (ofL (bL (65535 - (z : Int)) 2)).size = 2 := by rw [ofL_size, bL_length]
  have s7 : (ofL (hdL ttl pr rest.length)).size = 10 := by rw [ofL_size, hdL_length]
  have s8 : (ofL (tlL fr to)).size = 8 := by rw [ofL_size, tlL_length]
  generalize ofL (bL (20 + (rest.length : Int)) 2) = x1 at *
  generalize ofL (bL ttl 1) = x2 at *
  generalize ofL (bL pr 1) = x3 at *
  generalize ofL (bL fr 4) = x4 at *
  generalize ofL (bL to 4) = x5 at *
  generalize ofL (bL (65535 - (z : Int)) 2) = x6 at *
  generalize ofL (hdL ttl pr rest.length) = x7 at *
  generalize ofL (tlL fr to) = x8 at *
  generalize ofL rest = x9 at *
  have hn : (x9.size : Int) ≤ 500 := by omega
  rw [← hlen] at B1
  have HH' : Hid (⟨#[69, 0]⟩ ++ x1 ++ ⟨#[0, 0, 0, 0]⟩ ++ x2 ++ x3 = x7) := hide HH
  have HT' := hide HT
  clear HH HT h4 hlen
  go_enter Tryz.func16, Tryz.ntmps16
  go_wp2_with fail
  refine (B1.out _).mono ?_
  rintro e W1 ⟨rfl, hb1⟩
  go_wp2_with fail
  refine (B2.out _).mono ?_
  rintro e W2 ⟨rfl, hb2⟩
  go_wp2_with fail
  refine (B3.out _).mono ?_
  rintro e W3 ⟨rfl, hb3⟩
  have HB3 := hide ((hb1.trans (hb2.mono hb1.size)).trans (hb3.mono (hb1.trans (hb2.mono hb1.size)).size))
  clear hb1 hb2 hb3 B1 B2 B3
  go_wp2_with fail
  rw [HH'.out]
  refine (B4.out _).mono ?_
  rintro e W4 ⟨rfl, hb4⟩
  go_wp2_with fail
  refine (B5.out _).mono ?_
  rintro e W5 ⟨rfl, hb5⟩
  have HB5 := hide ((HB3.out.trans (hb4.mono HB3.out.size)).trans (hb5.mono (HB3.out.trans (hb4.mono HB3.out.size)).size))
  clear hb4 hb5 B4 B5 HB3
  go_wp2_with fail
  rw [HT'.out]
  refine (BS.out _).mono ?_
  rintro e W6 ⟨rfl, hb6⟩
  go_wp2_with fail
  refine (B6.out _).mono ?_
  rintro e W7 ⟨rfl, hb7⟩
  have HB7 := hide ((HB5.out.trans (hb6.mono HB5.out.size)).trans (hb7.mono (HB5.out.trans (hb6.mono HB5.out.size)).size))
  clear hb6 hb7 BS B6 HB5
  go_wp2
  go_ret
  exact ⟨rfl, HB7.out⟩
end Go.Proofs.YtaejpejfmpbinaaGreatDoor
