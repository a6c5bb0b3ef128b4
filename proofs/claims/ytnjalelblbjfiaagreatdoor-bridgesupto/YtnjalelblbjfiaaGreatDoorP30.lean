import Derived.Test.YtnjalelblbjfiaaGreatDoorP29
import Derived.Deep.RegionHeld3
namespace Go.Proofs.YtnjalelblbjfiaaGreatDoor
open Go.RowKit
open Go.Sort (grow)
attribute [local go_sem] cell?_regrown

/-- The number of four bytes at a place. -/
def a32 (b : ByteArray) (i : Nat) : Nat := w16 b i * 65536 + w16 b (i + 2)
theorem a32_lt (b : ByteArray) (i : Nat) : a32 b i < 4294967296 := by
  have h1 := w16_lt b i
  have h2 := w16_lt b (i + 2)
  unfold a32
  omega
theorem or_words (x y : Nat) (hx : x < 65536) (hy : y < 65536) : bits BinOp.or IntKind.i64 (IntKind.i64.wrap ((x : Int) * 65536)) y = ((x * 65536 + y : Nat) : Int) := by
  have e0 : IntKind.i64.wrap ((x : Int) * 65536) = (x : Int) * 65536 := by rw [IntKind.wrap_i64]; omega
  have e : (x : Int) * 65536 = ((x * 65536 : Nat) : Int) := by omega
  rw [e0, e, i64_or_nat _ _ (by omega) (by omega)]
  congr 1
  have := Nat.shiftLeft_add_eq_or_of_lt (i := 16) (b := y) (by omega) x
  rw [Nat.shiftLeft_eq] at this
  exact this.symm

set_option maxRecDepth 100000 in
set_option maxHeartbeats 1000000 in
theorem pAddress_any (b : ByteArray) (hd tt : Int) (i : Nat) (w : World) (h : i + 3 < b.size) (hs : b.size ≤ 1000) :
    Calls Tryz.prog 173 #[.agg #[.string b, .int .i64 hd, .int .i64 tt], .int .i64 i] w fun e w' => e = .returned (.int .i64 (a32 b i)) ∧ Below w.heap.size w w' := by
  have e2 : IntKind.i64.wrap ((i : Int) + 2) = ((i + 2 : Nat) : Int) := by rw [IntKind.wrap_i64]; omega
  have HO : Hid (bits BinOp.or IntKind.i64 (IntKind.i64.wrap ((w16 b i : Int) * 65536)) (w16 b (i + 2)) = ((a32 b i : Nat) : Int)) := hide (or_words _ _ (w16_lt b i) (w16_lt b (i + 2)))
  go_enter Tryz.func173, Tryz.ntmps173
  go_wp2
  obtain ⟨W0, hW0⟩ : ∃ W0, W0 = w.alloc (.cells #[.string b, .int .i64 hd, .int .i64 tt] 148) := ⟨_, rfl⟩
  have c0 : W0.cell? ⟨w.heap.size, 0, none⟩ = some (.string b) := by rw [hW0]; exact cellRow (allocN _ _) rfl
  have c1 : W0.cell? ⟨w.heap.size, 1, none⟩ = some (.int .i64 hd) := by rw [hW0]; exact cellRow (allocN _ _) rfl
  have c2 : W0.cell? ⟨w.heap.size, 2, none⟩ = some (.int .i64 tt) := by rw [hW0]; exact cellRow (allocN _ _) rfl
  have hlt : w.heap.size < W0.heap.size := by rw [hW0]; simp
  have HB : Hid (Below w.heap.size w W0) := hide (by rw [hW0]; exact (Below.refl _ w).alloc (Nat.le_refl _) _)
  have C1 := hide fun (d : Nat) (os : Array Obj) => pWord_any b hd tt i (grow (redrawn W0 d) os) (by omega) hs
  have C2 := hide fun (d : Nat) (os : Array Obj) => pWord_any b hd tt (i + 2) (grow (redrawn W0 d) os) (by omega) hs
  rw [← e2] at C2
  rw [← hW0]
  generalize w16 b i = x at *
  generalize w16 b (i + 2) = y at *
  clear hW0 e2 h
  refine wp_region_quiet_below (by kernel_rfl) (by kernel_rfl) ?_
  repeat (first | go_big_quiet_skip | quiet_step (fail))
  quiet_step (exact Calls.regrown_of (C1.out _ _))
  repeat (first | go_big_quiet_skip | quiet_step (fail))
  quiet_step (exact Calls.regrown_of (C2.out _ _))
  repeat (first | go_big_quiet_skip | quiet_step (fail))
  refine wpQuiet_nil ?_; intro wq hwq; replace hwq := below_of_regrown hwq; obtain ⟨hcq, hfq⟩ := bcell hwq; have hzq := hwq.size
  have HQ := hide hwq
  clear hcq hfq hwq
  go_wp2
  go_ret
  exact ⟨retInt (by rw [HO.out]), HB.out.trans (HQ.out.mono (Nat.le_of_lt hlt))⟩

set_option maxRecDepth 100000 in
theorem pDest_any (b : ByteArray) (hd tt : Int) (w : World) (h : 20 ≤ b.size) (hs : b.size ≤ 1000) :
    Calls Tryz.prog 115 #[.agg #[.string b, .int .i64 hd, .int .i64 tt]] w fun e w' => e = .returned (.int .i64 (a32 b 16)) ∧ Below w.heap.size w w' := by
  have C : Hid (∀ W : World, Calls Tryz.prog 173 #[.agg #[.string b, .int .i64 hd, .int .i64 tt], .int .i64 16] W fun e w' => e = .returned (.int .i64 (a32 b 16)) ∧ Below W.heap.size W w') := hide fun W => pAddress_any b hd tt 16 W (by omega) hs
  go_enter Tryz.func115, Tryz.ntmps115
  go_wp2_with fail
  refine (C.out _).mono ?_
  rintro e W1 ⟨rfl, hb⟩
  go_wp2
  go_ret
  exact ⟨rfl, ((Below.refl _ w).alloc (Nat.le_refl _) _).trans (hb.mono (by simp))⟩

/-- A byte at a place. -/
def b8 (b : ByteArray) (i : Nat) : Nat := if h : i < b.size then (b[i]'h).toNat else 0
theorem b8_lt (b : ByteArray) (i : Nat) : b8 b i < 256 := by
  unfold b8
  split
  · rename_i h
    exact (b[i]'h).toNat_lt
  · omega
theorem index_b8 (b : ByteArray) (i : Nat) (h : i < b.size) (W : World) : (Instr.index 9 (.string b) (.int .i64 (i : Int))).run Tryz.prog W = .ok (.int .u8 (b8 b i : Int)) W := by
  have i0 : (i : Int) < b.size := by omega
  have e : b8 b i = (b[i]'h).toNat := dif_pos h
  rw [e]
  simp [go_sem, i0]
set_option maxRecDepth 100000 in
theorem pTTL_any (b : ByteArray) (hd tt : Int) (w : World) (h : 20 ≤ b.size) :
    Calls Tryz.prog 113 #[.agg #[.string b, .int .i64 hd, .int .i64 tt]] w fun e w' => e = .returned (.int .i64 (b8 b 8)) ∧ Below w.heap.size w w' := by
  have hx : ∀ W : World, (Instr.index 9 (.string b) (.int .i64 8)).run Tryz.prog W = .ok (.int .u8 (b8 b 8 : Int)) W := fun W => index_b8 b 8 (by omega) W
  have hl := b8_lt b 8
  generalize b8 b 8 = x at *
  go_enter Tryz.func113, Tryz.ntmps113
  go_wp2
  go_ret
  exact ⟨rfl, (Below.refl _ w).alloc (Nat.le_refl _) _⟩

/-- Whether ports stand behind the header. -/
def hasPt (b : ByteArray) : Bool := (b8 b 9 == 6 || b8 b 9 == 17) && (w16 b 6 % 8192 == 0) && decide (ihl b + 4 ≤ w16 b 2)
theorem and_13 (n : Nat) (h : n < 65536) : bits BinOp.and IntKind.i64 (n : Int) 8191 = ((n % 8192 : Nat) : Int) := by
  have := i64_and_nat n 8191 (by omega) (by omega)
  rw [show ((8191 : Nat) : Int) = 8191 from rfl] at this
  rw [this]
  congr 1
  exact Nat.and_two_pow_sub_one_eq_mod n 13
set_option maxRecDepth 100000 in
set_option maxHeartbeats 1000000 in
theorem pHasPorts_any (b : ByteArray) (w : World) (h : 20 ≤ b.size) (hs : b.size ≤ 1000) :
    Calls Tryz.prog 174 #[.agg #[.string b, .int .i64 (ihl b), .int .i64 (w16 b 2)]] w fun e w' => e = .returned (.bool (hasPt b)) ∧ Below w.heap.size w w' := by
  have hx : ∀ W : World, (Instr.index 9 (.string b) (.int .i64 9)).run Tryz.prog W = .ok (.int .u8 (b8 b 9 : Int)) W := fun W => index_b8 b 9 (by omega) W
  have hl := b8_lt b 9
  have han := and_13 _ (w16_lt b 6)
  have hi := ihl_le b
  have hw := w16_lt b 2
  obtain ⟨hp, hhp⟩ : ∃ hp, hp = hasPt b := ⟨_, rfl⟩
  rw [← hhp]
  have HP := hide hhp
  have HAN := hide han
  clear hhp han
  go_enter Tryz.func174, Tryz.ntmps174
  go_wp2
  obtain ⟨W0, hW0⟩ : ∃ W0, W0 = w.alloc (.cells #[.string b, .int .i64 (ihl b), .int .i64 (w16 b 2)] 148) := ⟨_, rfl⟩
  have c0 : W0.cell? ⟨w.heap.size, 0, none⟩ = some (.string b) := by rw [hW0]; exact cellRow (allocN _ _) rfl
  have c1 : W0.cell? ⟨w.heap.size, 1, none⟩ = some (.int .i64 (ihl b)) := by rw [hW0]; exact cellRow (allocN _ _) rfl
  have c2 : W0.cell? ⟨w.heap.size, 2, none⟩ = some (.int .i64 (w16 b 2)) := by rw [hW0]; exact cellRow (allocN _ _) rfl
  have hlt : w.heap.size < W0.heap.size := by rw [hW0]; simp
  have HB : Hid (Below w.heap.size w W0) := hide (by rw [hW0]; exact (Below.refl _ w).alloc (Nat.le_refl _) _)
  have C1 : Hid (∀ (d : Nat) (os : Array Obj), Calls Tryz.prog 171 #[.agg #[.string b, .int .i64 (ihl b), .int .i64 (w16 b 2)], .int .i64 6] (grow (redrawn W0 d) os) fun e w' => e = .returned (.int .i64 (w16 b 6)) ∧ Below (grow (redrawn W0 d) os).heap.size (grow (redrawn W0 d) os) w') := hide fun d os => pWord_any b (ihl b) (w16 b 2) 6 (grow (redrawn W0 d) os) (by omega) hs
  rw [← hW0]
  clear hW0
  refine wp_region_quiet_below (by kernel_rfl) (by kernel_rfl) ?_
  repeat (first | go_big_quiet_skip | quiet_step (exact Calls.regrown_of (C1.out _ _)))
  refine wpQuiet_nil ?_; intro wq hwq; replace hwq := below_of_regrown hwq; obtain ⟨hcq, hfq⟩ := bcell hwq; have hzq := hwq.size
  have q1 := cell_later hwq c1
  have q2 := cell_later hwq c2
  have HQ : Hid (Below w.heap.size w wq) := hide (HB.out.trans (hwq.mono (Nat.le_of_lt hlt)))
  clear hcq hfq hwq c0 c1 c2 C1 hx
  have HPX : Hid (hp = ((b8 b 9 == 6 || b8 b 9 == 17) && (w16 b 6 % 8192 == 0) && decide (ihl b + 4 ≤ w16 b 2))) := HP
  rw [HAN.out]
  clear HAN HP HB
  generalize b8 b 9 = pr at *
  generalize w16 b 6 = fr at *
  generalize ihl b = ih at *
  generalize w16 b 2 = tt at *
  obtain ⟨off, hoff⟩ : ∃ off, off = fr % 8192 := ⟨_, rfl⟩
  rw [← hoff] at HPX ⊢
  clear hoff
  have fin : ∀ b1 b2 b3 : Bool, (pr == 6 || pr == 17) = b1 → (off == 0) = b2 → decide (ih + 4 ≤ tt) = b3 → hp = (b1 && b2 && b3) := fun b1 b2 b3 e1 e2 e3 => by rw [HPX.out, e1, e2, e3]
  clear HPX
  by_cases e1 : pr = 6
  · have i1 : (pr : Int) = 6 := by omega
    by_cases e2 : off = 0
    · have i2 : (off : Int) = 0 := by omega
      by_cases e3 : ih + 4 ≤ tt
      · have i3 : (ih : Int) + 4 ≤ tt := by omega
        obtain rfl := fin true true true (by simp [e1]) (by simp [e2]) (by simp [e3])
        clear fin e1 e2 e3
        go_wp2
        go_ret
        exact ⟨rfl, HQ.out⟩
      · have i3 : ¬ (ih : Int) + 4 ≤ tt := by omega
        obtain rfl := fin true true false (by simp [e1]) (by simp [e2]) (by simp [e3])
        clear fin e1 e2 e3
        go_wp2
        go_ret
        exact ⟨rfl, HQ.out⟩
    · have i2 : ¬ (off : Int) = 0 := by omega
      obtain rfl := fin true false (decide (ih + 4 ≤ tt)) (by simp [e1]) (by simp [e2]) rfl
      clear fin e1 e2
      go_wp2
      go_ret
      exact ⟨rfl, HQ.out⟩
  · have i1 : ¬ (pr : Int) = 6 := by omega
    by_cases e4 : pr = 17
    · have i4 : (pr : Int) = 17 := by omega
      by_cases e2 : off = 0
      · have i2 : (off : Int) = 0 := by omega
        by_cases e3 : ih + 4 ≤ tt
        · have i3 : (ih : Int) + 4 ≤ tt := by omega
          obtain rfl := fin true true true (by simp [e4]) (by simp [e2]) (by simp [e3])
          clear fin e1 e2 e3 e4
          go_wp2
          go_ret
          exact ⟨rfl, HQ.out⟩
        · have i3 : ¬ (ih : Int) + 4 ≤ tt := by omega
          obtain rfl := fin true true false (by simp [e4]) (by simp [e2]) (by simp [e3])
          clear fin e1 e2 e3 e4
          go_wp2
          go_ret
          exact ⟨rfl, HQ.out⟩
      · have i2 : ¬ (off : Int) = 0 := by omega
        obtain rfl := fin true false (decide (ih + 4 ≤ tt)) (by simp [e4]) (by simp [e2]) rfl
        clear fin e1 e2 e4
        go_wp2
        go_ret
        exact ⟨rfl, HQ.out⟩
    · have i4 : ¬ (pr : Int) = 17 := by omega
      obtain rfl := fin false (off == 0) (decide (ih + 4 ≤ tt)) (by simp [e1, e4]) rfl rfl
      clear fin e1 e4
      go_wp2
      go_ret
      exact ⟨rfl, HQ.out⟩
end Go.Proofs.YtnjalelblbjfiaaGreatDoor

namespace Go.Proofs.YtnjalelblbjfiaaGreatDoor
open Go.RowKit
open Go.Sort (grow)

theorem results_cell1 {fn : Func} {p : Tmp} {ty : TypeId} (h : fn.results = #[.cell p ty]) (tmps : Array Value) (P : Program) (w : World) :
    (results fn tmps).run P w = ((asAddr (tmps.getD p undef)).run P w).andThen fun a w₁ => (loadVar ty a).run P w₁ := by
  simp only [results, h]
  simp [Sem.run_bind]
theorem ret_key {tmps : Array Value} {W : World} {b : Nat} {x0 x1 x2 x3 x4 : Value} (hb : W.heap[b]? = some (.cells #[x0, x1, x2, x3, x4] 39 (0, 0))) (hp : tmps.getD 2 undef = .pointer (some ⟨b, 0, none⟩)) :
    (results Tryz.f110 tmps).run Tryz.prog W = .ok (.agg #[x0, x1, x2, x3, x4]) W := by
  rw [results_cell1 (fn := Tryz.f110) (p := 2) (ty := 39) rfl, hp]
  have hi : (Tryz.prog.info? 39).map (·.size) = some (#[x0, x1, x2, x3, x4] : Array Value).size := by kernel_rfl
  simp [asAddr, run_loadVar_row W b 39 39 #[x0, x1, x2, x3, x4] (0, 0) _ hb Tryz.underlying39 rfl hi, Result.andThen]

theorem row5_set {W : World} {b : Nat} {t : TypeId} {x0 x1 x2 x3 x4 v0 v1 v2 v3 v4 : Value} (h : W.heap[b]? = some (.cells #[x0, x1, x2, x3, x4] t (0, 0))) :
    (((((W.setCell ⟨b, 0, none⟩ v0).setCell ⟨b, 1, none⟩ v1).setCell ⟨b, 2, none⟩ v2).setCell ⟨b, 3, none⟩ v3).setCell ⟨b, 4, none⟩ v4).heap[b]? = some (.cells #[v0, v1, v2, v3, v4] t (0, 0)) := by
  have h0 := heap_setCell_same W b 0 _ _ v0 h
  have h1 := heap_setCell_same _ b 1 _ _ v1 h0
  have h2 := heap_setCell_same _ b 2 _ _ v2 h1
  have h3 := heap_setCell_same _ b 3 _ _ v3 h2
  have h4 := heap_setCell_same _ b 4 _ _ v4 h3
  simpa using h4
theorem row5_low {W w : World} {b B : Nat} {v0 v1 v2 v3 v4 : Value} (h : Below B w W) (hB : B ≤ b) :
    Below B w (((((W.setCell ⟨b, 0, none⟩ v0).setCell ⟨b, 1, none⟩ v1).setCell ⟨b, 2, none⟩ v2).setCell ⟨b, 3, none⟩ v3).setCell ⟨b, 4, none⟩ v4) :=
  ((((h.setCell hB _).setCell hB _).setCell hB _).setCell hB _).setCell hB _
theorem row5_ex {W w : World} {b B : Nat} {t : TypeId} {x0 x1 x2 x3 x4 : Value} (v0 v1 v2 v3 v4 : Value) (h : W.heap[b]? = some (.cells #[x0, x1, x2, x3, x4] t (0, 0))) (hw : Below B w W) (hB : B ≤ b) :
    ∃ W2, W2 = (((((W.setCell ⟨b, 0, none⟩ v0).setCell ⟨b, 1, none⟩ v1).setCell ⟨b, 2, none⟩ v2).setCell ⟨b, 3, none⟩ v3).setCell ⟨b, 4, none⟩ v4) ∧ W2.heap[b]? = some (.cells #[v0, v1, v2, v3, v4] t (0, 0)) ∧ Below B w W2 ∧ B ≤ b := ⟨_, rfl, row5_set h, row5_low hw hB, hB⟩
theorem row5_new {W w : World} {B : Nat} (cs : Array Value) (t : TypeId) (hw : Below B w W) (hB : B ≤ W.heap.size) :
    ∃ W2, W2 = W.alloc (.cells cs t) ∧ W2.heap[W.heap.size]? = some (.cells cs t (0, 0)) ∧ Below B w W2 ∧ B ≤ W.heap.size := ⟨_, rfl, allocN W _, hw.alloc hB _, hB⟩
/-- A packet's ports. -/
def pt0 (b : ByteArray) : Nat := if hasPt b then w16 b (ihl b) else 0
def pt1 (b : ByteArray) : Nat := if hasPt b then w16 b (ihl b + 2) else 0
set_option maxRecDepth 100000 in
set_option maxHeartbeats 2000000 in
theorem pKey_any (b : ByteArray) (w : World) (h : 20 ≤ b.size) (hs : b.size ≤ 1000) (ht : w16 b 2 ≤ b.size) :
    Calls Tryz.prog 110 #[.agg #[.string b, .int .i64 (ihl b), .int .i64 (w16 b 2)]] w fun e w' => e = .returned (.agg #[.int .i64 (a32 b 12), .int .i64 (a32 b 16), .int .i64 (b8 b 9), .int .i64 (pt0 b), .int .i64 (pt1 b)]) ∧ Below w.heap.size w w' := by
  have hx : ∀ W : World, (Instr.index 9 (.string b) (.int .i64 9)).run Tryz.prog W = .ok (.int .u8 (b8 b 9 : Int)) W := fun W => index_b8 b 9 (by omega) W
  have hl := b8_lt b 9
  have CA : Hid (∀ W : World, Calls Tryz.prog 173 #[.agg #[.string b, .int .i64 (ihl b), .int .i64 (w16 b 2)], .int .i64 12] W fun e w' => e = .returned (.int .i64 (a32 b 12)) ∧ Below W.heap.size W w') := hide fun W => pAddress_any b _ _ 12 W (by omega) hs
  have CD := hide fun (W : World) => pDest_any b (ihl b) (w16 b 2) W h hs
  have CH := hide fun (W : World) => pHasPorts_any b W h hs
  go_enter Tryz.func110, Tryz.ntmps110
  go_wp2_with fail
  obtain ⟨W0, hW0⟩ : ∃ W0, W0 = (w.alloc (.cells #[.string b, .int .i64 (ihl b), .int .i64 (w16 b 2)] 148)).alloc (.cells #[.int .i64 0, .int .i64 0, .int .i64 0, .int .i64 0, .int .i64 0] 39) := ⟨_, rfl⟩
  have A0 : W0.heap[w.heap.size]? = some (.cells #[.string b, .int .i64 (ihl b), .int .i64 (w16 b 2)] 148 (0, 0)) := by rw [hW0]; exact (((Below.refl _ (w.alloc _)).alloc (Nat.le_refl _) _).block _ (by simp)).trans (allocN _ _)
  have A1 : W0.heap[w.heap.size + 1]? = some (.cells #[.int .i64 0, .int .i64 0, .int .i64 0, .int .i64 0, .int .i64 0] 39 (0, 0)) := by
    rw [hW0]
    have := allocN (w.alloc (.cells #[.string b, .int .i64 (ihl b), .int .i64 (w16 b 2)] 148)) (.cells #[.int .i64 0, .int .i64 0, .int .i64 0, .int .i64 0, .int .i64 0] 39)
    rwa [World.size_alloc] at this
  have HB0 : Hid (Below w.heap.size w W0) := hide (by rw [hW0]; exact ((Below.refl _ w).alloc (Nat.le_refl _) _).alloc (by simp) _)
  have hs0 : W0.heap.size = w.heap.size + 2 := by rw [hW0]; simp
  rw [← hW0]
  have c0 : W0.cell? ⟨w.heap.size, 0, none⟩ = some (.string b) := cellRow A0 rfl
  have c1 : W0.cell? ⟨w.heap.size, 1, none⟩ = some (.int .i64 (ihl b)) := cellRow A0 rfl
  have c2 : W0.cell? ⟨w.heap.size, 2, none⟩ = some (.int .i64 (w16 b 2)) := cellRow A0 rfl
  have n1 : ¬ w.heap.size = W0.heap.size := by omega
  have n2 : ¬ W0.heap.size = w.heap.size := by omega
  have hww : w.heap.size < W0.heap.size := by omega
  have hwx : w.heap.size ≤ W0.heap.size := by omega
  have HS0 := hide hs0
  clear hW0 hs0
  generalize hx0 : a32 b 12 = x0 at *
  generalize hx1 : a32 b 16 = x1 at *
  generalize hx2' : b8 b 9 = x2 at *
  have HX0 := hide hx0
  have HX1 := hide hx1
  have HX2 := hide hx2'
  clear hx0 hx1 hx2'
  rename_i Kc hKc
  have REST : ∀ (kb : Nat) (W2 : World), W2.heap[kb]? = some (.cells #[.int .i64 x0, .int .i64 x1, .int .i64 x2, .int .i64 0, .int .i64 0] 39 (0, 0)) → Below W0.heap.size W0 W2 → W0.heap.size ≤ kb → Kc { tmps := #[.agg #[.string b, .int .i64 (ihl b), .int .i64 (w16 b 2)], .pointer (some ⟨w.heap.size, 0, none⟩), .pointer (some ⟨w.heap.size + 1, 0, none⟩), .pointer (some ⟨kb, 0, none⟩), .agg #[.string b, .int .i64 (ihl b), .int .i64 (w16 b 2)], .int .i64 x0, .agg #[.string b, .int .i64 (ihl b), .int .i64 (w16 b 2)], .int .i64 x1, .pointer (some ⟨w.heap.size, 0, none⟩), .string b, .int .u8 x2, .int .i64 x2, .agg #[.int .i64 x0, .int .i64 x1, .int .i64 x2, .int .i64 0, .int .i64 0], undef, undef, undef, undef, undef, undef, undef, undef, undef, undef, undef, undef, undef, undef], defers := [] } W2 := by
    intro kb W2 KB LB LK
    have R0 := (LB.block _ (lt_of_heap A0)).trans A0
    have R1 := (LB.block _ (lt_of_heap A1)).trans A1
    have BL : Below w.heap.size w W2 := HB0.out.trans (LB.mono hwx)
    have hkb : w.heap.size + 1 < kb := by have := HS0.out; omega
    refine hKc _ _ ?_
    have p0 : W2.cell? ⟨w.heap.size, 0, none⟩ = some (.string b) := cellRow R0 rfl
    have p1 : W2.cell? ⟨w.heap.size, 1, none⟩ = some (.int .i64 (ihl b)) := cellRow R0 rfl
    have p2 : W2.cell? ⟨w.heap.size, 2, none⟩ = some (.int .i64 (w16 b 2)) := cellRow R0 rfl
    clear CA CD LB c0 c1 c2 A0 A1 HB0
    go_wp2_with fail
    refine (CH.out _).mono ?_
    rintro e W3 ⟨rfl, hb3⟩
    have KB3 := (hb3.block _ (lt_of_heap KB)).trans KB
    have R03 := (hb3.block _ (lt_of_heap R0)).trans R0
    have R13 := (hb3.block _ (lt_of_heap R1)).trans R1
    have BL3 : Below w.heap.size w W3 := BL.trans (hb3.mono BL.size)
    clear hb3 KB R0 R1 BL p0 p1 p2 CH
    cases hpt : hasPt b with
    | false =>
      have HE0 : Hid (pt0 b = 0) := hide (by unfold pt0; rw [hpt]; rfl)
      have HE1 : Hid (pt1 b = 0) := hide (by unfold pt1; rw [hpt]; rfl)
      clear hpt R03
      have k0 := cellRow (j := 0) KB3 rfl
      have k1 := cellRow (j := 1) KB3 rfl
      have k2 := cellRow (j := 2) KB3 rfl
      have k3 := cellRow (j := 3) KB3 rfl
      have k4 := cellRow (j := 4) KB3 rfl
      have t0 := cellRow (j := 0) R13 rfl
      have t1 := cellRow (j := 1) R13 rfl
      have t2 := cellRow (j := 2) R13 rfl
      have t3 := cellRow (j := 3) R13 rfl
      have t4 := cellRow (j := 4) R13 rfl
      have tf := fun j => frzRow R13 j
      have HZ := hide (row5_ex (.int .i64 x0) (.int .i64 x1) (.int .i64 x2) (.int .i64 0) (.int .i64 0) R13 BL3 (by omega))
      clear KB3 R13 BL3
      go_wp2
      obtain ⟨W9, hW9, Z1, Z2, _⟩ := HZ.out
      rw [← hW9]
      refine bodyPost_ret (ret_key Z1 rfl) rfl ?_
      exact ⟨by rw [HX0.out, HX1.out, HX2.out, HE0.out, HE1.out]; rfl, Z2⟩
    | true =>
      have HE0 : Hid (pt0 b = w16 b (ihl b)) := hide (by unfold pt0; rw [hpt]; rfl)
      have HE1 : Hid (pt1 b = w16 b (ihl b + 2)) := hide (by unfold pt1; rw [hpt]; rfl)
      have hih := ihl_le b
      have hle : ihl b + 4 ≤ b.size := by
        unfold hasPt at hpt
        simp only [Bool.and_eq_true, decide_eq_true_eq] at hpt
        omega
      have e2 : IntKind.i64.wrap ((ihl b : Int) + 2) = ((ihl b + 2 : Nat) : Int) := by rw [IntKind.wrap_i64]; omega
      have C1 := hide fun (W : World) => pWord_any b (ihl b) (w16 b 2) (ihl b) W (by omega) hs
      have C2 := hide fun (W : World) => pWord_any b (ihl b) (w16 b 2) (ihl b + 2) W (by omega) hs
      rw [← e2] at C2
      have d0 : W3.cell? ⟨w.heap.size, 0, none⟩ = some (.string b) := cellRow R03 rfl
      have d1 : W3.cell? ⟨w.heap.size, 1, none⟩ = some (.int .i64 (ihl b)) := cellRow R03 rfl
      have d2 : W3.cell? ⟨w.heap.size, 2, none⟩ = some (.int .i64 (w16 b 2)) := cellRow R03 rfl
      have hw3 : w.heap.size < W3.heap.size := lt_of_heap R03
      have nk1 : ¬ kb = w.heap.size := by omega
      have nk2 : ¬ w.heap.size = kb := by omega
      have q := KB3
      have r0 := R03
      have r1 := R13
      have bl := BL3
      generalize w16 b (ihl b) = y3 at *
      generalize w16 b (ihl b + 2) = y4 at *
      clear hpt e2 hle KB3 R03 R13 BL3
      go_wp2_with fail
      go_region_held3 (fun w' => w'.cell? ⟨w.heap.size, 0, none⟩ = some (.string b) ∧ w'.cell? ⟨w.heap.size, 1, none⟩ = some (.int .i64 (ihl b)) ∧ w'.cell? ⟨w.heap.size, 2, none⟩ = some (.int .i64 (w16 b 2))) (go_keep)
        (first
          | (go_at_call 171; with_reducible refine (C1.out _).mono ?_; rintro e v1 ⟨rfl, hb⟩; have q := (hb.block _ (lt_of_heap q)).trans q; have r0 := (hb.block _ (lt_of_heap r0)).trans r0; have r1 := (hb.block _ (lt_of_heap r1)).trans r1; have d0 := cellRow (j := 0) r0 rfl; have d1 := cellRow (j := 1) r0 rfl; have d2 := cellRow (j := 2) r0 rfl; have bl : Below w.heap.size w v1 := Below.trans (b := _) (by repeat (first | exact Below.refl _ _ | assumption | refine Below.drewN ?_ | refine Below.drew ?_ | refine Below.setCell ?_ (by first | exact Nat.le_refl _ | omega | (simp; done) | (simp; omega)) _ | refine Below.alloc ?_ (by first | exact Nat.le_refl _ | omega | (simp; done) | (simp; omega)) _)) (hb.mono (by have := bl.size; first | omega | (simp; omega))); have q3 := cellRow (j := 3) q rfl; have q4 := cellRow (j := 4) q rfl; have qf := fun j => frzRow q j; have ql := lt_of_heap q)
          | (go_at_call 171; with_reducible refine (C2.out _).mono ?_; rintro e v2 ⟨rfl, hb⟩; have q := (hb.block _ (lt_of_heap q)).trans q; have r0 := (hb.block _ (lt_of_heap r0)).trans r0; have r1 := (hb.block _ (lt_of_heap r1)).trans r1; have d0 := cellRow (j := 0) r0 rfl; have d1 := cellRow (j := 1) r0 rfl; have d2 := cellRow (j := 2) r0 rfl; have bl : Below w.heap.size w v2 := Below.trans (b := _) (by repeat (first | exact Below.refl _ _ | assumption | refine Below.drewN ?_ | refine Below.drew ?_ | refine Below.setCell ?_ (by first | exact Nat.le_refl _ | omega | (simp; done) | (simp; omega)) _ | refine Below.alloc ?_ (by first | exact Nat.le_refl _ | omega | (simp; done) | (simp; omega)) _)) (hb.mono (by have := bl.size; first | omega | (simp; omega))); have q3 := cellRow (j := 3) q rfl; have q4 := cellRow (j := 4) q rfl; have qf := fun j => frzRow q j; have ql := lt_of_heap q))
      obtain ⟨W5, hW5⟩ : ∃ W5, W5 = (v2.setCell ⟨kb, 3, none⟩ (.int .i64 y3)).setCell ⟨kb, 4, none⟩ (.int .i64 y4) := ⟨_, rfl⟩
      have KB5 : W5.heap[kb]? = some (.cells #[.int .i64 x0, .int .i64 x1, .int .i64 x2, .int .i64 y3, .int .i64 y4] 39 (0, 0)) := by rw [hW5]; exact (heap_setCell_same _ _ 4 _ _ _ (heap_setCell_same _ _ 3 _ _ _ q)).trans (by simp)
      have R15 : W5.heap[w.heap.size + 1]? = some (.cells #[.int .i64 0, .int .i64 0, .int .i64 0, .int .i64 0, .int .i64 0] 39 (0, 0)) := by rw [hW5]; exact ((heap_setCell_other _ _ _ _ (fun (e : w.heap.size + 1 = kb) => by omega)).trans (heap_setCell_other _ _ _ _ (fun (e : w.heap.size + 1 = kb) => by omega))).trans r1
      have BL5 : Below w.heap.size w W5 := by rw [hW5]; exact (bl.setCell (by show w.heap.size ≤ kb; omega) _).setCell (by show w.heap.size ≤ kb; omega) _
      rw [← hW5]
      clear hW5 q r0 r1 bl d0 d1 d2
      have k0 := cellRow (j := 0) KB5 rfl
      have k1 := cellRow (j := 1) KB5 rfl
      have k2 := cellRow (j := 2) KB5 rfl
      have k3 := cellRow (j := 3) KB5 rfl
      have k4 := cellRow (j := 4) KB5 rfl
      have t0 := cellRow (j := 0) R15 rfl
      have t1 := cellRow (j := 1) R15 rfl
      have t2 := cellRow (j := 2) R15 rfl
      have t3 := cellRow (j := 3) R15 rfl
      have t4 := cellRow (j := 4) R15 rfl
      have tf := fun j => frzRow R15 j
      have HZ := hide (row5_ex (.int .i64 x0) (.int .i64 x1) (.int .i64 x2) (.int .i64 y3) (.int .i64 y4) R15 BL5 (by omega))
      clear KB5 R15 BL5
      go_wp2
      obtain ⟨W9, hW9, Z1, Z2, _⟩ := HZ.out
      rw [← hW9]
      refine bodyPost_ret (ret_key Z1 rfl) rfl ?_
      exact ⟨by rw [HX0.out, HX1.out, HX2.out, HE0.out, HE1.out], Z2⟩
  go_region_held3 (fun w' => w'.cell? ⟨w.heap.size, 0, none⟩ = some (.string b) ∧ w'.cell? ⟨w.heap.size, 1, none⟩ = some (.int .i64 (ihl b)) ∧ w'.cell? ⟨w.heap.size, 2, none⟩ = some (.int .i64 (w16 b 2))) (go_keep)
    (first
      | (go_at_call 173; refine (CA.out _).mono ?_; rintro e w1 ⟨rfl, hb1⟩; have hB1 : Below W0.heap.size W0 w1 := Below.trans (b := _) (by repeat (first | exact Below.refl _ _ | assumption | refine Below.drewN ?_ | refine Below.drew ?_ | refine Below.setCell ?_ (by first | exact Nat.le_refl _ | omega | (simp; done) | (simp; omega)) _ | refine Below.alloc ?_ (by first | exact Nat.le_refl _ | omega | (simp; done) | (simp; omega)) _)) (hb1.mono (by first | exact Nat.le_refl _ | omega | (simp; done) | (simp; omega))); have g0 := cell_later hB1 c0; have g1 := cell_later hB1 c1; have g2 := cell_later hB1 c2; have zw1 := hB1.size; have naw1 : ¬ w1.heap.size = w.heap.size := (by omega); have nbw1 : ¬ w.heap.size = w1.heap.size := (by omega); (first | (have q := (hb1.block _ (lt_of_heap q)).trans q; have q0 := cellRow (j := 0) q rfl; have q1 := cellRow (j := 1) q rfl; have q2 := cellRow (j := 2) q rfl; have q3 := cellRow (j := 3) q rfl; have q4 := cellRow (j := 4) q rfl; have qf := fun j => frzRow q j; have ql := lt_of_heap q) | (have q := (hb1.block W0.heap.size (by simp)).trans (allocN W0 _); have q0 := cellRow (j := 0) q rfl; have q1 := cellRow (j := 1) q rfl; have q2 := cellRow (j := 2) q rfl; have q3 := cellRow (j := 3) q rfl; have q4 := cellRow (j := 4) q rfl; have qf := fun j => frzRow q j; have ql := lt_of_heap q) | (have q := (hb1.block w2.heap.size (by simp)).trans (allocN w2 _); have q0 := cellRow (j := 0) q rfl; have q1 := cellRow (j := 1) q rfl; have q2 := cellRow (j := 2) q rfl; have q3 := cellRow (j := 3) q rfl; have q4 := cellRow (j := 4) q rfl; have qf := fun j => frzRow q j; have ql := lt_of_heap q) | skip))
      | (go_at_call 115; refine (CD.out _).mono ?_; rintro e w2 ⟨rfl, hb2⟩; have hB2 : Below W0.heap.size W0 w2 := Below.trans (b := _) (by repeat (first | exact Below.refl _ _ | assumption | refine Below.drewN ?_ | refine Below.drew ?_ | refine Below.setCell ?_ (by first | exact Nat.le_refl _ | omega | (simp; done) | (simp; omega)) _ | refine Below.alloc ?_ (by first | exact Nat.le_refl _ | omega | (simp; done) | (simp; omega)) _)) (hb2.mono (by first | exact Nat.le_refl _ | omega | (simp; done) | (simp; omega))); have k0 := cell_later hB2 c0; have k1 := cell_later hB2 c1; have k2 := cell_later hB2 c2; have zw2 := hB2.size; have naw2 : ¬ w2.heap.size = w.heap.size := (by omega); have nbw2 : ¬ w.heap.size = w2.heap.size := (by omega); (first | (have q := (hb2.block _ (lt_of_heap q)).trans q; have q0 := cellRow (j := 0) q rfl; have q1 := cellRow (j := 1) q rfl; have q2 := cellRow (j := 2) q rfl; have q3 := cellRow (j := 3) q rfl; have q4 := cellRow (j := 4) q rfl; have qf := fun j => frzRow q j; have ql := lt_of_heap q) | (have q := (hb2.block W0.heap.size (by simp)).trans (allocN W0 _); have q0 := cellRow (j := 0) q rfl; have q1 := cellRow (j := 1) q rfl; have q2 := cellRow (j := 2) q rfl; have q3 := cellRow (j := 3) q rfl; have q4 := cellRow (j := 4) q rfl; have qf := fun j => frzRow q j; have ql := lt_of_heap q) | (have q := (hb2.block w1.heap.size (by simp)).trans (allocN w1 _); have q0 := cellRow (j := 0) q rfl; have q1 := cellRow (j := 1) q rfl; have q2 := cellRow (j := 2) q rfl; have q3 := cellRow (j := 3) q rfl; have q4 := cellRow (j := 4) q rfl; have qf := fun j => frzRow q j; have ql := lt_of_heap q) | skip)))
  all_goals
    have hx2 : IntKind.i64.wrap (x2 : Int) = (x2 : Int) := by rw [IntKind.wrap_i64]; omega
    rw [hx2]
    first
    | (obtain ⟨W2, hW2, KB, LB, LK⟩ := row5_ex (.int .i64 x0) (.int .i64 x1) (.int .i64 x2) (.int .i64 0) (.int .i64 0) q hB2 (by omega); rw [← hW2])
    | (obtain ⟨W2, hW2, KB, LB, LK⟩ := row5_ex (.int .i64 x0) (.int .i64 x1) (.int .i64 x2) (.int .i64 0) (.int .i64 0) q hB1 (by omega); rw [← hW2])
    | (obtain ⟨W2, hW2, KB, LB, LK⟩ := row5_new #[.int .i64 x0, .int .i64 x1, .int .i64 x2, .int .i64 0, .int .i64 0] 39 hB2 zw2; rw [← hW2])
    | (obtain ⟨W2, hW2, KB, LB, LK⟩ := row5_new #[.int .i64 x0, .int .i64 x1, .int .i64 x2, .int .i64 0, .int .i64 0] 39 hB1 zw1; rw [← hW2])
  all_goals exact REST _ _ KB LB LK
end Go.Proofs.YtnjalelblbjfiaaGreatDoor

namespace Go.Proofs.YtnjalelblbjfiaaGreatDoor
open Go.RowKit
open Go.Sort (grow)
attribute [local go_sem] cell?_regrown

set_option maxRecDepth 100000 in
set_option maxHeartbeats 1000000 in
theorem xisRight_any (b : ByteArray) (w : World) (hs : b.size ≤ 1000) :
    Calls Tryz.prog 132 #[.string b] w fun e w' => e = .returned (.bool (isRt b)) ∧ Below w.heap.size w w' := by
  by_cases h20 : b.size < 20
  · have hr : isRt b = false := by unfold isRt; simp [show ¬ 20 ≤ b.size by omega]
    rw [hr]
    have hi : (b.size : Int) < 20 := by omega
    clear hr
    go_enter Tryz.func132, Tryz.ntmps132
    go_wp2
    go_ret
    exact ⟨rfl, Below.refl _ _⟩
  · have hi : ¬ (b.size : Int) < 20 := by omega
    have h0 : 0 < b.size := by omega
    have hlt := (b[0]'h0).toNat_lt
    have hx0 : ∀ W : World, (Instr.index 9 (.string b) (.int .i64 0)).run Tryz.prog W = .ok (.int .u8 ((b[0]'h0).toNat : Int)) W := fun W => by
      simp [go_sem, h0]
    have hver : ver b = (b[0]'h0).toNat / 16 := dif_pos h0
    have hihl : ihl b = (b[0]'h0).toNat % 16 * 4 := dif_pos h0
    have CT2 := hide fun (W : World) => xtwo_any b 2 W (by omega) hs
    have CTW := hide fun (i : Nat) (h : i + 1 < b.size) (W : World) => xtwo_any b i W h hs
    have hres : isRt b = ((ver b == 4) && (decide (20 ≤ ihl b) && decide (ihl b ≤ w16 b 2) && decide (w16 b 2 ≤ b.size)) && (hsum b (ihl b / 2) == 65535)) := by
      unfold isRt; simp [show 20 ≤ b.size by omega]
    rw [hres]
    generalize (b[0]'h0).toNat = x at *
    have hl2 := w16_lt b 2
    obtain ⟨tt, htt⟩ : ∃ tt, tt = w16 b 2 := ⟨_, rfl⟩
    obtain ⟨hd, hhd⟩ : ∃ hd, hd = ihl b := ⟨_, rfl⟩
    have hhx : hd = x % 16 * 4 := by rw [hhd, hihl]
    rw [← htt] at CT2 hl2 ⊢
    rw [← hhd, hver]
    have HHX := hide hhx
    clear hres hver hihl htt hhd h20
    by_cases hv : x / 16 = 4
    · have hv' : ((x : Int) / 16 != 4) = false := by rw [bne_eq_false_iff_eq]; omega
      have hv2 : (x / 16 == 4) = true := by rw [beq_iff_eq]; exact hv
      have hm : 4 * ((x : Int) % 16) = (hd : Int) := by omega
      rw [hv2, Bool.true_and]
      clear hv hv2 hhx
      go_enter Tryz.func132, Tryz.ntmps132
      go_wp2_with fail
      refine (CT2.out _).mono ?_
      rintro e w1 ⟨rfl, hb1⟩
      have HB1 := hide hb1
      clear hb1 CT2 hx0 hm hv'
      have hd60 : hd ≤ 60 := by have := HHX.out; omega
      by_cases c1 : hd < 20
      · have c1i : (hd : Int) < 20 := by omega
        have e : (decide (20 ≤ hd) && decide (hd ≤ tt) && decide (tt ≤ b.size) && (hsum b (hd / 2) == 65535)) = false := by simp [show ¬ 20 ≤ hd by omega]
        have E := hide e
        clear e
        go_wp2
        go_ret
        exact ⟨by rw [E.out]; rfl, HB1.out⟩
      · have c1i : ¬ (hd : Int) < 20 := by omega
        by_cases c2 : tt < hd
        · have c2i : (tt : Int) < hd := by omega
          have e : (decide (20 ≤ hd) && decide (hd ≤ tt) && decide (tt ≤ b.size) && (hsum b (hd / 2) == 65535)) = false := by simp [show ¬ hd ≤ tt by omega]
          have E := hide e
          clear e
          go_wp2
          go_ret
          exact ⟨by rw [E.out]; rfl, HB1.out⟩
        · have c2i : ¬ (tt : Int) < hd := by omega
          by_cases c3 : b.size < tt
          · have c3i : (b.size : Int) < tt := by omega
            have e : (decide (20 ≤ hd) && decide (hd ≤ tt) && decide (tt ≤ b.size) && (hsum b (hd / 2) == 65535)) = false := by simp [show ¬ tt ≤ b.size by omega]
            have E := hide e
            clear e
            go_wp2
            go_ret
            exact ⟨by rw [E.out]; rfl, HB1.out⟩
          · have c3i : ¬ (b.size : Int) < tt := by omega
            have e : (decide (20 ≤ hd) && decide (hd ≤ tt) && decide (tt ≤ b.size) && (hsum b (hd / 2) == 65535)) = (hsum b (hd / 2) == 65535) := by simp [show 20 ≤ hd by omega, show hd ≤ tt by omega, show tt ≤ b.size by omega]
            have E := hide e
            clear e
            go_wp2_with fail
            go_loopw [5, 6] (fun sv i wr => ∃ k : Nat, 2 * k ≤ hd ∧ i = .int .i64 (2 * k : Nat) ∧ sv = .int .i64 (hsum b k) ∧ Below w.heap.size w wr) (fun _ i _ => hd - (intOf i).toNat)
            case atStart => exact ⟨0, by omega, rfl, rfl, HB1.out⟩
            case round =>
              obtain ⟨k, hk, rfl, rfl, hb⟩ := hrel
              have HB := hide hb
              clear hb
              have hle := hsum_le b k
              by_cases hkl : 2 * k < hd
              · have hki : ((2 * k : Nat) : Int) < hd := by omega
                obtain ⟨i, hie⟩ : ∃ i, i = 2 * k := ⟨_, rfl⟩
                rw [← hie] at hki ⊢
                have CT := hide (CTW.out i (by have := HHX.out; omega) wr)
                have hw := w16_lt b i
                have HIE := hide hie
                have HSUM : Hid (hsum b (k + 1) = ones (hsum b k) (w16 b i)) := hide (by rw [hie]; rfl)
                obtain ⟨sm, hsm⟩ : ∃ sm, sm = hsum b k := ⟨_, rfl⟩
                rw [← hsm] at hle HSUM ⊢
                clear hie hsm
                have CA := hide fun (W : World) => xadd_any sm (w16 b i) W (by omega) (by omega)
                have hi60 : (i : Int) ≤ 60 := by have := HIE.out; omega
                go_wp2_with fail
                refine CT.out.mono ?_
                rintro e w2 ⟨rfl, hb2⟩
                have HB2 := hide (HB.out.trans (hb2.mono HB.out.size))
                clear hb2 CT
                go_wp2_with fail
                refine (CA.out _).mono ?_
                rintro e W ⟨rfl, hww⟩
                rw [hww]
                clear hww W CA
                go_wp2_with fail
                go_roundw
                case rel => exact ⟨k + 1, by have := HIE.out; have := HHX.out; omega, by rw [HIE.out]; go_num, by rw [HSUM.out], HB2.out⟩
                case measure => simp [intOf]; omega
              · have hki : ¬ ((2 * k : Nat) : Int) < hd := by omega
                have hke : k = hd / 2 := by have := HHX.out; omega
                subst hke
                have HG : Hid (((hsum b (hd / 2) : Int) == 65535) = (hsum b (hd / 2) == 65535)) := hide (by
                  rw [Bool.eq_iff_iff, beq_iff_eq, beq_iff_eq]
                  omega)
                go_wp2
                go_ret
                exact ⟨by rw [E.out]; simp [HG.out], HB.out⟩
    · have hv' : ((x : Int) / 16 != 4) = true := by rw [bne_iff_ne]; omega
      have hv2 : (x / 16 == 4) = false := by rw [beq_eq_false_iff_ne]; exact hv
      rw [hv2, Bool.false_and]
      clear hv hv2 hhx
      go_enter Tryz.func132, Tryz.ntmps132
      go_wp2
      go_ret
      exact ⟨rfl, Below.refl _ _⟩
end Go.Proofs.YtnjalelblbjfiaaGreatDoor

namespace Go.Proofs.YtnjalelblbjfiaaGreatDoor
open Go.RowKit

theorem ret_xkey {tmps : Array Value} {W : World} {b : Nat} {x0 x1 x2 x3 x4 : Value} (hb : W.heap[b]? = some (.cells #[x0, x1, x2, x3, x4] 39 (0, 0))) (hp : tmps.getD 2 undef = .pointer (some ⟨b, 0, none⟩)) :
    (results Tryz.f134 tmps).run Tryz.prog W = .ok (.agg #[x0, x1, x2, x3, x4]) W := by
  rw [results_cell1 (fn := Tryz.f134) (p := 2) (ty := 39) rfl, hp]
  have hi : (Tryz.prog.info? 39).map (·.size) = some (#[x0, x1, x2, x3, x4] : Array Value).size := by kernel_rfl
  simp [asAddr, run_loadVar_row W b 39 39 #[x0, x1, x2, x3, x4] (0, 0) _ hb Tryz.underlying39 rfl hi, Result.andThen]
theorem xfour32 (b : ByteArray) (i : Nat) (w : World) (h : i + 3 < b.size) (hs : b.size ≤ 1000) : Calls Tryz.prog 187 #[.string b, .int .i64 i] w fun e w' => e = .returned (.int .i64 (a32 b i)) ∧ Below w.heap.size w w' := by
  have := xfour_any b i w h hs
  have e : 65536 * w16 b i + w16 b (i + 2) = a32 b i := by unfold a32; rw [Nat.mul_comm]
  rw [e] at this
  exact this
set_option maxRecDepth 100000 in
set_option maxHeartbeats 2000000 in
theorem xkey_any (b : ByteArray) (w : World) (h : 20 ≤ b.size) (hs : b.size ≤ 1000) (ht : w16 b 2 ≤ b.size) :
    Calls Tryz.prog 134 #[.string b] w fun e w' => e = .returned (.agg #[.int .i64 (a32 b 12), .int .i64 (a32 b 16), .int .i64 (b8 b 9), .int .i64 (pt0 b), .int .i64 (pt1 b)]) ∧ Below w.heap.size w w' := by
  have hx : ∀ W : World, (Instr.index 9 (.string b) (.int .i64 9)).run Tryz.prog W = .ok (.int .u8 (b8 b 9 : Int)) W := fun W => index_b8 b 9 (by omega) W
  have hl := b8_lt b 9
  have CA : Hid (∀ W : World, Calls Tryz.prog 187 #[.string b, .int .i64 12] W fun e w' => e = .returned (.int .i64 (a32 b 12)) ∧ Below W.heap.size W w') := hide fun W => xfour32 b 12 W (by omega) hs
  have CD : Hid (∀ W : World, Calls Tryz.prog 187 #[.string b, .int .i64 16] W fun e w' => e = .returned (.int .i64 (a32 b 16)) ∧ Below W.heap.size W w') := hide fun W => xfour32 b 16 W (by omega) hs
  go_enter Tryz.func134, Tryz.ntmps134
  go_wp2_with fail
  obtain ⟨W0, hW0⟩ : ∃ W0, W0 = w.alloc (.cells #[.int .i64 0, .int .i64 0, .int .i64 0, .int .i64 0, .int .i64 0] 39) := ⟨_, rfl⟩
  have A0 : W0.heap[w.heap.size]? = some (.cells #[.int .i64 0, .int .i64 0, .int .i64 0, .int .i64 0, .int .i64 0] 39 (0, 0)) := by rw [hW0]; exact allocN _ _
  have HB0 : Hid (Below w.heap.size w W0) := hide (by rw [hW0]; exact (Below.refl _ w).alloc (Nat.le_refl _) _)
  have hs0 : W0.heap.size = w.heap.size + 1 := by rw [hW0]; simp
  rw [← hW0]
  have hwx : w.heap.size ≤ W0.heap.size := by omega
  have HS0 := hide hs0
  clear hW0 hs0
  generalize hx0 : a32 b 12 = x0 at *
  generalize hx1 : a32 b 16 = x1 at *
  generalize hx2' : b8 b 9 = x2 at *
  have HX0 := hide hx0
  have HX1 := hide hx1
  have HX2 := hide hx2'
  clear hx0 hx1 hx2'
  have hx2 : IntKind.i64.wrap (x2 : Int) = (x2 : Int) := by rw [IntKind.wrap_i64]; omega
  rename_i Kc hKc
  have h0 : 0 < b.size := by omega
  obtain ⟨z, hzz⟩ : ∃ z, z = (b[0]'h0).toNat := ⟨_, rfl⟩
  have hi0 : ∀ W : World, (Instr.index 9 (.string b) (.int .i64 0)).run Tryz.prog W = .ok (.int .u8 (z : Int)) W := fun W => by rw [hzz]; simp [go_sem, h0]
  have hz8 : z < 256 := by rw [hzz]; exact (b[0]'h0).toNat_lt
  have hih : ihl b = z % 16 * 4 := by rw [hzz]; exact dif_pos h0
  obtain ⟨hd, hhd⟩ : ∃ hd, hd = ihl b := ⟨_, rfl⟩
  have hm : 4 * ((z : Int) % 16) = (hd : Int) := by rw [hhd, hih]; omega
  have hd60 : hd ≤ 60 := by rw [hhd, hih]; omega
  have HHD := hide hhd
  have C6 : Hid (∀ W : World, Calls Tryz.prog 183 #[.string b, .int .i64 6] W fun e w' => e = .returned (.int .i64 (w16 b 6)) ∧ Below W.heap.size W w') := hide fun W => xtwo_any b 6 W (by omega) hs
  have C2 : Hid (∀ W : World, Calls Tryz.prog 183 #[.string b, .int .i64 2] W fun e w' => e = .returned (.int .i64 (w16 b 2)) ∧ Below W.heap.size W w') := hide fun W => xtwo_any b 2 W (by omega) hs
  have CTW := hide fun (i : Nat) (h : i + 1 < b.size) (W : World) => xtwo_any b i W h hs
  have l6 := w16_lt b 6
  have l2 := w16_lt b 2
  clear hih hhd hzz
  have REST : ∀ (kb : Nat) (W2 : World), W2.heap[kb]? = some (.cells #[.int .i64 x0, .int .i64 x1, .int .i64 x2, .int .i64 0, .int .i64 0] 39 (0, 0)) → Below W0.heap.size W0 W2 → W0.heap.size ≤ kb → Kc { tmps := #[.string b, undef, .pointer (some ⟨w.heap.size, 0, none⟩), .pointer (some ⟨kb, 0, none⟩), undef, .string b, .int .i64 x0, .string b, .int .i64 x1, .string b, .int .u8 x2, .int .i64 x2, .agg #[.int .i64 x0, .int .i64 x1, .int .i64 x2, .int .i64 0, .int .i64 0], undef, undef, undef, undef, undef, undef, undef, undef, undef, undef, undef, undef, undef, undef, undef, undef, undef, undef, undef, undef, undef, undef, undef, undef, undef, undef, undef, undef, undef, undef, undef, undef, undef, undef, undef, undef], defers := [] } W2 := by
    intro kb W2 KB LB LK
    have R0 := (LB.block _ (lt_of_heap A0)).trans A0
    have BL : Below w.heap.size w W2 := HB0.out.trans (LB.mono hwx)
    have hkb : w.heap.size < kb := by have := HS0.out; omega
    refine hKc _ _ ?_
    have k2 : W2.cell? ⟨kb, 2, none⟩ = some (.int .i64 x2) := cellRow KB rfl
    have lk : kb < W2.heap.size := lt_of_heap KB
    have HKB := hide KB
    have HR0 := hide R0
    have HBL := hide BL
    clear KB R0 BL LB A0 HB0 CA CD hx
    have nk1 : ¬ kb = w.heap.size := by omega
    have nk2 : ¬ w.heap.size = kb := by omega
    have eP : (b8 b 9 == 6 || b8 b 9 == 17) = ((x2 : Int) == 6 || (x2 : Int) == 17) := by
      rw [HX2.out, Bool.eq_iff_iff]
      simp only [Bool.or_eq_true, beq_iff_eq]
      omega
    have ehas : hasPt b = ((((x2 : Int) == 6 || (x2 : Int) == 17)) && ((w16 b 6 : Int) % 8192 == 0) && decide ((hd : Int) + 4 ≤ (w16 b 2 : Int))) := by
      unfold hasPt
      rw [eP, ← HHD.out]
      congr 1
      · congr 1
        rw [Bool.eq_iff_iff, beq_iff_eq, beq_iff_eq]
        omega
      · rw [Bool.eq_iff_iff, decide_eq_true_iff, decide_eq_true_iff]
        omega
    have HEH := hide ehas
    have hw4 : IntKind.i64.wrap ((hd : Int) + 4) = (hd : Int) + 4 := by rw [IntKind.wrap_i64]; omega
    clear eP ehas
    obtain ⟨pr, hpr⟩ : ∃ pr, pr = ((x2 : Int) == 6 || (x2 : Int) == 17) := ⟨_, rfl⟩
    cases pr with
    | false =>
      have hpt : hasPt b = false := by rw [HEH.out, ← hpr]; rfl
      have HE0 : Hid (pt0 b = 0) := hide (by unfold pt0; rw [hpt]; rfl)
      have HE1 : Hid (pt1 b = 0) := hide (by unfold pt1; rw [hpt]; rfl)
      clear hpt
      have p6 : ((x2 : Int) == 6) = false := by
        cases h6 : ((x2 : Int) == 6) with
        | false => rfl
        | true => rw [h6] at hpr; cases hpr
      have p17 : ((x2 : Int) == 17) = false := by
        cases h7 : ((x2 : Int) == 17) with
        | false => rfl
        | true => rw [p6, h7] at hpr; cases hpr
      clear hpr
      have k0 := cellRow (j := 0) HKB.out rfl
      have k1 := cellRow (j := 1) HKB.out rfl
      have k2 := cellRow (j := 2) HKB.out rfl
      have k3 := cellRow (j := 3) HKB.out rfl
      have k4 := cellRow (j := 4) HKB.out rfl
      have t0 := cellRow (j := 0) HR0.out rfl
      have t1 := cellRow (j := 1) HR0.out rfl
      have t2 := cellRow (j := 2) HR0.out rfl
      have t3 := cellRow (j := 3) HR0.out rfl
      have t4 := cellRow (j := 4) HR0.out rfl
      have tf := fun j => frzRow HR0.out j
      have lk' := lt_of_heap HKB.out
      have lr' := lt_of_heap HR0.out
      have HZ := hide (row5_ex (.int .i64 x0) (.int .i64 x1) (.int .i64 x2) (.int .i64 0) (.int .i64 0) HR0.out HBL.out (Nat.le_refl _))
      go_wp2
      obtain ⟨W9, hW9, Z1, Z2, _⟩ := HZ.out
      rw [← hW9]
      refine bodyPost_ret (ret_xkey Z1 rfl) rfl ?_
      exact ⟨by rw [HX0.out, HX1.out, HX2.out, HE0.out, HE1.out]; rfl, Z2⟩
    | true =>
      have CALL6 : Hid (∀ W3, Below W2.heap.size W2 W3 → W3.heap[kb]? = some (.cells #[.int .i64 x0, .int .i64 x1, .int .i64 x2, .int .i64 0, .int .i64 0] 39 (0, 0)) ∧ W3.heap[w.heap.size]? = some (.cells #[.int .i64 0, .int .i64 0, .int .i64 0, .int .i64 0, .int .i64 0] 39 (0, 0)) ∧ Below w.heap.size w W3) := hide fun W3 hb => ⟨(hb.block _ (lt_of_heap HKB.out)).trans HKB.out, (hb.block _ (lt_of_heap HR0.out)).trans HR0.out, HBL.out.trans (hb.mono HBL.out.size)⟩
      have HPR := hide hpr
      have pin : ((x2 : Int) == 6) = true ∨ (((x2 : Int) == 6) = false ∧ ((x2 : Int) == 17) = true) := by
        cases h6 : ((x2 : Int) == 6) with
        | true => exact .inl rfl
        | false =>
          rw [h6] at hpr
          exact .inr ⟨rfl, by simpa using hpr.symm⟩
      clear hpr
      rcases pin with p6 | ⟨p6, p17⟩
      all_goals
        go_wp2_with fail
        refine (C6.out _).mono ?_
        rintro e W3 ⟨rfl, hb3⟩
        obtain ⟨KB3, R3, BL3⟩ := CALL6.out W3 hb3
        have HBE3 := hide hb3
        clear hb3
        cases hf : ((w16 b 6 : Int) % 8192 == 0) with
        | false =>
          have hpt : hasPt b = false := by rw [HEH.out, hf, Bool.and_false, Bool.false_and]
          have HE0 : Hid (pt0 b = 0) := hide (by unfold pt0; rw [hpt]; rfl)
          have HE1 : Hid (pt1 b = 0) := hide (by unfold pt1; rw [hpt]; rfl)
          clear hpt
          have k0 := cellRow (j := 0) KB3 rfl
          have k1 := cellRow (j := 1) KB3 rfl
          have k2 := cellRow (j := 2) KB3 rfl
          have k3 := cellRow (j := 3) KB3 rfl
          have k4 := cellRow (j := 4) KB3 rfl
          have t0 := cellRow (j := 0) R3 rfl
          have t1 := cellRow (j := 1) R3 rfl
          have t2 := cellRow (j := 2) R3 rfl
          have t3 := cellRow (j := 3) R3 rfl
          have t4 := cellRow (j := 4) R3 rfl
          have tf := fun j => frzRow R3 j
          have lk' := lt_of_heap KB3
          have lr' := lt_of_heap R3
          have HZ := hide (row5_ex (.int .i64 x0) (.int .i64 x1) (.int .i64 x2) (.int .i64 0) (.int .i64 0) R3 BL3 (Nat.le_refl _))
          go_wp2
          obtain ⟨W9, hW9, Z1, Z2, _⟩ := HZ.out
          rw [← hW9]
          refine bodyPost_ret (ret_xkey Z1 rfl) rfl ?_
          exact ⟨by rw [HX0.out, HX1.out, HX2.out, HE0.out, HE1.out]; rfl, Z2⟩
        | true =>
          go_wp2_with fail
          refine (C2.out _).mono ?_
          rintro e W4 ⟨rfl, hb4⟩
          obtain ⟨KB4, R4, BL4⟩ := CALL6.out W4 (HBE3.out.trans (hb4.mono HBE3.out.size))
          clear hb4 KB3 R3 BL3
          by_cases hg : (hd : Int) + 4 ≤ (w16 b 2 : Int)
          · have hpt : hasPt b = true := by rw [HEH.out, ← HPR.out, hf, decide_eq_true hg]; rfl
            have HE0 : Hid (pt0 b = w16 b hd) := hide (by unfold pt0; rw [hpt, HHD.out]; rfl)
            have HE1 : Hid (pt1 b = w16 b (hd + 2)) := hide (by unfold pt1; rw [hpt, HHD.out]; rfl)
            have e2 : IntKind.i64.wrap ((hd : Int) + 2) = ((hd + 2 : Nat) : Int) := by rw [IntKind.wrap_i64]; omega
            have D1 := hide fun (W : World) => CTW.out hd (by omega) W
            have D2 := hide fun (W : World) => CTW.out (hd + 2) (by omega) W
            generalize w16 b hd = y3 at *
            generalize w16 b (hd + 2) = y4 at *
            clear hpt CALL6
            go_wp2_with fail
            refine (D1.out _).mono ?_
            rintro e W5 ⟨rfl, hb5⟩
            have KB5 := (hb5.block _ (lt_of_heap KB4)).trans KB4
            have R5 := (hb5.block _ (lt_of_heap R4)).trans R4
            have BL5 : Below w.heap.size w W5 := BL4.trans (hb5.mono BL4.size)
            have j3 := cellRow (j := 3) KB5 rfl
            have jf := frzRow KB5 3
            have jl := lt_of_heap KB5
            obtain ⟨W6, hW6⟩ : ∃ W6, W6 = W5.setCell ⟨kb, 3, none⟩ (.int .i64 y3) := ⟨_, rfl⟩
            have KB6 : W6.heap[kb]? = some (.cells #[.int .i64 x0, .int .i64 x1, .int .i64 x2, .int .i64 y3, .int .i64 0] 39 (0, 0)) := by rw [hW6]; exact (heap_setCell_same _ _ 3 _ _ _ KB5).trans (by simp)
            have R6 : W6.heap[w.heap.size]? = some (.cells #[.int .i64 0, .int .i64 0, .int .i64 0, .int .i64 0, .int .i64 0] 39 (0, 0)) := by rw [hW6]; exact (heap_setCell_other _ _ _ _ (fun (e : w.heap.size = kb) => by omega)).trans R5
            have BL6 : Below w.heap.size w W6 := by rw [hW6]; exact BL5.setCell (by show w.heap.size ≤ kb; omega) _
            clear hb5 KB4 R4 BL4 D1
            go_wp2_with fail
            rw [← hW6]
            clear hW6 KB5 R5 BL5 j3 jf jl
            refine (D2.out _).mono ?_
            rintro e W7 ⟨rfl, hb7⟩
            have KB7 := (hb7.block _ (lt_of_heap KB6)).trans KB6
            have R7 := (hb7.block _ (lt_of_heap R6)).trans R6
            have BL7 : Below w.heap.size w W7 := BL6.trans (hb7.mono BL6.size)
            have j0 := cellRow (j := 0) KB7 rfl
            have j1 := cellRow (j := 1) KB7 rfl
            have j2 := cellRow (j := 2) KB7 rfl
            have j3 := cellRow (j := 3) KB7 rfl
            have j4 := cellRow (j := 4) KB7 rfl
            have jf := frzRow KB7 4
            have jl := lt_of_heap KB7
            obtain ⟨W8, hW8⟩ : ∃ W8, W8 = W7.setCell ⟨kb, 4, none⟩ (.int .i64 y4) := ⟨_, rfl⟩
            have KB8 : W8.heap[kb]? = some (.cells #[.int .i64 x0, .int .i64 x1, .int .i64 x2, .int .i64 y3, .int .i64 y4] 39 (0, 0)) := by rw [hW8]; exact (heap_setCell_same _ _ 4 _ _ _ KB7).trans (by simp)
            have R8 : W8.heap[w.heap.size]? = some (.cells #[.int .i64 0, .int .i64 0, .int .i64 0, .int .i64 0, .int .i64 0] 39 (0, 0)) := by rw [hW8]; exact (heap_setCell_other _ _ _ _ (fun (e : w.heap.size = kb) => by omega)).trans R7
            have BL8 : Below w.heap.size w W8 := by rw [hW8]; exact BL7.setCell (by show w.heap.size ≤ kb; omega) _
            have t0 := cellRow (j := 0) R7 rfl
            have t1 := cellRow (j := 1) R7 rfl
            have t2 := cellRow (j := 2) R7 rfl
            have t3 := cellRow (j := 3) R7 rfl
            have t4 := cellRow (j := 4) R7 rfl
            have tf := fun j => frzRow R7 j
            have lr' := lt_of_heap R7
            have HZ := hide (row5_ex (.int .i64 x0) (.int .i64 x1) (.int .i64 x2) (.int .i64 y3) (.int .i64 y4) R8 BL8 (Nat.le_refl _))
            clear hb7 KB6 R6 BL6 D2 KB8 R8 BL8 BL7
            go_wp2
            obtain ⟨W9, hW9, Z1, Z2, _⟩ := HZ.out
            rw [← hW8, ← hW9]
            refine bodyPost_ret (ret_xkey Z1 rfl) rfl ?_
            exact ⟨by rw [HX0.out, HX1.out, HX2.out, HE0.out, HE1.out], Z2⟩
          · have hpt : hasPt b = false := by rw [HEH.out, decide_eq_false hg, Bool.and_false]
            have HE0 : Hid (pt0 b = 0) := hide (by unfold pt0; rw [hpt]; rfl)
            have HE1 : Hid (pt1 b = 0) := hide (by unfold pt1; rw [hpt]; rfl)
            clear hpt
            have k0 := cellRow (j := 0) KB4 rfl
            have k1 := cellRow (j := 1) KB4 rfl
            have k2 := cellRow (j := 2) KB4 rfl
            have k3 := cellRow (j := 3) KB4 rfl
            have k4 := cellRow (j := 4) KB4 rfl
            have t0 := cellRow (j := 0) R4 rfl
            have t1 := cellRow (j := 1) R4 rfl
            have t2 := cellRow (j := 2) R4 rfl
            have t3 := cellRow (j := 3) R4 rfl
            have t4 := cellRow (j := 4) R4 rfl
            have tf := fun j => frzRow R4 j
            have lk' := lt_of_heap KB4
            have lr' := lt_of_heap R4
            have HZ := hide (row5_ex (.int .i64 x0) (.int .i64 x1) (.int .i64 x2) (.int .i64 0) (.int .i64 0) R4 BL4 (Nat.le_refl _))
            go_wp2
            obtain ⟨W9, hW9, Z1, Z2, _⟩ := HZ.out
            rw [← hW9]
            refine bodyPost_ret (ret_xkey Z1 rfl) rfl ?_
            exact ⟨by rw [HX0.out, HX1.out, HX2.out, HE0.out, HE1.out]; rfl, Z2⟩
  have QA : Hid (∀ v1 : World, Below (W0.alloc (.cells #[.int .i64 0, .int .i64 0, .int .i64 0, .int .i64 0, .int .i64 0] 39)).drew.heap.size (W0.alloc (.cells #[.int .i64 0, .int .i64 0, .int .i64 0, .int .i64 0, .int .i64 0] 39)).drew v1 → v1.heap[W0.heap.size]? = some (.cells #[.int .i64 0, .int .i64 0, .int .i64 0, .int .i64 0, .int .i64 0] 39 (0, 0))) := hide fun v1 hb => (hb.block _ (by simp)).trans (heap_alloc_new W0 _)
  go_region_with
    (first
      | (go_at_call 187; with_reducible refine (CA.out _).mono ?_; rintro e w1 ⟨rfl, hb1⟩; have hB1 : Below W0.heap.size W0 w1 := Below.trans (b := _) (by repeat (first | exact Below.refl _ _ | assumption | refine Below.drewN ?_ | refine Below.drew ?_ | refine Below.setCell ?_ (by first | exact Nat.le_refl _ | omega | (simp; done) | (simp; omega)) _ | refine Below.alloc ?_ (by first | exact Nat.le_refl _ | omega | (simp; done) | (simp; omega)) _)) (hb1.mono (by first | exact Nat.le_refl _ | omega | (simp; done) | (simp; omega))); have zw1 := hB1.size; (first | (have q := (hb1.block _ (lt_of_heap q)).trans q; have q0 := cellRow (j := 0) q rfl; have q1 := cellRow (j := 1) q rfl; have q2 := cellRow (j := 2) q rfl; have q3 := cellRow (j := 3) q rfl; have q4 := cellRow (j := 4) q rfl; have qf := fun j => frzRow q j; have ql := lt_of_heap q) | (have q := QA.out _ hb1; have q0 := cellRow (j := 0) q rfl; have q1 := cellRow (j := 1) q rfl; have q2 := cellRow (j := 2) q rfl; have q3 := cellRow (j := 3) q rfl; have q4 := cellRow (j := 4) q rfl; have qf := fun j => frzRow q j; have ql := lt_of_heap q) | (have q := (hb1.block w2.heap.size (by simp)).trans (allocN w2 _); have q0 := cellRow (j := 0) q rfl; have q1 := cellRow (j := 1) q rfl; have q2 := cellRow (j := 2) q rfl; have q3 := cellRow (j := 3) q rfl; have q4 := cellRow (j := 4) q rfl; have qf := fun j => frzRow q j; have ql := lt_of_heap q) | skip))
      | (go_at_call 187; with_reducible refine (CD.out _).mono ?_; rintro e w2 ⟨rfl, hb2⟩; have hB2 : Below W0.heap.size W0 w2 := Below.trans (b := _) (by repeat (first | exact Below.refl _ _ | assumption | refine Below.drewN ?_ | refine Below.drew ?_ | refine Below.setCell ?_ (by first | exact Nat.le_refl _ | omega | (simp; done) | (simp; omega)) _ | refine Below.alloc ?_ (by first | exact Nat.le_refl _ | omega | (simp; done) | (simp; omega)) _)) (hb2.mono (by first | exact Nat.le_refl _ | omega | (simp; done) | (simp; omega))); have zw2 := hB2.size; (first | (have q := (hb2.block _ (lt_of_heap q)).trans q; have q0 := cellRow (j := 0) q rfl; have q1 := cellRow (j := 1) q rfl; have q2 := cellRow (j := 2) q rfl; have q3 := cellRow (j := 3) q rfl; have q4 := cellRow (j := 4) q rfl; have qf := fun j => frzRow q j; have ql := lt_of_heap q) | (have q := QA.out _ hb2; have q0 := cellRow (j := 0) q rfl; have q1 := cellRow (j := 1) q rfl; have q2 := cellRow (j := 2) q rfl; have q3 := cellRow (j := 3) q rfl; have q4 := cellRow (j := 4) q rfl; have qf := fun j => frzRow q j; have ql := lt_of_heap q) | (have q := (hb2.block w1.heap.size (by simp)).trans (allocN w1 _); have q0 := cellRow (j := 0) q rfl; have q1 := cellRow (j := 1) q rfl; have q2 := cellRow (j := 2) q rfl; have q3 := cellRow (j := 3) q rfl; have q4 := cellRow (j := 4) q rfl; have qf := fun j => frzRow q j; have ql := lt_of_heap q) | skip)))
  all_goals
    first
    | (obtain ⟨W2, hW2, KB, LB, LK⟩ := row5_ex (.int .i64 x0) (.int .i64 x1) (.int .i64 x2) (.int .i64 0) (.int .i64 0) q hB2 (by omega); rw [← hW2])
    | (obtain ⟨W2, hW2, KB, LB, LK⟩ := row5_ex (.int .i64 x0) (.int .i64 x1) (.int .i64 x2) (.int .i64 0) (.int .i64 0) q hB1 (by omega); rw [← hW2])
    | (obtain ⟨W2, hW2, KB, LB, LK⟩ := row5_new #[.int .i64 x0, .int .i64 x1, .int .i64 x2, .int .i64 0, .int .i64 0] 39 hB2 zw2; rw [← hW2])
    | (obtain ⟨W2, hW2, KB, LB, LK⟩ := row5_new #[.int .i64 x0, .int .i64 x1, .int .i64 x2, .int .i64 0, .int .i64 0] 39 hB1 zw1; rw [← hW2])
  all_goals exact REST _ _ KB LB LK
end Go.Proofs.YtnjalelblbjfiaaGreatDoor
