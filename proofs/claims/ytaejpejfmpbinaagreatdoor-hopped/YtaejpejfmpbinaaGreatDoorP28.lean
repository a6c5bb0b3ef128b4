import Derived.Test.YtaejpejfmpbinaaGreatDoorP27
namespace Go.Proofs.YtaejpejfmpbinaaGreatDoor
open Go.RowKit Go.Maps
open Go.Sort (grow)
attribute [local go_sem] cell?_regrown

theorem box_cell {w : World} {cs : Array Value} {t : TypeId} {i : Nat} {v : Value} (hv : cs[i]? = some v) : (w.alloc (.cells cs t)).cell? ⟨w.heap.size, i, none⟩ = some v := cellRow (allocN _ _) hv

set_option maxRecDepth 100000 in
set_option maxHeartbeats 2000000 in
/-- A rule that sends to no port, or to one of the switch's. -/
theorem lacksN_any (s : Nat) (pv : Value) (P : List Prt) (r : Rl) (w : World) (h0 : w.cell? ⟨s, 0, none⟩ = some pv) (hp : PortsAt w pv P) (hr : r.ac = 2 → 0 ≤ r.po ∧ r.po < P.length) :
    Calls Tryz.prog 41 #[.pointer (some ⟨s, 0, none⟩), .agg #[.int .i64 r.id, .int .i64 r.pr, .int .i64 r.k0, .int .i64 r.v0, .int .i64 r.m0, .int .i64 r.k1, .int .i64 r.v1, .int .i64 r.m1, .int .i64 r.k2, .int .i64 r.v2, .int .i64 r.m2, .int .i64 r.k3, .int .i64 r.v3, .int .i64 r.m3, .int .i64 r.k4, .int .i64 r.v4, .int .i64 r.m4, .int .i64 r.ac, .int .i64 r.po]] w fun e w' => e = .returned (.bool false) ∧ Below w.heap.size w w' := by
  obtain ⟨W0, hW0⟩ : ∃ W0, W0 = w.alloc (.cells #[.int .i64 r.id, .int .i64 r.pr, .int .i64 r.k0, .int .i64 r.v0, .int .i64 r.m0, .int .i64 r.k1, .int .i64 r.v1, .int .i64 r.m1, .int .i64 r.k2, .int .i64 r.v2, .int .i64 r.m2, .int .i64 r.k3, .int .i64 r.v3, .int .i64 r.m3, .int .i64 r.k4, .int .i64 r.v4, .int .i64 r.m4, .int .i64 r.ac, .int .i64 r.po] 53) := ⟨_, rfl⟩
  have c17 : W0.cell? ⟨w.heap.size, 17, none⟩ = some (.int .i64 r.ac) := by rw [hW0]; exact box_cell rfl
  have c18 : W0.cell? ⟨w.heap.size, 18, none⟩ = some (.int .i64 r.po) := by rw [hW0]; exact box_cell rfl
  have hB : Below w.heap.size w W0 := by rw [hW0]; exact (Below.refl _ w).alloc (Nat.le_refl _) _
  have hlt : w.heap.size < W0.heap.size := by rw [hW0]; simp
  have CP : Hid (∀ (d : Nat) (os : Array Obj), Calls Tryz.prog 32 #[.pointer (some ⟨s, 0, none⟩), .int .i64 r.po] (grow (redrawn W0 d) os) fun e w' => e = .returned (.bool (decide (0 ≤ r.po) && decide (r.po < P.length))) ∧ Below (grow (redrawn W0 d) os).heap.size (grow (redrawn W0 d) os) w') := hide fun d os => by
    refine (hasPort_any s pv P r.po (grow (redrawn W0 d) os) (cell_later (below_regrown W0 d os) (cell_later hB h0)) ((hp.below hB).below (below_regrown W0 d os))).mono ?_
    rintro e w' ⟨h1, h2⟩
    rw [h2]
    exact ⟨h1, Below.refl _ _⟩
  have HB := hide hB
  have HW := hide hW0
  clear hW0 hB h0 hp
  by_cases h2 : r.ac = 2
  · obtain ⟨p0, p1⟩ := hr h2
    have hd : (r.ac == 2) = true := by simp [h2]
    rw [decide_eq_true p0, decide_eq_true p1] at CP
    have HH2 := hide h2
    clear p0 p1 hr h2 hd
    go_enter Tryz.func41, Tryz.ntmps41
    go_wp2
    rw [← HW.out]
    clear HW
    rw [HH2.out] at c17
    clear HH2
    refine wp_region_quiet_below (by kernel_rfl) (by kernel_rfl) ?_
    repeat (first | go_big_quiet_skip | quiet_step (exact Calls.regrown_of (CP.out _ _)))
    refine wpQuiet_nil ?_; intro wq hwq; replace hwq := below_of_regrown hwq; obtain ⟨hcq, hfq⟩ := bcell hwq; have hzq := hwq.size
    have HQ := hide hwq
    clear hcq hfq hwq
    go_wp2
    go_ret
    exact ⟨rfl, HB.out.trans (HQ.out.mono (Nat.le_of_lt hlt))⟩
  · have hd : (r.ac == 2) = false := by simp [h2]
    clear hr CP h2
    go_enter Tryz.func41, Tryz.ntmps41
    go_wp2
    rw [← HW.out]
    clear HW
    refine wp_region_quiet_below (by kernel_rfl) (by kernel_rfl) ?_
    repeat (first | go_big_quiet_skip | quiet_step (fail))
    refine wpQuiet_nil ?_; intro wq hwq; replace hwq := below_of_regrown hwq; obtain ⟨hcq, hfq⟩ := bcell hwq; have hzq := hwq.size
    have HQ := hide hwq
    clear hcq hfq hwq
    go_wp2
    go_ret
    exact ⟨rfl, HB.out.trans (HQ.out.mono (Nat.le_of_lt hlt))⟩
end Go.Proofs.YtaejpejfmpbinaaGreatDoor
