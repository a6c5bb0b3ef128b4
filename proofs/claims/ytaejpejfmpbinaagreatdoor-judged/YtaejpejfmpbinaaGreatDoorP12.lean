import Derived.Test.YtaejpejfmpbinaaGreatDoorP11
import Derived.Deep.RegionHeld3
namespace Go.Proofs.YtaejpejfmpbinaaGreatDoor
open Go.RowKit
open Go.Sort (grow)

theorem ints_cells {w : World} {B g cap n : Nat} {ls : List Int} (h : w.ownsRow B 3 1 (.slice (some ⟨g, 0, none⟩) n cap) n (ls.map (Value.int .i64))) : ∀ k, k < n → ∃ z, w.cell? ⟨g, k, none⟩ = some (.int .i64 z) := by
  intro k hk
  have hl : ls.length = n := by have := h.1; simpa using this
  refine ⟨ls[k]'(by omega), ?_⟩
  rw [h.cellAt k (by omega)]
  simp [hl, hk]

theorem frozenA {w : World} {o : Obj} {b i : Nat} (h : b < w.heap.size) : (w.alloc o).frozen? ⟨b, i, none⟩ = w.frozen? ⟨b, i, none⟩ :=
  ((Below.refl w.heap.size w).alloc (Nat.le_refl _) o).frozen (p := ⟨b, i, none⟩) h
theorem set3_0 {w : World} {b : Nat} {u v0 v1 v2 : Value} (h : w.cell? ⟨b, 0, none⟩ = some u) : (((w.setCell ⟨b, 0, none⟩ v0).setCell ⟨b, 1, none⟩ v1).setCell ⟨b, 2, none⟩ v2).cell? ⟨b, 0, none⟩ = some v0 := by
  rw [set_other (.inr (by omega)), set_other (.inr (by omega))]
  exact set_same h
theorem set3_1 {w : World} {b : Nat} {u v0 v1 v2 : Value} (h : w.cell? ⟨b, 1, none⟩ = some u) : (((w.setCell ⟨b, 0, none⟩ v0).setCell ⟨b, 1, none⟩ v1).setCell ⟨b, 2, none⟩ v2).cell? ⟨b, 1, none⟩ = some v1 := by
  rw [set_other (.inr (by omega))]
  exact set_same (u := u) (by rw [set_other (.inr (by omega))]; exact h)
theorem set3_2 {w : World} {b : Nat} {u v0 v1 v2 : Value} (h : w.cell? ⟨b, 2, none⟩ = some u) : (((w.setCell ⟨b, 0, none⟩ v0).setCell ⟨b, 1, none⟩ v1).setCell ⟨b, 2, none⟩ v2).cell? ⟨b, 2, none⟩ = some v2 :=
  set_same (u := u) (by rw [set_other (.inr (by omega)), set_other (.inr (by omega))]; exact h)

attribute [local go_sem] cell?_regrown

set_option maxRecDepth 100000 in
set_option maxHeartbeats 1000000 in
theorem part_any (g cap n : Nat) (l : List (Int × Int)) (B : Nat) (w : World) (h : w.ownsRow B 137 2 (.slice (some ⟨g, 0, none⟩) n cap) n (pairs l)) (hn : n ≤ 200) :
    Calls Tryz.prog 169 #[.slice (some ⟨g, 0, none⟩) n cap] w fun e w' => ∃ last lo hi : Int, e = .returned (.agg #[.int .i64 last, .int .i64 lo, .int .i64 hi]) ∧ 0 ≤ lo ∧ lo ≤ n ∧ 0 ≤ hi ∧ hi ≤ n ∧ Below w.heap.size w w' := by
  have HE := hide fun (o : Obj) => ends_any g cap n l B (w.alloc o) (h.alloc o) hn
  have hg : g < w.heap.size := (h.lt g rfl).2
  clear h
  go_enter Tryz.func169, Tryz.ntmps169
  go_wp2_with fail
  refine (HE.out _).mono ?_
  rintro e w1 ⟨g1, c1, g2, c2, ls, hs, rfl, ho1, ho2, hb1⟩
  have hL := ints_cells ho1
  have hH := ints_cells ho2
  have hg1 := (ho1.lt g1 rfl).2
  have hg2 := (ho2.lt g2 rfl).2
  have hz1 : w.heap.size < w1.heap.size := by have := hb1.size; simp at this; omega
  have HB1 := hide hb1
  have HL := hide hL
  have HH := hide hH
  clear ho1 ho2 hb1 HE hL hH
  go_wp2
  go_loopw [6, 22] (fun bg i wr => ∃ (k b : Nat) (la lo hi : Int), k ≤ n ∧ i = .int .i64 k ∧ b ≤ n ∧ bg = .int .i64 b ∧ Below w1.heap.size w1 wr ∧ w1.heap.size < wr.heap.size ∧ (∀ j, wr.frozen? ⟨w1.heap.size, j, none⟩ = false) ∧ wr.cell? ⟨w1.heap.size, 0, none⟩ = some (.int .i64 la) ∧ wr.cell? ⟨w1.heap.size, 1, none⟩ = some (.int .i64 lo) ∧ wr.cell? ⟨w1.heap.size, 2, none⟩ = some (.int .i64 hi) ∧ 0 ≤ lo ∧ lo ≤ n ∧ 0 ≤ hi ∧ hi ≤ n) (fun _ i _ => n - (intOf i).toNat)
  case atStart => exact ⟨0, 0, 0, n, n, by omega, rfl, by omega, rfl, (by repeat (first | exact Below.refl _ _ | assumption | refine Below.drewN ?_ | refine Below.drew ?_ | refine Below.setCell ?_ (by first | exact Nat.le_refl _ | omega | (simp; done) | (simp; omega)) _ | refine Below.alloc ?_ (by first | exact Nat.le_refl _ | omega | (simp; done) | (simp; omega)) _)), (by first | exact Nat.le_refl _ | omega | (simp; done) | (simp; omega)), fun j => World.frozen?_alloc_at _ _ _ _ rfl, by simp, by simp, by simp, by omega, by omega, by omega, by omega⟩
  case round =>
    obtain ⟨k, b, la, lo, hi, hk, rfl, hbn, rfl, hb, hlt, hfz, q0, q1, q2, hlo0, hlon, hhi0, hhin⟩ := hrel
    have hfz0 := hfz 0
    have hfz1 := hfz 1
    have hfz2 := hfz 2
    have HF := hide hfz
    clear hfz
    by_cases hkl : k < n
    · obtain ⟨z, hz⟩ := HH.out k hkl
      have hz' := (hb.cell (p := ⟨g2, k, none⟩) hg2).trans hz
      have hki : (k : Int) < n := by omega
      clear hz
      by_cases hk1 : k + 1 < n
      · obtain ⟨y, hy⟩ := HH.out (k + 1) hk1
        have hy' := (hb.cell (p := ⟨g2, k + 1, none⟩) hg2).trans hy
        clear hy
        have hk1i : (k : Int) + 1 < n := by omega
        by_cases hyz : y = z
        · have hbq : (y == z) = true := by simp [hyz]
          go_wp2
          go_roundw
          case rel => exact ⟨k + 1, b, la, lo, hi, by omega, by go_num, hbn, rfl, hb, hlt, HF.out, q0, q1, q2, hlo0, hlon, hhi0, hhin⟩
          case measure => simp [intOf]; omega
        · have hbq : (y == z) = false := by simp [hyz]
          go_wp2
          clear hy' hyz
          go_loop [6] (fun bg => ∃ b' : Nat, b' ≤ n ∧ bg = .int .i64 b') (fun bg => n - (intOf bg).toNat)
          case atStart => exact ⟨b, hbn, rfl⟩
          case round =>
            obtain ⟨b', hbn', rfl⟩ := hrel
            by_cases hbl : b' < n
            · obtain ⟨x, hx⟩ := HL.out b' hbl
              have hx' := (hb.cell (p := ⟨g1, b', none⟩) hg1).trans hx
              clear hx
              have hbi : (b' : Int) < n := by omega
              by_cases hxz : x ≤ z
              · go_wp2
                go_round
                case rel => exact ⟨b' + 1, by omega, by go_num⟩
                case measure => simp [intOf]; omega
              · go_wp2_with fail
                refine wp_region_quiet_below (by kernel_rfl) (by kernel_rfl) ?_
                repeat (quiet_step (exact Calls.regrown_of (most_any _ _ _ _)))
                refine wpQuiet_nil ?_; intro wq hwq; replace hwq := below_of_regrown hwq; obtain ⟨hcq, hfq⟩ := bcell hwq; have hzq := hwq.size
                have hbq : Below w1.heap.size w1 wq := hb.trans (Below.trans ((Below.refl _ _).alloc hb.size _) (hwq.mono (by have := hb.size; simp; omega)))
                have hltq : w1.heap.size < wq.heap.size := by simp at hzq; omega
                have d0 := cell_later hwq (cellA hlt q0)
                have d1 := cell_later hwq (cellA hlt q1)
                have d2 := cell_later hwq (cellA hlt q2)
                have hfz' : ∀ j, wq.frozen? ⟨w1.heap.size, j, none⟩ = false := fun j => (hfq w1.heap.size j (by simp; omega)).trans ((frozenA hlt).trans (HF.out j))
                have f0 := hfz' 0
                have f1 := hfz' 1
                have f2 := hfz' 2
                have n0 : wq.cell? ⟨wr.heap.size, 0, none⟩ = some (.int .i64 z) := cell_later hwq (by simp)
                have n1 : wq.cell? ⟨wr.heap.size, 1, none⟩ = some (.int .i64 b') := cell_later hwq (by simp)
                have n2 : wq.cell? ⟨wr.heap.size, 2, none⟩ = some (.int .i64 ((n : Int) - k - 1)) := cell_later hwq (by simp)
                have HBQ := hide hbq
                have HFQ := hide hfz'
                clear hcq hfq hwq hzq q0 q1 q2 hfz0 hfz1 hfz2 hfz' hbq hz'
                have hnk0 : (0 : Int) ≤ (n : Int) - k - 1 := by omega
                have hnk1 : (n : Int) - k - 1 ≤ n := by omega
                by_cases hmm : maxI b' ((n : Int) - k - 1) < maxI lo hi
                · go_wp2
                  go_roundw
                  case rel => exact ⟨k + 1, b', z, b', (n : Int) - k - 1, by omega, by go_num, by omega, rfl, Below.setCell (Below.setCell (Below.setCell HBQ.out (Nat.le_refl _) _) (Nat.le_refl _) _) (Nat.le_refl _) _, by simpa using hltq, fun j => by simpa using HFQ.out j, set3_0 d0, set3_1 d1, set3_2 d2, by omega, by omega, by omega, by omega⟩
                  case measure => simp [intOf]; omega
                · go_wp2
                  go_roundw
                  case rel => exact ⟨k + 1, b', la, lo, hi, by omega, by go_num, by omega, rfl, HBQ.out, hltq, HFQ.out, d0, d1, d2, hlo0, hlon, hhi0, hhin⟩
                  case measure => simp [intOf]; omega
            · go_wp2_with fail
              refine wp_region_quiet_below (by kernel_rfl) (by kernel_rfl) ?_
              repeat (quiet_step (exact Calls.regrown_of (most_any _ _ _ _)))
              refine wpQuiet_nil ?_; intro wq hwq; replace hwq := below_of_regrown hwq; obtain ⟨hcq, hfq⟩ := bcell hwq; have hzq := hwq.size
              have hbq : Below w1.heap.size w1 wq := hb.trans (Below.trans ((Below.refl _ _).alloc hb.size _) (hwq.mono (by have := hb.size; simp; omega)))
              have hltq : w1.heap.size < wq.heap.size := by simp at hzq; omega
              have d0 := cell_later hwq (cellA hlt q0)
              have d1 := cell_later hwq (cellA hlt q1)
              have d2 := cell_later hwq (cellA hlt q2)
              have hfz' : ∀ j, wq.frozen? ⟨w1.heap.size, j, none⟩ = false := fun j => (hfq w1.heap.size j (by simp; omega)).trans ((frozenA hlt).trans (HF.out j))
              have f0 := hfz' 0
              have f1 := hfz' 1
              have f2 := hfz' 2
              have n0 : wq.cell? ⟨wr.heap.size, 0, none⟩ = some (.int .i64 z) := cell_later hwq (by simp)
              have n1 : wq.cell? ⟨wr.heap.size, 1, none⟩ = some (.int .i64 b') := cell_later hwq (by simp)
              have n2 : wq.cell? ⟨wr.heap.size, 2, none⟩ = some (.int .i64 ((n : Int) - k - 1)) := cell_later hwq (by simp)
              have HBQ := hide hbq
              have HFQ := hide hfz'
              clear hcq hfq hwq hzq q0 q1 q2 hfz0 hfz1 hfz2 hfz' hbq hz'
              have hnk0 : (0 : Int) ≤ (n : Int) - k - 1 := by omega
              have hnk1 : (n : Int) - k - 1 ≤ n := by omega
              by_cases hmm : maxI b' ((n : Int) - k - 1) < maxI lo hi
              · go_wp2
                go_roundw
                case rel => exact ⟨k + 1, b', z, b', (n : Int) - k - 1, by omega, by go_num, by omega, rfl, Below.setCell (Below.setCell (Below.setCell HBQ.out (Nat.le_refl _) _) (Nat.le_refl _) _) (Nat.le_refl _) _, by simpa using hltq, fun j => by simpa using HFQ.out j, set3_0 d0, set3_1 d1, set3_2 d2, by omega, by omega, by omega, by omega⟩
                case measure => simp [intOf]; omega
              · go_wp2
                go_roundw
                case rel => exact ⟨k + 1, b', la, lo, hi, by omega, by go_num, by omega, rfl, HBQ.out, hltq, HFQ.out, d0, d1, d2, hlo0, hlon, hhi0, hhin⟩
                case measure => simp [intOf]; omega
      · go_wp2
        go_loop [6] (fun bg => ∃ b' : Nat, b' ≤ n ∧ bg = .int .i64 b') (fun bg => n - (intOf bg).toNat)
        case atStart => exact ⟨b, hbn, rfl⟩
        case round =>
          obtain ⟨b', hbn', rfl⟩ := hrel
          by_cases hbl : b' < n
          · obtain ⟨x, hx⟩ := HL.out b' hbl
            have hx' := (hb.cell (p := ⟨g1, b', none⟩) hg1).trans hx
            clear hx
            have hbi : (b' : Int) < n := by omega
            by_cases hxz : x ≤ z
            · go_wp2
              go_round
              case rel => exact ⟨b' + 1, by omega, by go_num⟩
              case measure => simp [intOf]; omega
            · go_wp2_with fail
              refine wp_region_quiet_below (by kernel_rfl) (by kernel_rfl) ?_
              repeat (quiet_step (exact Calls.regrown_of (most_any _ _ _ _)))
              refine wpQuiet_nil ?_; intro wq hwq; replace hwq := below_of_regrown hwq; obtain ⟨hcq, hfq⟩ := bcell hwq; have hzq := hwq.size
              have hbq : Below w1.heap.size w1 wq := hb.trans (Below.trans ((Below.refl _ _).alloc hb.size _) (hwq.mono (by have := hb.size; simp; omega)))
              have hltq : w1.heap.size < wq.heap.size := by simp at hzq; omega
              have d0 := cell_later hwq (cellA hlt q0)
              have d1 := cell_later hwq (cellA hlt q1)
              have d2 := cell_later hwq (cellA hlt q2)
              have hfz' : ∀ j, wq.frozen? ⟨w1.heap.size, j, none⟩ = false := fun j => (hfq w1.heap.size j (by simp; omega)).trans ((frozenA hlt).trans (HF.out j))
              have f0 := hfz' 0
              have f1 := hfz' 1
              have f2 := hfz' 2
              have n0 : wq.cell? ⟨wr.heap.size, 0, none⟩ = some (.int .i64 z) := cell_later hwq (by simp)
              have n1 : wq.cell? ⟨wr.heap.size, 1, none⟩ = some (.int .i64 b') := cell_later hwq (by simp)
              have n2 : wq.cell? ⟨wr.heap.size, 2, none⟩ = some (.int .i64 ((n : Int) - k - 1)) := cell_later hwq (by simp)
              have HBQ := hide hbq
              have HFQ := hide hfz'
              clear hcq hfq hwq hzq q0 q1 q2 hfz0 hfz1 hfz2 hfz' hbq hz'
              have hnk0 : (0 : Int) ≤ (n : Int) - k - 1 := by omega
              have hnk1 : (n : Int) - k - 1 ≤ n := by omega
              by_cases hmm : maxI b' ((n : Int) - k - 1) < maxI lo hi
              · go_wp2
                go_roundw
                case rel => exact ⟨k + 1, b', z, b', (n : Int) - k - 1, by omega, by go_num, by omega, rfl, Below.setCell (Below.setCell (Below.setCell HBQ.out (Nat.le_refl _) _) (Nat.le_refl _) _) (Nat.le_refl _) _, by simpa using hltq, fun j => by simpa using HFQ.out j, set3_0 d0, set3_1 d1, set3_2 d2, by omega, by omega, by omega, by omega⟩
                case measure => simp [intOf]; omega
              · go_wp2
                go_roundw
                case rel => exact ⟨k + 1, b', la, lo, hi, by omega, by go_num, by omega, rfl, HBQ.out, hltq, HFQ.out, d0, d1, d2, hlo0, hlon, hhi0, hhin⟩
                case measure => simp [intOf]; omega
          · go_wp2_with fail
            refine wp_region_quiet_below (by kernel_rfl) (by kernel_rfl) ?_
            repeat (quiet_step (exact Calls.regrown_of (most_any _ _ _ _)))
            refine wpQuiet_nil ?_; intro wq hwq; replace hwq := below_of_regrown hwq; obtain ⟨hcq, hfq⟩ := bcell hwq; have hzq := hwq.size
            have hbq : Below w1.heap.size w1 wq := hb.trans (Below.trans ((Below.refl _ _).alloc hb.size _) (hwq.mono (by have := hb.size; simp; omega)))
            have hltq : w1.heap.size < wq.heap.size := by simp at hzq; omega
            have d0 := cell_later hwq (cellA hlt q0)
            have d1 := cell_later hwq (cellA hlt q1)
            have d2 := cell_later hwq (cellA hlt q2)
            have hfz' : ∀ j, wq.frozen? ⟨w1.heap.size, j, none⟩ = false := fun j => (hfq w1.heap.size j (by simp; omega)).trans ((frozenA hlt).trans (HF.out j))
            have f0 := hfz' 0
            have f1 := hfz' 1
            have f2 := hfz' 2
            have n0 : wq.cell? ⟨wr.heap.size, 0, none⟩ = some (.int .i64 z) := cell_later hwq (by simp)
            have n1 : wq.cell? ⟨wr.heap.size, 1, none⟩ = some (.int .i64 b') := cell_later hwq (by simp)
            have n2 : wq.cell? ⟨wr.heap.size, 2, none⟩ = some (.int .i64 ((n : Int) - k - 1)) := cell_later hwq (by simp)
            have HBQ := hide hbq
            have HFQ := hide hfz'
            clear hcq hfq hwq hzq q0 q1 q2 hfz0 hfz1 hfz2 hfz' hbq hz'
            have hnk0 : (0 : Int) ≤ (n : Int) - k - 1 := by omega
            have hnk1 : (n : Int) - k - 1 ≤ n := by omega
            by_cases hmm : maxI b' ((n : Int) - k - 1) < maxI lo hi
            · go_wp2
              go_roundw
              case rel => exact ⟨k + 1, b', z, b', (n : Int) - k - 1, by omega, by go_num, by omega, rfl, Below.setCell (Below.setCell (Below.setCell HBQ.out (Nat.le_refl _) _) (Nat.le_refl _) _) (Nat.le_refl _) _, by simpa using hltq, fun j => by simpa using HFQ.out j, set3_0 d0, set3_1 d1, set3_2 d2, by omega, by omega, by omega, by omega⟩
              case measure => simp [intOf]; omega
            · go_wp2
              go_roundw
              case rel => exact ⟨k + 1, b', la, lo, hi, by omega, by go_num, by omega, rfl, HBQ.out, hltq, HFQ.out, d0, d1, d2, hlo0, hlon, hhi0, hhin⟩
              case measure => simp [intOf]; omega
    · have hb0 : Below (w.heap.size + 1) (w.alloc (.cells #[.int .i64 0, .int .i64 0, .int .i64 0] 281)) wr := (HB1.out.mono (by simp)).trans (hb.mono (by omega))
      have r0 : wr.cell? ⟨w.heap.size, 0, none⟩ = some (.int .i64 0) := (hb0.cell (p := ⟨w.heap.size, 0, none⟩) (Nat.lt_succ_self _)).trans (by simp)
      have r1 : wr.cell? ⟨w.heap.size, 1, none⟩ = some (.int .i64 0) := (hb0.cell (p := ⟨w.heap.size, 1, none⟩) (Nat.lt_succ_self _)).trans (by simp)
      have r2 : wr.cell? ⟨w.heap.size, 2, none⟩ = some (.int .i64 0) := (hb0.cell (p := ⟨w.heap.size, 2, none⟩) (Nat.lt_succ_self _)).trans (by simp)
      have rf : ∀ j, wr.frozen? ⟨w.heap.size, j, none⟩ = false := fun j => (hb0.frozen (p := ⟨w.heap.size, j, none⟩) (Nat.lt_succ_self _)).trans (World.frozen?_alloc_at _ _ _ _ rfl)
      have rf0 := rf 0
      have rf1 := rf 1
      have rf2 := rf 2
      have HB0 := hide hb0
      clear hb0 rf
      go_wp2
      refine bodyPost_ret (v := .agg #[.int .i64 la, .int .i64 lo, .int .i64 hi]) ?_ rfl ⟨la, lo, hi, rfl, hlo0, hlon, hhi0, hhin, ?_⟩
      · have s0 := set3_0 (v0 := .int .i64 la) (v1 := .int .i64 lo) (v2 := .int .i64 hi) r0
        have s1 := set3_1 (v0 := .int .i64 la) (v1 := .int .i64 lo) (v2 := .int .i64 hi) r1
        have s2 := set3_2 (v0 := .int .i64 la) (v1 := .int .i64 lo) (v2 := .int .i64 hi) r2
        simp [results, Tryz.results169, go_sem, s0, s1, s2]
      · exact Below.setCell (Below.setCell (Below.setCell (Below.trans ((Below.refl w.heap.size w).alloc (Nat.le_refl _) _) (HB0.out.mono (by omega))) (Nat.le_refl _) _) (Nat.le_refl _) _) (Nat.le_refl _) _

end Go.Proofs.YtaejpejfmpbinaaGreatDoor

namespace Go.Proofs.YtaejpejfmpbinaaGreatDoor
open Go.RowKit

theorem set2_0 {w : World} {b : Nat} {u v0 v1 : Value} (h : w.cell? ⟨b, 0, none⟩ = some u) : ((w.setCell ⟨b, 0, none⟩ v0).setCell ⟨b, 1, none⟩ v1).cell? ⟨b, 0, none⟩ = some v0 := by
  rw [set_other (.inr (by omega))]
  exact set_same h
theorem set2_1 {w : World} {b : Nat} {u v0 v1 : Value} (h : w.cell? ⟨b, 1, none⟩ = some u) : ((w.setCell ⟨b, 0, none⟩ v0).setCell ⟨b, 1, none⟩ v1).cell? ⟨b, 1, none⟩ = some v1 :=
  set_same (u := u) (by rw [set_other (.inr (by omega))]; exact h)

/-- A cut in a box of two cells, which may be written. -/
def CutBox (w : World) (b f : Nat) (last : Int) : Prop := f < 5 ∧ b < w.heap.size ∧ (∀ j, w.frozen? ⟨b, j, none⟩ = false) ∧ w.cell? ⟨b, 0, none⟩ = some (.int .i64 f) ∧ w.cell? ⟨b, 1, none⟩ = some (.int .i64 last)
theorem CutBox.below {B : Nat} {w w' : World} {b f : Nat} {last : Int} (h : CutBox w b f last) (hb : Below B w w') (hB : b < B) : CutBox w' b f last :=
  ⟨h.1, Nat.lt_of_lt_of_le h.2.1 hb.size, fun j => (hb.frozen (p := ⟨b, j, none⟩) hB).trans (h.2.2.1 j), (hb.cell (p := ⟨b, 0, none⟩) hB).trans h.2.2.2.1, (hb.cell (p := ⟨b, 1, none⟩) hB).trans h.2.2.2.2⟩
theorem CutBox.set {w : World} {b f f' : Nat} {last last' : Int} (h : CutBox w b f last) (hf : f' < 5) : CutBox ((w.setCell ⟨b, 0, none⟩ (.int .i64 f')).setCell ⟨b, 1, none⟩ (.int .i64 last')) b f' last' :=
  ⟨hf, by simpa using h.2.1, fun j => by simpa using h.2.2.1 j, set2_0 h.2.2.2.1, set2_1 h.2.2.2.2⟩

set_option maxRecDepth 100000 in
set_option maxHeartbeats 1000000 in
theorem bestCut_any (v : Value) (es : List Ent) (w : World) (hes : BunchAt w v es) (hn : es.length ≤ 200) :
    Calls Tryz.prog 158 #[v] w fun e w' => ∃ (f : Nat) (last : Int) (ok : Bool), f < 5 ∧ e = .returned (.tuple #[.agg #[.int .i64 f, .int .i64 last], .bool ok]) ∧ Below w.heap.size w w' := by
  have HB := hide hes
  obtain ⟨a, cap, rfl, _, _⟩ := hes
  go_enter Tryz.func158, Tryz.ntmps158
  go_wp2
  go_loopw [3, 4, 10] (fun ok m i wr => ∃ (k f : Nat) (last mm : Int) (okb : Bool), k ≤ 5 ∧ i = .int .i64 k ∧ ok = .bool okb ∧ m = .int .i64 mm ∧ CutBox wr w.heap.size f last ∧ Below w.heap.size w wr) (fun _ _ i _ => 5 - (intOf i).toNat)
  case atStart => exact ⟨0, 0, 0, _, false, by omega, rfl, rfl, rfl, ⟨by omega, by simp, fun j => World.frozen?_alloc_at _ _ _ _ rfl, by simp, by simp⟩, (by repeat (first | exact Below.refl _ _ | assumption | refine Below.drewN ?_ | refine Below.drew ?_ | refine Below.setCell ?_ (by first | exact Nat.le_refl _ | omega | (simp; done) | (simp; omega)) _ | refine Below.alloc ?_ (by first | exact Nat.le_refl _ | omega | (simp; done) | (simp; omega)) _))⟩
  case round =>
    obtain ⟨k, f, last, mm, okb, hk, rfl, rfl, rfl, hcb, hb⟩ := hrel
    have HC := hide hcb
    have hltb := hcb.2.1
    clear hcb
    by_cases hk5 : k < 5
    · have hki : (k : Int) < 5 := by omega
      go_wp2_with fail
      refine (hulls_any _ es k _ (HB.out.below hb (Nat.le_refl _)) hn hk5).mono ?_
      rintro e w1 ⟨g, cp, rfl, ho, hb1⟩
      have HO := hide ho
      clear ho
      go_wp2_with fail
      refine (part_any g cp es.length _ _ _ HO.out hn).mono ?_
      rintro e w2 ⟨l0, lo, hi, rfl, h1, h2, h3, h4, hb2⟩
      have hb12 : Below wr.heap.size wr w2 := hb1.trans (hb2.mono hb1.size)
      have HC2 := hide (HC.out.below hb12 hltb)
      have hlt2 := HC2.out.2.1
      have HB2 := hide (hb.trans (hb12.mono hb.size))
      clear hb1 hb2 hb12 HO HC
      go_wp2_with fail
      refine (most_any _ _ _ _).mono ?_
      rintro e w3 ⟨rfl, hb3⟩
      obtain ⟨hc3, hf3⟩ := bcell hb3
      have hz3 := hb3.size
      have HC3 := hide ((HC2.out.below ((Below.refl w2.heap.size w2).alloc (Nat.le_refl _) _) hlt2).below hb3 (by simp; omega))
      have HB3 := hide (HB2.out.trans (Below.trans ((Below.refl _ _).alloc HB2.out.size _) (hb3.mono (by have := HB2.out.size; simp; omega))))
      have p0 : w3.cell? ⟨w2.heap.size, 0, none⟩ = some (.int .i64 l0) := cell_later hb3 (by simp)
      have p1 : w3.cell? ⟨w2.heap.size, 1, none⟩ = some (.int .i64 lo) := cell_later hb3 (by simp)
      have p2 : w3.cell? ⟨w2.heap.size, 2, none⟩ = some (.int .i64 hi) := cell_later hb3 (by simp)
      have hlt3 : w2.heap.size < w3.heap.size := by simp at hz3; omega
      generalize hq : maxI lo hi = q at *
      clear hq hc3 hf3 hz3 hb3 HC2 HB2
      by_cases t1 : q < mm
      · by_cases t2 : (lo + hi - es.length) * 4 ≤ es.length
        · go_wp2
          have c0 := HC3.out.2.2.2.1
          have c1 := HC3.out.2.2.2.2
          have f0 := HC3.out.2.2.1 0
          have f1 := HC3.out.2.2.1 1
          have hn1 : ¬ w2.heap.size = w.heap.size := by omega
          have hn2 : ¬ w.heap.size = w2.heap.size := by omega
          have hlt4 : w.heap.size < w3.heap.size := by omega
          go_region_held3 (fun w' => w'.cell? ⟨w2.heap.size, 0, none⟩ = some (.int .i64 l0) ∧ w'.cell? ⟨w2.heap.size, 1, none⟩ = some (.int .i64 lo) ∧ w'.cell? ⟨w2.heap.size, 2, none⟩ = some (.int .i64 hi)) (go_keep)
            (first | (go_at_call 171; refine (most_any _ _ _ _).mono ?_; rintro e w4 ⟨rfl, hb4⟩; have k0 := cell_later hb4 p0; have k1 := cell_later hb4 p1; have k2 := cell_later hb4 p2; have k3 := cell_later hb4 c0; have k4 := cell_later hb4 c1; have k5 : w4.frozen? ⟨w.heap.size, 0, none⟩ = false := (hb4.frozen (p := ⟨w.heap.size, 0, none⟩) hlt4).trans f0; have k6 : w4.frozen? ⟨w.heap.size, 1, none⟩ = false := (hb4.frozen (p := ⟨w.heap.size, 1, none⟩) hlt4).trans f1))
          replace hb4 : Below w3.heap.size w3 w4 := ((Below.refl w3.heap.size w3).drew).trans hb4
          have HC4 := hide ((HC3.out.below hb4 hlt4).set (f' := k) (last' := l0) hk5)
          have HB4 := hide (Below.setCell (Below.setCell (HB3.out.trans (hb4.mono HB3.out.size)) (p := ⟨w.heap.size, 0, none⟩) (Nat.le_refl _) (.int .i64 k)) (p := ⟨w.heap.size, 1, none⟩) (Nat.le_refl _) (.int .i64 l0))
          clear hb4 k0 k1 k2 k3 k4 k5 k6
          go_wp2
          go_roundw
          case rel => exact ⟨k + 1, k, l0, _, true, by omega, by go_num, rfl, rfl, HC4.out, HB4.out⟩
          case measure => simp [intOf]; omega
        · go_wp2
          go_roundw
          case rel => exact ⟨k + 1, f, last, _, okb, by omega, by go_num, rfl, rfl, HC3.out, HB3.out⟩
          case measure => simp [intOf]; omega
      · go_wp2
        go_roundw
        case rel => exact ⟨k + 1, f, last, _, okb, by omega, by go_num, rfl, rfl, HC3.out, HB3.out⟩
        case measure => simp [intOf]; omega
    · have c0 := HC.out.2.2.2.1
      have c1 := HC.out.2.2.2.2
      have f0 := HC.out.2.2.1 0
      have f1 := HC.out.2.2.1 1
      go_wp2
      refine bodyPost_ret (v := .tuple #[.agg #[.int .i64 f, .int .i64 last], .bool okb]) ?_ rfl ⟨f, last, okb, HC.out.1, rfl, ?_⟩
      · have s0 := set2_0 (v0 := .int .i64 f) (v1 := .int .i64 last) c0
        have s1 := set2_1 (v0 := .int .i64 f) (v1 := .int .i64 last) c1
        simp [results, Tryz.results158, go_sem, s0, s1]
      · exact Below.setCell (Below.setCell hb (Nat.le_refl _) _) (Nat.le_refl _) _

end Go.Proofs.YtaejpejfmpbinaaGreatDoor

namespace Go.Proofs.YtaejpejfmpbinaaGreatDoor
open Go.RowKit

/-- A store of what is there turns nothing. -/
theorem sameCut {w : World} {b i : Nat} {v : Value} (h : w.cell? ⟨b, i, none⟩ = some v) : w.setCell ⟨b, i, none⟩ v = w := by
  have hb : b < w.heap.size := block_lt_of_cell h
  unfold World.cell? at h
  unfold World.setCell
  cases w with
  | mk heap tape drawn os output =>
    simp only at h hb ⊢
    congr 1
    apply Array.ext_getElem?
    intro k
    rw [Array.getElem?_modify]
    by_cases hk : b = k
    · subst hk
      rw [if_pos rfl]
      cases ho : heap[b]? with
      | none => rfl
      | some o =>
        rw [ho] at h
        cases o with
        | cells c t fr =>
          simp at h
          simp only [Option.map_some]
          congr 2
          apply Array.ext_getElem?
          intro j
          simp only [Option.isSome_none, Bool.false_eq_true, if_false]
          rw [Array.getElem?_setIfInBounds]
          by_cases hj : i = j
          · subst hj
            obtain ⟨hj', hh⟩ := Array.getElem?_eq_some_iff.1 h
            rw [if_pos rfl, if_pos hj', h]
          · rw [if_neg hj]
        | _ => simp at h
    · rw [if_neg hk]

set_option maxRecDepth 100000 in
set_option maxHeartbeats 1000000 in
theorem split_any (v : Value) (es : List Ent) (w : World) (hes : BunchAt w v es) (hn : es.length ≤ 200) :
    Calls Tryz.prog 131 #[v] w fun e w' => ∃ (f : Nat) (last : Int) (v1 v2 : Value) (ok : Bool), f < 5 ∧ e = .returned (.tuple #[.agg #[.int .i64 f, .int .i64 last], v1, v2, .bool ok]) ∧ (ok = true → BunchAt w' v1 (lows f last es) ∧ BunchAt w' v2 (highs f last es)) ∧ Below w.heap.size w w' := by
  have HB := hide hes
  obtain ⟨a, cap, rfl, _, _⟩ := hes
  by_cases h4 : es.length ≤ 4
  · have h4i : (es.length : Int) ≤ 4 := by omega
    go_enter Tryz.func131, Tryz.ntmps131
    go_wp2
    refine bodyPost_ret (v := .tuple #[.agg #[.int .i64 0, .int .i64 0], .slice none 0 0, .slice none 0 0, .bool false]) ?_ rfl ⟨0, 0, .slice none 0 0, .slice none 0 0, false, by omega, rfl, fun h => (by cases h), (by repeat (first | exact Below.refl _ _ | assumption | refine Below.drewN ?_ | refine Below.drew ?_ | refine Below.setCell ?_ (by first | exact Nat.le_refl _ | omega | (simp; done) | (simp; omega)) _ | refine Below.alloc ?_ (by first | exact Nat.le_refl _ | omega | (simp; done) | (simp; omega)) _))⟩
    simp [results, Tryz.results131, go_sem]
  · have h4i : ¬ (es.length : Int) ≤ 4 := by omega
    go_enter Tryz.func131, Tryz.ntmps131
    go_wp2_with fail
    refine (bestCut_any _ es _ (HB.out.below ((Below.refl w.heap.size w).alloc (Nat.le_refl _) _) (Nat.le_refl _)) hn).mono ?_
    rintro e w1 ⟨f, last, ok, hf, rfl, hb1⟩
    have hz1 : w.heap.size < w1.heap.size := by have := hb1.size; simp at this; omega
    have hb0 : Below (w.heap.size + 1) (w.alloc (.cells #[.int .i64 0, .int .i64 0] 245)) w1 := hb1.mono (by simp)
    have r0 : w1.cell? ⟨w.heap.size, 0, none⟩ = some (.int .i64 0) := (hb0.cell (p := ⟨w.heap.size, 0, none⟩) (Nat.lt_succ_self _)).trans (by simp)
    have r1 : w1.cell? ⟨w.heap.size, 1, none⟩ = some (.int .i64 0) := (hb0.cell (p := ⟨w.heap.size, 1, none⟩) (Nat.lt_succ_self _)).trans (by simp)
    have rf : ∀ j, w1.frozen? ⟨w.heap.size, j, none⟩ = false := fun j => (hb0.frozen (p := ⟨w.heap.size, j, none⟩) (Nat.lt_succ_self _)).trans (World.frozen?_alloc_at _ _ _ _ rfl)
    have rf0 := rf 0
    have rf1 := rf 1
    have HBX := hide (CutBox.set (f' := f) (last' := last) (show CutBox w1 w.heap.size 0 0 from ⟨by omega, hz1, rf, r0, r1⟩) hf)
    have HBW := hide (Below.setCell (Below.setCell (Below.trans ((Below.refl w.heap.size w).alloc (Nat.le_refl _) (.cells #[.int .i64 0, .int .i64 0] 245)) (hb0.mono (by omega))) (p := ⟨w.heap.size, 0, none⟩) (Nat.le_refl _) (.int .i64 f)) (p := ⟨w.heap.size, 1, none⟩) (Nat.le_refl _) (.int .i64 last))
    clear hb0 rf
    cases ok
    · go_wp2_with fail
      refine bodyPost_ret (v := .tuple #[.agg #[.int .i64 f, .int .i64 last], .slice none 0 0, .slice none 0 0, .bool false]) ?_ rfl ⟨f, last, .slice none 0 0, .slice none 0 0, false, hf, rfl, fun h => (by cases h), ?_⟩
      · have s0 := set2_0 (v0 := .int .i64 f) (v1 := .int .i64 last) HBX.out.2.2.2.1
        have s1 := set2_1 (v0 := .int .i64 f) (v1 := .int .i64 last) HBX.out.2.2.2.2
        simp [results, Tryz.results131, go_sem, s0, s1]
      · exact Below.setCell (Below.setCell HBW.out (Nat.le_refl _) _) (Nat.le_refl _) _
    · go_wp2_with fail
      refine (sides_walk _ es f last _ (HB.out.below HBW.out (Nat.le_refl _)) hn hf).mono ?_
      rintro e w3 ⟨v1, v2, rfl, hv1, hv2, hb3⟩
      have HX3 := HBX.out.below hb3 (by simpa using hz1)
      have x0 := HX3.2.2.2.1
      have x1 := HX3.2.2.2.2
      have xf0 := HX3.2.2.1 0
      have xf1 := HX3.2.2.1 1
      have HW3 := hide (HBW.out.trans (hb3.mono HBW.out.size))
      have HXX := hide HX3
      have e0 := sameCut x0
      have e1 := sameCut x1
      have HV1 := hide hv1
      have HV2 := hide hv2
      obtain ⟨a1, q1, rfl, _, _⟩ := hv1
      obtain ⟨a2, q2, rfl, _, _⟩ := hv2
      clear hb3 HX3
      go_wp2_with fail
      refine bodyPost_ret (v := .tuple #[.agg #[.int .i64 f, .int .i64 last], .slice a1 (lows f last es).length q1, .slice a2 (highs f last es).length q2, .bool true]) ?_ rfl ⟨f, last, _, _, true, hf, rfl, fun _ => ⟨?_, ?_⟩, ?_⟩
      · simp [results, Tryz.results131, go_sem, x0, x1]
      · exact HV1.out
      · exact HV2.out
      · exact HW3.out

end Go.Proofs.YtaejpejfmpbinaaGreatDoor
