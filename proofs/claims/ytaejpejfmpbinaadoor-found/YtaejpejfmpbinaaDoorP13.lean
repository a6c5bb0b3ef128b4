import Derived.Test.YtaejpejfmpbinaaDoorP12
import Derived.BigQuiet
namespace Go.Proofs.YtaejpejfmpbinaaDoor
open Go.RowKit

theorem matB_kind {k v m lo hi : Int} (h : matB k v m lo hi = true) : k = 0 ∨ k = 1 := by
  simp only [matB, Bool.and_eq_true] at h
  have h3 := h.2.2
  split at h3
  · exact .inl ‹_›
  · split at h3
    · exact .inr ‹_›
    · cases h3
theorem kind0 {r : Rl} (h : r.ok = true) : r.k0 = 0 ∨ r.k0 = 1 := by
  simp only [Rl.ok, ruleB, Bool.and_eq_true] at h
  exact matB_kind h.2.2.2.1
theorem kind1 {r : Rl} (h : r.ok = true) : r.k1 = 0 ∨ r.k1 = 1 := by
  simp only [Rl.ok, ruleB, Bool.and_eq_true] at h
  exact matB_kind h.2.2.2.2.1
theorem kind2 {r : Rl} (h : r.ok = true) : r.k2 = 0 ∨ r.k2 = 1 := by
  simp only [Rl.ok, ruleB, Bool.and_eq_true] at h
  exact matB_kind h.2.2.2.2.2.1
theorem kind3 {r : Rl} (h : r.ok = true) : r.k3 = 0 ∨ r.k3 = 1 := by
  simp only [Rl.ok, ruleB, Bool.and_eq_true] at h
  exact matB_kind h.2.2.2.2.2.2.1
theorem kind4 {r : Rl} (h : r.ok = true) : r.k4 = 0 ∨ r.k4 = 1 := by
  simp only [Rl.ok, ruleB, Bool.and_eq_true] at h
  exact matB_kind h.2.2.2.2.2.2.2.1
theorem hitB_range {k v m mx x : Int} (h : k = 1) : hitB k v m mx x = (decide (v ≤ x) && decide (x ≤ m)) := by
  subst h; simp [hitB, hasB, topB]
theorem hitB_mask {k v m mx x : Int} (h : k = 0) : hitB k v m mx x = (bits .and .i64 x m == v) := by
  subst h; simp [hitB]
/-- Does a rule's field match? -/
def hitAt (r : Rl) (x0 x1 x2 x3 x4 : Int) : Nat → Bool
  | 0 => hitB r.k0 r.v0 r.m0 4294967295 x0
  | 1 => hitB r.k1 r.v1 r.m1 4294967295 x1
  | 2 => hitB r.k2 r.v2 r.m2 255 x2
  | 3 => hitB r.k3 r.v3 r.m3 65535 x3
  | _ => hitB r.k4 r.v4 r.m4 65535 x4
theorem hits_all (r : Rl) (x0 x1 x2 x3 x4 : Int) : r.hits x0 x1 x2 x3 x4 = true ↔ ∀ j, j < 5 → hitAt r x0 x1 x2 x3 x4 j = true := by
  simp only [Rl.hits, Bool.and_eq_true]
  constructor
  · rintro ⟨h0, h1, h2, h3, h4⟩ j hj
    match j, hj with
    | 0, _ => exact h0
    | 1, _ => exact h1
    | 2, _ => exact h2
    | 3, _ => exact h3
    | 4, _ => exact h4
    | n + 5, h => exact absurd h (by omega)
  · intro h
    exact ⟨h 0 (by omega), h 1 (by omega), h 2 (by omega), h 3 (by omega), h 4 (by omega)⟩
theorem hits_false (r : Rl) (x0 x1 x2 x3 x4 : Int) (j : Nat) (hj : j < 5) (h : hitAt r x0 x1 x2 x3 x4 j = false) : r.hits x0 x1 x2 x3 x4 = false := by
  rw [← Bool.not_eq_true, hits_all]
  intro hall
  rw [hall j hj] at h; cases h

set_option maxRecDepth 100000 in
set_option maxHeartbeats 2000000 in
theorem said_any (r : Rl) (x0 x1 x2 x3 x4 : Int) (w : World) (hok : r.ok = true) :
    Calls Tryd.prog 27 #[.agg #[.int .i64 r.id, .int .i64 r.pr, .int .i64 r.k0, .int .i64 r.v0, .int .i64 r.m0, .int .i64 r.k1, .int .i64 r.v1, .int .i64 r.m1, .int .i64 r.k2, .int .i64 r.v2, .int .i64 r.m2, .int .i64 r.k3, .int .i64 r.v3, .int .i64 r.m3, .int .i64 r.k4, .int .i64 r.v4, .int .i64 r.m4, .int .i64 r.ac, .int .i64 r.po], .agg #[.int .i64 x0, .int .i64 x1, .int .i64 x2, .int .i64 x3, .int .i64 x4]] w fun e w' => e = .returned (.bool (r.hits x0 x1 x2 x3 x4)) ∧ Below w.heap.size w w' := by
  obtain ⟨res, hres⟩ : ∃ res, res = r.hits x0 x1 x2 x3 x4 := ⟨_, rfl⟩
  have HRES := hide hres
  rw [← hres]
  clear hres
  go_enter Tryd.func27, Tryd.ntmps27
  go_wp2_with fail
  go_loopw [5] (fun i wr => ∃ k : Nat, k ≤ 5 ∧ i = .int .i64 k ∧ Below w.heap.size w wr ∧ wr.rangeAt w.heap.size 0 [.int .i64 r.id, .int .i64 r.pr, .int .i64 r.k0, .int .i64 r.v0, .int .i64 r.m0, .int .i64 r.k1, .int .i64 r.v1, .int .i64 r.m1, .int .i64 r.k2, .int .i64 r.v2, .int .i64 r.m2, .int .i64 r.k3, .int .i64 r.v3, .int .i64 r.m3, .int .i64 r.k4, .int .i64 r.v4, .int .i64 r.m4, .int .i64 r.ac, .int .i64 r.po] ∧ wr.rangeAt (w.heap.size + 1) 0 [.int .i64 x0, .int .i64 x1, .int .i64 x2, .int .i64 x3, .int .i64 x4] ∧ ∀ j, j < k → hitAt r x0 x1 x2 x3 x4 j = true) (fun i _ => 5 - (intOf i).toNat)
  case atStart =>
    have hs1 := alloc_size w (.cells #[.int .i64 r.id, .int .i64 r.pr, .int .i64 r.k0, .int .i64 r.v0, .int .i64 r.m0, .int .i64 r.k1, .int .i64 r.v1, .int .i64 r.m1, .int .i64 r.k2, .int .i64 r.v2, .int .i64 r.m2, .int .i64 r.k3, .int .i64 r.v3, .int .i64 r.m3, .int .i64 r.k4, .int .i64 r.v4, .int .i64 r.m4, .int .i64 r.ac, .int .i64 r.po] 31)
    have n2 := range_new (w.alloc (.cells #[.int .i64 r.id, .int .i64 r.pr, .int .i64 r.k0, .int .i64 r.v0, .int .i64 r.m0, .int .i64 r.k1, .int .i64 r.v1, .int .i64 r.m1, .int .i64 r.k2, .int .i64 r.v2, .int .i64 r.m2, .int .i64 r.k3, .int .i64 r.v3, .int .i64 r.m3, .int .i64 r.k4, .int .i64 r.v4, .int .i64 r.m4, .int .i64 r.ac, .int .i64 r.po] 31)) #[.int .i64 x0, .int .i64 x1, .int .i64 x2, .int .i64 x3, .int .i64 x4] 41
    rw [hs1] at n2
    exact ⟨0, by omega, rfl, (((Below.refl _ w).alloc (Nat.le_refl _) _).alloc (by omega) _), rangeAt_below (range_new w _ _) ((Below.refl _ _).alloc (Nat.le_refl _) _), n2, fun j hj => absurd hj (by omega)⟩
  case round =>
    obtain ⟨k, hk5, rfl, hb, hR, hK, hP⟩ := hrel
    have hsz := hb.size
    have R := hide hR
    have KX := hide hK
    have HB := hide hb
    have HP := hide hP
    clear hR hK hb hP
    match k, hk5 with
    | 0, _ =>
      have ck : wr.cell? ⟨w.heap.size, 2, none⟩ = some (.int .i64 r.k0) := R.out 2 _ rfl
      have cv : wr.cell? ⟨w.heap.size, 3, none⟩ = some (.int .i64 r.v0) := R.out 3 _ rfl
      have cm : wr.cell? ⟨w.heap.size, 4, none⟩ = some (.int .i64 r.m0) := R.out 4 _ rfl
      have cx : wr.cell? ⟨w.heap.size + 1, 0, none⟩ = some (.int .i64 x0) := KX.out 0 _ rfl
      have hl1 : w.heap.size < wr.heap.size := block_lt_of_cell ck
      have hl2 : w.heap.size + 1 < wr.heap.size := block_lt_of_cell cx
      have hkind := kind0 hok
      by_cases hk1 : r.k0 = 1
      · have hh : hitAt r x0 x1 x2 x3 x4 0 = (decide (r.v0 ≤ x0) && decide (x0 ≤ r.m0)) := hitB_range hk1
        have HH := hide hh
        have e1 : (r.k0 == 1) = true := by simp [hk1]
        have e0 : (r.k0 == 0) = false := by simp [hk1]
        clear hh hkind hk1
        by_cases h1 : x0 < r.v0
        · have d1 : decide (x0 < r.v0) = true := by simp [h1]
          have why : hitAt r x0 x1 x2 x3 x4 0 = false := by rw [HH.out]; simp; omega
          have HW := hide why
          clear why
          go_wp2_with fail
          go_quiet (fail)
          go_wp2
          go_ret
          exact ⟨by rw [HRES.out, hits_false r x0 x1 x2 x3 x4 0 (by omega) HW.out]; rfl, by have hb := HB.out; exact (by repeat (first | exact Below.refl _ _ | assumption | refine Below.drewN ?_ | refine Below.drew ?_ | refine Below.setCell ?_ (by first | exact Nat.le_refl _ | omega | (simp; done) | (simp; omega)) _ | refine Below.alloc ?_ (by first | exact Nat.le_refl _ | omega | (simp; done) | (simp; omega)) _))⟩
        · have d1 : decide (x0 < r.v0) = false := by simp; omega
          by_cases h2 : r.m0 < x0
          · have d2 : decide (r.m0 < x0) = true := by simp [h2]
            have why : hitAt r x0 x1 x2 x3 x4 0 = false := by rw [HH.out]; simp; omega
            have HW := hide why
            clear why
            go_wp2_with fail
            go_quiet (fail)
            go_wp2
            go_ret
            exact ⟨by rw [HRES.out, hits_false r x0 x1 x2 x3 x4 0 (by omega) HW.out]; rfl, by have hb := HB.out; exact (by repeat (first | exact Below.refl _ _ | assumption | refine Below.drewN ?_ | refine Below.drew ?_ | refine Below.setCell ?_ (by first | exact Nat.le_refl _ | omega | (simp; done) | (simp; omega)) _ | refine Below.alloc ?_ (by first | exact Nat.le_refl _ | omega | (simp; done) | (simp; omega)) _))⟩
          · have d2 : decide (r.m0 < x0) = false := by simp; omega
            have why : hitAt r x0 x1 x2 x3 x4 0 = true := by rw [HH.out]; simp; omega
            have HW := hide why
            clear why
            go_wp2_with fail
            go_quiet (fail)
            go_wp2_with fail
            go_quiet (fail)
            go_wp2
            go_roundw
            case rel => exact ⟨1, by omega, rfl, by have hb := HB.out; exact (by repeat (first | exact Below.refl _ _ | assumption | refine Below.drewN ?_ | refine Below.drew ?_ | refine Below.setCell ?_ (by first | exact Nat.le_refl _ | omega | (simp; done) | (simp; omega)) _ | refine Below.alloc ?_ (by first | exact Nat.le_refl _ | omega | (simp; done) | (simp; omega)) _)), rangeAt_below R.out (by repeat (first | exact Below.refl _ _ | assumption | refine Below.drewN ?_ | refine Below.drew ?_ | refine Below.setCell ?_ (by first | exact Nat.le_refl _ | omega | (simp; done) | (simp; omega)) _ | refine Below.alloc ?_ (by first | exact Nat.le_refl _ | omega | (simp; done) | (simp; omega)) _)), rangeAt_below KX.out (by repeat (first | exact Below.refl _ _ | assumption | refine Below.drewN ?_ | refine Below.drew ?_ | refine Below.setCell ?_ (by first | exact Nat.le_refl _ | omega | (simp; done) | (simp; omega)) _ | refine Below.alloc ?_ (by first | exact Nat.le_refl _ | omega | (simp; done) | (simp; omega)) _)), fun j hj => if h : j = 0 then h ▸ HW.out else HP.out j (by omega)⟩
            case measure => simp [intOf]
      · have hk0 : r.k0 = 0 := hkind.resolve_right hk1
        have hh : hitAt r x0 x1 x2 x3 x4 0 = (bits .and .i64 x0 r.m0 == r.v0) := hitB_mask hk0
        have HH := hide hh
        have e1 : (r.k0 == 1) = false := by simp [hk0]
        have e0 : (r.k0 == 0) = true := by simp [hk0]
        clear hh hkind hk1 hk0
        by_cases h1 : bits .and .i64 x0 r.m0 = r.v0
        · have d1 : (bits .and .i64 x0 r.m0 == r.v0) = true := by simp [h1]
          have why : hitAt r x0 x1 x2 x3 x4 0 = true := by rw [HH.out]; exact d1
          have HW := hide why
          clear why
          go_wp2_with fail
          go_quiet (fail)
          go_wp2_with fail
          go_quiet (fail)
          go_wp2
          go_roundw
          case rel => exact ⟨1, by omega, rfl, by have hb := HB.out; exact (by repeat (first | exact Below.refl _ _ | assumption | refine Below.drewN ?_ | refine Below.drew ?_ | refine Below.setCell ?_ (by first | exact Nat.le_refl _ | omega | (simp; done) | (simp; omega)) _ | refine Below.alloc ?_ (by first | exact Nat.le_refl _ | omega | (simp; done) | (simp; omega)) _)), rangeAt_below R.out (by repeat (first | exact Below.refl _ _ | assumption | refine Below.drewN ?_ | refine Below.drew ?_ | refine Below.setCell ?_ (by first | exact Nat.le_refl _ | omega | (simp; done) | (simp; omega)) _ | refine Below.alloc ?_ (by first | exact Nat.le_refl _ | omega | (simp; done) | (simp; omega)) _)), rangeAt_below KX.out (by repeat (first | exact Below.refl _ _ | assumption | refine Below.drewN ?_ | refine Below.drew ?_ | refine Below.setCell ?_ (by first | exact Nat.le_refl _ | omega | (simp; done) | (simp; omega)) _ | refine Below.alloc ?_ (by first | exact Nat.le_refl _ | omega | (simp; done) | (simp; omega)) _)), fun j hj => if h : j = 0 then h ▸ HW.out else HP.out j (by omega)⟩
          case measure => simp [intOf]
        · have d1 : (bits .and .i64 x0 r.m0 == r.v0) = false := by simp [h1]
          have why : hitAt r x0 x1 x2 x3 x4 0 = false := by rw [HH.out]; exact d1
          have HW := hide why
          clear why
          go_wp2_with fail
          go_quiet (fail)
          go_wp2_with fail
          go_quiet (fail)
          go_wp2
          go_ret
          exact ⟨by rw [HRES.out, hits_false r x0 x1 x2 x3 x4 0 (by omega) HW.out]; rfl, by have hb := HB.out; exact (by repeat (first | exact Below.refl _ _ | assumption | refine Below.drewN ?_ | refine Below.drew ?_ | refine Below.setCell ?_ (by first | exact Nat.le_refl _ | omega | (simp; done) | (simp; omega)) _ | refine Below.alloc ?_ (by first | exact Nat.le_refl _ | omega | (simp; done) | (simp; omega)) _))⟩
    | 1, _ =>
      have ck : wr.cell? ⟨w.heap.size, 5, none⟩ = some (.int .i64 r.k1) := R.out 5 _ rfl
      have cv : wr.cell? ⟨w.heap.size, 6, none⟩ = some (.int .i64 r.v1) := R.out 6 _ rfl
      have cm : wr.cell? ⟨w.heap.size, 7, none⟩ = some (.int .i64 r.m1) := R.out 7 _ rfl
      have cx : wr.cell? ⟨w.heap.size + 1, 1, none⟩ = some (.int .i64 x1) := KX.out 1 _ rfl
      have hl1 : w.heap.size < wr.heap.size := block_lt_of_cell ck
      have hl2 : w.heap.size + 1 < wr.heap.size := block_lt_of_cell cx
      have hkind := kind1 hok
      by_cases hk1 : r.k1 = 1
      · have hh : hitAt r x0 x1 x2 x3 x4 1 = (decide (r.v1 ≤ x1) && decide (x1 ≤ r.m1)) := hitB_range hk1
        have HH := hide hh
        have e1 : (r.k1 == 1) = true := by simp [hk1]
        have e0 : (r.k1 == 0) = false := by simp [hk1]
        clear hh hkind hk1
        by_cases h1 : x1 < r.v1
        · have d1 : decide (x1 < r.v1) = true := by simp [h1]
          have why : hitAt r x0 x1 x2 x3 x4 1 = false := by rw [HH.out]; simp; omega
          have HW := hide why
          clear why
          go_wp2_with fail
          go_quiet (fail)
          go_wp2
          go_ret
          exact ⟨by rw [HRES.out, hits_false r x0 x1 x2 x3 x4 1 (by omega) HW.out]; rfl, by have hb := HB.out; exact (by repeat (first | exact Below.refl _ _ | assumption | refine Below.drewN ?_ | refine Below.drew ?_ | refine Below.setCell ?_ (by first | exact Nat.le_refl _ | omega | (simp; done) | (simp; omega)) _ | refine Below.alloc ?_ (by first | exact Nat.le_refl _ | omega | (simp; done) | (simp; omega)) _))⟩
        · have d1 : decide (x1 < r.v1) = false := by simp; omega
          by_cases h2 : r.m1 < x1
          · have d2 : decide (r.m1 < x1) = true := by simp [h2]
            have why : hitAt r x0 x1 x2 x3 x4 1 = false := by rw [HH.out]; simp; omega
            have HW := hide why
            clear why
            go_wp2_with fail
            go_quiet (fail)
            go_wp2
            go_ret
            exact ⟨by rw [HRES.out, hits_false r x0 x1 x2 x3 x4 1 (by omega) HW.out]; rfl, by have hb := HB.out; exact (by repeat (first | exact Below.refl _ _ | assumption | refine Below.drewN ?_ | refine Below.drew ?_ | refine Below.setCell ?_ (by first | exact Nat.le_refl _ | omega | (simp; done) | (simp; omega)) _ | refine Below.alloc ?_ (by first | exact Nat.le_refl _ | omega | (simp; done) | (simp; omega)) _))⟩
          · have d2 : decide (r.m1 < x1) = false := by simp; omega
            have why : hitAt r x0 x1 x2 x3 x4 1 = true := by rw [HH.out]; simp; omega
            have HW := hide why
            clear why
            go_wp2_with fail
            go_quiet (fail)
            go_wp2_with fail
            go_quiet (fail)
            go_wp2
            go_roundw
            case rel => exact ⟨2, by omega, rfl, by have hb := HB.out; exact (by repeat (first | exact Below.refl _ _ | assumption | refine Below.drewN ?_ | refine Below.drew ?_ | refine Below.setCell ?_ (by first | exact Nat.le_refl _ | omega | (simp; done) | (simp; omega)) _ | refine Below.alloc ?_ (by first | exact Nat.le_refl _ | omega | (simp; done) | (simp; omega)) _)), rangeAt_below R.out (by repeat (first | exact Below.refl _ _ | assumption | refine Below.drewN ?_ | refine Below.drew ?_ | refine Below.setCell ?_ (by first | exact Nat.le_refl _ | omega | (simp; done) | (simp; omega)) _ | refine Below.alloc ?_ (by first | exact Nat.le_refl _ | omega | (simp; done) | (simp; omega)) _)), rangeAt_below KX.out (by repeat (first | exact Below.refl _ _ | assumption | refine Below.drewN ?_ | refine Below.drew ?_ | refine Below.setCell ?_ (by first | exact Nat.le_refl _ | omega | (simp; done) | (simp; omega)) _ | refine Below.alloc ?_ (by first | exact Nat.le_refl _ | omega | (simp; done) | (simp; omega)) _)), fun j hj => if h : j = 1 then h ▸ HW.out else HP.out j (by omega)⟩
            case measure => simp [intOf]
      · have hk0 : r.k1 = 0 := hkind.resolve_right hk1
        have hh : hitAt r x0 x1 x2 x3 x4 1 = (bits .and .i64 x1 r.m1 == r.v1) := hitB_mask hk0
        have HH := hide hh
        have e1 : (r.k1 == 1) = false := by simp [hk0]
        have e0 : (r.k1 == 0) = true := by simp [hk0]
        clear hh hkind hk1 hk0
        by_cases h1 : bits .and .i64 x1 r.m1 = r.v1
        · have d1 : (bits .and .i64 x1 r.m1 == r.v1) = true := by simp [h1]
          have why : hitAt r x0 x1 x2 x3 x4 1 = true := by rw [HH.out]; exact d1
          have HW := hide why
          clear why
          go_wp2_with fail
          go_quiet (fail)
          go_wp2_with fail
          go_quiet (fail)
          go_wp2
          go_roundw
          case rel => exact ⟨2, by omega, rfl, by have hb := HB.out; exact (by repeat (first | exact Below.refl _ _ | assumption | refine Below.drewN ?_ | refine Below.drew ?_ | refine Below.setCell ?_ (by first | exact Nat.le_refl _ | omega | (simp; done) | (simp; omega)) _ | refine Below.alloc ?_ (by first | exact Nat.le_refl _ | omega | (simp; done) | (simp; omega)) _)), rangeAt_below R.out (by repeat (first | exact Below.refl _ _ | assumption | refine Below.drewN ?_ | refine Below.drew ?_ | refine Below.setCell ?_ (by first | exact Nat.le_refl _ | omega | (simp; done) | (simp; omega)) _ | refine Below.alloc ?_ (by first | exact Nat.le_refl _ | omega | (simp; done) | (simp; omega)) _)), rangeAt_below KX.out (by repeat (first | exact Below.refl _ _ | assumption | refine Below.drewN ?_ | refine Below.drew ?_ | refine Below.setCell ?_ (by first | exact Nat.le_refl _ | omega | (simp; done) | (simp; omega)) _ | refine Below.alloc ?_ (by first | exact Nat.le_refl _ | omega | (simp; done) | (simp; omega)) _)), fun j hj => if h : j = 1 then h ▸ HW.out else HP.out j (by omega)⟩
          case measure => simp [intOf]
        · have d1 : (bits .and .i64 x1 r.m1 == r.v1) = false := by simp [h1]
          have why : hitAt r x0 x1 x2 x3 x4 1 = false := by rw [HH.out]; exact d1
          have HW := hide why
          clear why
          go_wp2_with fail
          go_quiet (fail)
          go_wp2_with fail
          go_quiet (fail)
          go_wp2
          go_ret
          exact ⟨by rw [HRES.out, hits_false r x0 x1 x2 x3 x4 1 (by omega) HW.out]; rfl, by have hb := HB.out; exact (by repeat (first | exact Below.refl _ _ | assumption | refine Below.drewN ?_ | refine Below.drew ?_ | refine Below.setCell ?_ (by first | exact Nat.le_refl _ | omega | (simp; done) | (simp; omega)) _ | refine Below.alloc ?_ (by first | exact Nat.le_refl _ | omega | (simp; done) | (simp; omega)) _))⟩
    | 2, _ =>
      have ck : wr.cell? ⟨w.heap.size, 8, none⟩ = some (.int .i64 r.k2) := R.out 8 _ rfl
      have cv : wr.cell? ⟨w.heap.size, 9, none⟩ = some (.int .i64 r.v2) := R.out 9 _ rfl
      have cm : wr.cell? ⟨w.heap.size, 10, none⟩ = some (.int .i64 r.m2) := R.out 10 _ rfl
      have cx : wr.cell? ⟨w.heap.size + 1, 2, none⟩ = some (.int .i64 x2) := KX.out 2 _ rfl
      have hl1 : w.heap.size < wr.heap.size := block_lt_of_cell ck
      have hl2 : w.heap.size + 1 < wr.heap.size := block_lt_of_cell cx
      have hkind := kind2 hok
      by_cases hk1 : r.k2 = 1
      · have hh : hitAt r x0 x1 x2 x3 x4 2 = (decide (r.v2 ≤ x2) && decide (x2 ≤ r.m2)) := hitB_range hk1
        have HH := hide hh
        have e1 : (r.k2 == 1) = true := by simp [hk1]
        have e0 : (r.k2 == 0) = false := by simp [hk1]
        clear hh hkind hk1
        by_cases h1 : x2 < r.v2
        · have d1 : decide (x2 < r.v2) = true := by simp [h1]
          have why : hitAt r x0 x1 x2 x3 x4 2 = false := by rw [HH.out]; simp; omega
          have HW := hide why
          clear why
          go_wp2_with fail
          go_quiet (fail)
          go_wp2
          go_ret
          exact ⟨by rw [HRES.out, hits_false r x0 x1 x2 x3 x4 2 (by omega) HW.out]; rfl, by have hb := HB.out; exact (by repeat (first | exact Below.refl _ _ | assumption | refine Below.drewN ?_ | refine Below.drew ?_ | refine Below.setCell ?_ (by first | exact Nat.le_refl _ | omega | (simp; done) | (simp; omega)) _ | refine Below.alloc ?_ (by first | exact Nat.le_refl _ | omega | (simp; done) | (simp; omega)) _))⟩
        · have d1 : decide (x2 < r.v2) = false := by simp; omega
          by_cases h2 : r.m2 < x2
          · have d2 : decide (r.m2 < x2) = true := by simp [h2]
            have why : hitAt r x0 x1 x2 x3 x4 2 = false := by rw [HH.out]; simp; omega
            have HW := hide why
            clear why
            go_wp2_with fail
            go_quiet (fail)
            go_wp2
            go_ret
            exact ⟨by rw [HRES.out, hits_false r x0 x1 x2 x3 x4 2 (by omega) HW.out]; rfl, by have hb := HB.out; exact (by repeat (first | exact Below.refl _ _ | assumption | refine Below.drewN ?_ | refine Below.drew ?_ | refine Below.setCell ?_ (by first | exact Nat.le_refl _ | omega | (simp; done) | (simp; omega)) _ | refine Below.alloc ?_ (by first | exact Nat.le_refl _ | omega | (simp; done) | (simp; omega)) _))⟩
          · have d2 : decide (r.m2 < x2) = false := by simp; omega
            have why : hitAt r x0 x1 x2 x3 x4 2 = true := by rw [HH.out]; simp; omega
            have HW := hide why
            clear why
            go_wp2_with fail
            go_quiet (fail)
            go_wp2_with fail
            go_quiet (fail)
            go_wp2
            go_roundw
            case rel => exact ⟨3, by omega, rfl, by have hb := HB.out; exact (by repeat (first | exact Below.refl _ _ | assumption | refine Below.drewN ?_ | refine Below.drew ?_ | refine Below.setCell ?_ (by first | exact Nat.le_refl _ | omega | (simp; done) | (simp; omega)) _ | refine Below.alloc ?_ (by first | exact Nat.le_refl _ | omega | (simp; done) | (simp; omega)) _)), rangeAt_below R.out (by repeat (first | exact Below.refl _ _ | assumption | refine Below.drewN ?_ | refine Below.drew ?_ | refine Below.setCell ?_ (by first | exact Nat.le_refl _ | omega | (simp; done) | (simp; omega)) _ | refine Below.alloc ?_ (by first | exact Nat.le_refl _ | omega | (simp; done) | (simp; omega)) _)), rangeAt_below KX.out (by repeat (first | exact Below.refl _ _ | assumption | refine Below.drewN ?_ | refine Below.drew ?_ | refine Below.setCell ?_ (by first | exact Nat.le_refl _ | omega | (simp; done) | (simp; omega)) _ | refine Below.alloc ?_ (by first | exact Nat.le_refl _ | omega | (simp; done) | (simp; omega)) _)), fun j hj => if h : j = 2 then h ▸ HW.out else HP.out j (by omega)⟩
            case measure => simp [intOf]
      · have hk0 : r.k2 = 0 := hkind.resolve_right hk1
        have hh : hitAt r x0 x1 x2 x3 x4 2 = (bits .and .i64 x2 r.m2 == r.v2) := hitB_mask hk0
        have HH := hide hh
        have e1 : (r.k2 == 1) = false := by simp [hk0]
        have e0 : (r.k2 == 0) = true := by simp [hk0]
        clear hh hkind hk1 hk0
        by_cases h1 : bits .and .i64 x2 r.m2 = r.v2
        · have d1 : (bits .and .i64 x2 r.m2 == r.v2) = true := by simp [h1]
          have why : hitAt r x0 x1 x2 x3 x4 2 = true := by rw [HH.out]; exact d1
          have HW := hide why
          clear why
          go_wp2_with fail
          go_quiet (fail)
          go_wp2_with fail
          go_quiet (fail)
          go_wp2
          go_roundw
          case rel => exact ⟨3, by omega, rfl, by have hb := HB.out; exact (by repeat (first | exact Below.refl _ _ | assumption | refine Below.drewN ?_ | refine Below.drew ?_ | refine Below.setCell ?_ (by first | exact Nat.le_refl _ | omega | (simp; done) | (simp; omega)) _ | refine Below.alloc ?_ (by first | exact Nat.le_refl _ | omega | (simp; done) | (simp; omega)) _)), rangeAt_below R.out (by repeat (first | exact Below.refl _ _ | assumption | refine Below.drewN ?_ | refine Below.drew ?_ | refine Below.setCell ?_ (by first | exact Nat.le_refl _ | omega | (simp; done) | (simp; omega)) _ | refine Below.alloc ?_ (by first | exact Nat.le_refl _ | omega | (simp; done) | (simp; omega)) _)), rangeAt_below KX.out (by repeat (first | exact Below.refl _ _ | assumption | refine Below.drewN ?_ | refine Below.drew ?_ | refine Below.setCell ?_ (by first | exact Nat.le_refl _ | omega | (simp; done) | (simp; omega)) _ | refine Below.alloc ?_ (by first | exact Nat.le_refl _ | omega | (simp; done) | (simp; omega)) _)), fun j hj => if h : j = 2 then h ▸ HW.out else HP.out j (by omega)⟩
          case measure => simp [intOf]
        · have d1 : (bits .and .i64 x2 r.m2 == r.v2) = false := by simp [h1]
          have why : hitAt r x0 x1 x2 x3 x4 2 = false := by rw [HH.out]; exact d1
          have HW := hide why
          clear why
          go_wp2_with fail
          go_quiet (fail)
          go_wp2_with fail
          go_quiet (fail)
          go_wp2
          go_ret
          exact ⟨by rw [HRES.out, hits_false r x0 x1 x2 x3 x4 2 (by omega) HW.out]; rfl, by have hb := HB.out; exact (by repeat (first | exact Below.refl _ _ | assumption | refine Below.drewN ?_ | refine Below.drew ?_ | refine Below.setCell ?_ (by first | exact Nat.le_refl _ | omega | (simp; done) | (simp; omega)) _ | refine Below.alloc ?_ (by first | exact Nat.le_refl _ | omega | (simp; done) | (simp; omega)) _))⟩
    | 3, _ =>
      have ck : wr.cell? ⟨w.heap.size, 11, none⟩ = some (.int .i64 r.k3) := R.out 11 _ rfl
      have cv : wr.cell? ⟨w.heap.size, 12, none⟩ = some (.int .i64 r.v3) := R.out 12 _ rfl
      have cm : wr.cell? ⟨w.heap.size, 13, none⟩ = some (.int .i64 r.m3) := R.out 13 _ rfl
      have cx : wr.cell? ⟨w.heap.size + 1, 3, none⟩ = some (.int .i64 x3) := KX.out 3 _ rfl
      have hl1 : w.heap.size < wr.heap.size := block_lt_of_cell ck
      have hl2 : w.heap.size + 1 < wr.heap.size := block_lt_of_cell cx
      have hkind := kind3 hok
      by_cases hk1 : r.k3 = 1
      · have hh : hitAt r x0 x1 x2 x3 x4 3 = (decide (r.v3 ≤ x3) && decide (x3 ≤ r.m3)) := hitB_range hk1
        have HH := hide hh
        have e1 : (r.k3 == 1) = true := by simp [hk1]
        have e0 : (r.k3 == 0) = false := by simp [hk1]
        clear hh hkind hk1
        by_cases h1 : x3 < r.v3
        · have d1 : decide (x3 < r.v3) = true := by simp [h1]
          have why : hitAt r x0 x1 x2 x3 x4 3 = false := by rw [HH.out]; simp; omega
          have HW := hide why
          clear why
          go_wp2_with fail
          go_quiet (fail)
          go_wp2
          go_ret
          exact ⟨by rw [HRES.out, hits_false r x0 x1 x2 x3 x4 3 (by omega) HW.out]; rfl, by have hb := HB.out; exact (by repeat (first | exact Below.refl _ _ | assumption | refine Below.drewN ?_ | refine Below.drew ?_ | refine Below.setCell ?_ (by first | exact Nat.le_refl _ | omega | (simp; done) | (simp; omega)) _ | refine Below.alloc ?_ (by first | exact Nat.le_refl _ | omega | (simp; done) | (simp; omega)) _))⟩
        · have d1 : decide (x3 < r.v3) = false := by simp; omega
          by_cases h2 : r.m3 < x3
          · have d2 : decide (r.m3 < x3) = true := by simp [h2]
            have why : hitAt r x0 x1 x2 x3 x4 3 = false := by rw [HH.out]; simp; omega
            have HW := hide why
            clear why
            go_wp2_with fail
            go_quiet (fail)
            go_wp2
            go_ret
            exact ⟨by rw [HRES.out, hits_false r x0 x1 x2 x3 x4 3 (by omega) HW.out]; rfl, by have hb := HB.out; exact (by repeat (first | exact Below.refl _ _ | assumption | refine Below.drewN ?_ | refine Below.drew ?_ | refine Below.setCell ?_ (by first | exact Nat.le_refl _ | omega | (simp; done) | (simp; omega)) _ | refine Below.alloc ?_ (by first | exact Nat.le_refl _ | omega | (simp; done) | (simp; omega)) _))⟩
          · have d2 : decide (r.m3 < x3) = false := by simp; omega
            have why : hitAt r x0 x1 x2 x3 x4 3 = true := by rw [HH.out]; simp; omega
            have HW := hide why
            clear why
            go_wp2_with fail
            go_quiet (fail)
            go_wp2_with fail
            go_quiet (fail)
            go_wp2
            go_roundw
            case rel => exact ⟨4, by omega, rfl, by have hb := HB.out; exact (by repeat (first | exact Below.refl _ _ | assumption | refine Below.drewN ?_ | refine Below.drew ?_ | refine Below.setCell ?_ (by first | exact Nat.le_refl _ | omega | (simp; done) | (simp; omega)) _ | refine Below.alloc ?_ (by first | exact Nat.le_refl _ | omega | (simp; done) | (simp; omega)) _)), rangeAt_below R.out (by repeat (first | exact Below.refl _ _ | assumption | refine Below.drewN ?_ | refine Below.drew ?_ | refine Below.setCell ?_ (by first | exact Nat.le_refl _ | omega | (simp; done) | (simp; omega)) _ | refine Below.alloc ?_ (by first | exact Nat.le_refl _ | omega | (simp; done) | (simp; omega)) _)), rangeAt_below KX.out (by repeat (first | exact Below.refl _ _ | assumption | refine Below.drewN ?_ | refine Below.drew ?_ | refine Below.setCell ?_ (by first | exact Nat.le_refl _ | omega | (simp; done) | (simp; omega)) _ | refine Below.alloc ?_ (by first | exact Nat.le_refl _ | omega | (simp; done) | (simp; omega)) _)), fun j hj => if h : j = 3 then h ▸ HW.out else HP.out j (by omega)⟩
            case measure => simp [intOf]
      · have hk0 : r.k3 = 0 := hkind.resolve_right hk1
        have hh : hitAt r x0 x1 x2 x3 x4 3 = (bits .and .i64 x3 r.m3 == r.v3) := hitB_mask hk0
        have HH := hide hh
        have e1 : (r.k3 == 1) = false := by simp [hk0]
        have e0 : (r.k3 == 0) = true := by simp [hk0]
        clear hh hkind hk1 hk0
        by_cases h1 : bits .and .i64 x3 r.m3 = r.v3
        · have d1 : (bits .and .i64 x3 r.m3 == r.v3) = true := by simp [h1]
          have why : hitAt r x0 x1 x2 x3 x4 3 = true := by rw [HH.out]; exact d1
          have HW := hide why
          clear why
          go_wp2_with fail
          go_quiet (fail)
          go_wp2_with fail
          go_quiet (fail)
          go_wp2
          go_roundw
          case rel => exact ⟨4, by omega, rfl, by have hb := HB.out; exact (by repeat (first | exact Below.refl _ _ | assumption | refine Below.drewN ?_ | refine Below.drew ?_ | refine Below.setCell ?_ (by first | exact Nat.le_refl _ | omega | (simp; done) | (simp; omega)) _ | refine Below.alloc ?_ (by first | exact Nat.le_refl _ | omega | (simp; done) | (simp; omega)) _)), rangeAt_below R.out (by repeat (first | exact Below.refl _ _ | assumption | refine Below.drewN ?_ | refine Below.drew ?_ | refine Below.setCell ?_ (by first | exact Nat.le_refl _ | omega | (simp; done) | (simp; omega)) _ | refine Below.alloc ?_ (by first | exact Nat.le_refl _ | omega | (simp; done) | (simp; omega)) _)), rangeAt_below KX.out (by repeat (first | exact Below.refl _ _ | assumption | refine Below.drewN ?_ | refine Below.drew ?_ | refine Below.setCell ?_ (by first | exact Nat.le_refl _ | omega | (simp; done) | (simp; omega)) _ | refine Below.alloc ?_ (by first | exact Nat.le_refl _ | omega | (simp; done) | (simp; omega)) _)), fun j hj => if h : j = 3 then h ▸ HW.out else HP.out j (by omega)⟩
          case measure => simp [intOf]
        · have d1 : (bits .and .i64 x3 r.m3 == r.v3) = false := by simp [h1]
          have why : hitAt r x0 x1 x2 x3 x4 3 = false := by rw [HH.out]; exact d1
          have HW := hide why
          clear why
          go_wp2_with fail
          go_quiet (fail)
          go_wp2_with fail
          go_quiet (fail)
          go_wp2
          go_ret
          exact ⟨by rw [HRES.out, hits_false r x0 x1 x2 x3 x4 3 (by omega) HW.out]; rfl, by have hb := HB.out; exact (by repeat (first | exact Below.refl _ _ | assumption | refine Below.drewN ?_ | refine Below.drew ?_ | refine Below.setCell ?_ (by first | exact Nat.le_refl _ | omega | (simp; done) | (simp; omega)) _ | refine Below.alloc ?_ (by first | exact Nat.le_refl _ | omega | (simp; done) | (simp; omega)) _))⟩
    | 4, _ =>
      have ck : wr.cell? ⟨w.heap.size, 14, none⟩ = some (.int .i64 r.k4) := R.out 14 _ rfl
      have cv : wr.cell? ⟨w.heap.size, 15, none⟩ = some (.int .i64 r.v4) := R.out 15 _ rfl
      have cm : wr.cell? ⟨w.heap.size, 16, none⟩ = some (.int .i64 r.m4) := R.out 16 _ rfl
      have cx : wr.cell? ⟨w.heap.size + 1, 4, none⟩ = some (.int .i64 x4) := KX.out 4 _ rfl
      have hl1 : w.heap.size < wr.heap.size := block_lt_of_cell ck
      have hl2 : w.heap.size + 1 < wr.heap.size := block_lt_of_cell cx
      have hkind := kind4 hok
      by_cases hk1 : r.k4 = 1
      · have hh : hitAt r x0 x1 x2 x3 x4 4 = (decide (r.v4 ≤ x4) && decide (x4 ≤ r.m4)) := hitB_range hk1
        have HH := hide hh
        have e1 : (r.k4 == 1) = true := by simp [hk1]
        have e0 : (r.k4 == 0) = false := by simp [hk1]
        clear hh hkind hk1
        by_cases h1 : x4 < r.v4
        · have d1 : decide (x4 < r.v4) = true := by simp [h1]
          have why : hitAt r x0 x1 x2 x3 x4 4 = false := by rw [HH.out]; simp; omega
          have HW := hide why
          clear why
          go_wp2_with fail
          go_quiet (fail)
          go_wp2
          go_ret
          exact ⟨by rw [HRES.out, hits_false r x0 x1 x2 x3 x4 4 (by omega) HW.out]; rfl, by have hb := HB.out; exact (by repeat (first | exact Below.refl _ _ | assumption | refine Below.drewN ?_ | refine Below.drew ?_ | refine Below.setCell ?_ (by first | exact Nat.le_refl _ | omega | (simp; done) | (simp; omega)) _ | refine Below.alloc ?_ (by first | exact Nat.le_refl _ | omega | (simp; done) | (simp; omega)) _))⟩
        · have d1 : decide (x4 < r.v4) = false := by simp; omega
          by_cases h2 : r.m4 < x4
          · have d2 : decide (r.m4 < x4) = true := by simp [h2]
            have why : hitAt r x0 x1 x2 x3 x4 4 = false := by rw [HH.out]; simp; omega
            have HW := hide why
            clear why
            go_wp2_with fail
            go_quiet (fail)
            go_wp2
            go_ret
            exact ⟨by rw [HRES.out, hits_false r x0 x1 x2 x3 x4 4 (by omega) HW.out]; rfl, by have hb := HB.out; exact (by repeat (first | exact Below.refl _ _ | assumption | refine Below.drewN ?_ | refine Below.drew ?_ | refine Below.setCell ?_ (by first | exact Nat.le_refl _ | omega | (simp; done) | (simp; omega)) _ | refine Below.alloc ?_ (by first | exact Nat.le_refl _ | omega | (simp; done) | (simp; omega)) _))⟩
          · have d2 : decide (r.m4 < x4) = false := by simp; omega
            have why : hitAt r x0 x1 x2 x3 x4 4 = true := by rw [HH.out]; simp; omega
            have HW := hide why
            clear why
            go_wp2_with fail
            go_quiet (fail)
            go_wp2_with fail
            go_quiet (fail)
            go_wp2
            go_roundw
            case rel => exact ⟨5, by omega, rfl, by have hb := HB.out; exact (by repeat (first | exact Below.refl _ _ | assumption | refine Below.drewN ?_ | refine Below.drew ?_ | refine Below.setCell ?_ (by first | exact Nat.le_refl _ | omega | (simp; done) | (simp; omega)) _ | refine Below.alloc ?_ (by first | exact Nat.le_refl _ | omega | (simp; done) | (simp; omega)) _)), rangeAt_below R.out (by repeat (first | exact Below.refl _ _ | assumption | refine Below.drewN ?_ | refine Below.drew ?_ | refine Below.setCell ?_ (by first | exact Nat.le_refl _ | omega | (simp; done) | (simp; omega)) _ | refine Below.alloc ?_ (by first | exact Nat.le_refl _ | omega | (simp; done) | (simp; omega)) _)), rangeAt_below KX.out (by repeat (first | exact Below.refl _ _ | assumption | refine Below.drewN ?_ | refine Below.drew ?_ | refine Below.setCell ?_ (by first | exact Nat.le_refl _ | omega | (simp; done) | (simp; omega)) _ | refine Below.alloc ?_ (by first | exact Nat.le_refl _ | omega | (simp; done) | (simp; omega)) _)), fun j hj => if h : j = 4 then h ▸ HW.out else HP.out j (by omega)⟩
            case measure => simp [intOf]
      · have hk0 : r.k4 = 0 := hkind.resolve_right hk1
        have hh : hitAt r x0 x1 x2 x3 x4 4 = (bits .and .i64 x4 r.m4 == r.v4) := hitB_mask hk0
        have HH := hide hh
        have e1 : (r.k4 == 1) = false := by simp [hk0]
        have e0 : (r.k4 == 0) = true := by simp [hk0]
        clear hh hkind hk1 hk0
        by_cases h1 : bits .and .i64 x4 r.m4 = r.v4
        · have d1 : (bits .and .i64 x4 r.m4 == r.v4) = true := by simp [h1]
          have why : hitAt r x0 x1 x2 x3 x4 4 = true := by rw [HH.out]; exact d1
          have HW := hide why
          clear why
          go_wp2_with fail
          go_quiet (fail)
          go_wp2_with fail
          go_quiet (fail)
          go_wp2
          go_roundw
          case rel => exact ⟨5, by omega, rfl, by have hb := HB.out; exact (by repeat (first | exact Below.refl _ _ | assumption | refine Below.drewN ?_ | refine Below.drew ?_ | refine Below.setCell ?_ (by first | exact Nat.le_refl _ | omega | (simp; done) | (simp; omega)) _ | refine Below.alloc ?_ (by first | exact Nat.le_refl _ | omega | (simp; done) | (simp; omega)) _)), rangeAt_below R.out (by repeat (first | exact Below.refl _ _ | assumption | refine Below.drewN ?_ | refine Below.drew ?_ | refine Below.setCell ?_ (by first | exact Nat.le_refl _ | omega | (simp; done) | (simp; omega)) _ | refine Below.alloc ?_ (by first | exact Nat.le_refl _ | omega | (simp; done) | (simp; omega)) _)), rangeAt_below KX.out (by repeat (first | exact Below.refl _ _ | assumption | refine Below.drewN ?_ | refine Below.drew ?_ | refine Below.setCell ?_ (by first | exact Nat.le_refl _ | omega | (simp; done) | (simp; omega)) _ | refine Below.alloc ?_ (by first | exact Nat.le_refl _ | omega | (simp; done) | (simp; omega)) _)), fun j hj => if h : j = 4 then h ▸ HW.out else HP.out j (by omega)⟩
          case measure => simp [intOf]
        · have d1 : (bits .and .i64 x4 r.m4 == r.v4) = false := by simp [h1]
          have why : hitAt r x0 x1 x2 x3 x4 4 = false := by rw [HH.out]; exact d1
          have HW := hide why
          clear why
          go_wp2_with fail
          go_quiet (fail)
          go_wp2_with fail
          go_quiet (fail)
          go_wp2
          go_ret
          exact ⟨by rw [HRES.out, hits_false r x0 x1 x2 x3 x4 4 (by omega) HW.out]; rfl, by have hb := HB.out; exact (by repeat (first | exact Below.refl _ _ | assumption | refine Below.drewN ?_ | refine Below.drew ?_ | refine Below.setCell ?_ (by first | exact Nat.le_refl _ | omega | (simp; done) | (simp; omega)) _ | refine Below.alloc ?_ (by first | exact Nat.le_refl _ | omega | (simp; done) | (simp; omega)) _))⟩
    | 5, _ =>
      go_wp2
      go_ret
      exact ⟨by rw [HRES.out, (hits_all r x0 x1 x2 x3 x4).2 HP.out]; rfl, HB.out⟩

end Go.Proofs.YtaejpejfmpbinaaDoor

namespace Go.Proofs.YtaejpejfmpbinaaDoor
open Go.RowKit

theorem compl_bit {b : Nat} (hb : b < 18446744073709551616) (i : Nat) : (18446744073709551615 - b).testBit i = (decide (i < 64) && !b.testBit i) := by
  have h := Nat.testBit_two_pow_sub_succ (x := b) (n := 64) (by simpa using hb) i
  rwa [show 2 ^ 64 - (b + 1) = 18446744073709551615 - b by omega] at h
theorem and_compl (a : Nat) {b : Nat} (hb : b < 18446744073709551616) : (a &&& b) &&& (18446744073709551615 - b) = 0 := by
  apply Nat.eq_of_testBit_eq
  intro i
  rw [Nat.testBit_and, Nat.testBit_and, compl_bit hb, Nat.zero_testBit]
  cases b.testBit i <;> simp

/-- One field of a rule by raw numbers. -/
def matV (kd a b mx : Int) : Int × Int × Int :=
  if pickV kd 6 = 1 then (0, pickV a 16 * (mx / 15), mx)
  else if pickV kd 6 = 2 then (1, min (pickV a 16 * (mx / 15)) (pickV b 16 * (mx / 15)), max (pickV a 16 * (mx / 15)) (pickV b 16 * (mx / 15)))
  else if pickV kd 6 = 3 then (0, bits .and .i64 (pickV a 16 * (mx / 15)) (pickV b 16 * (mx / 15)), pickV b 16 * (mx / 15))
  else (0, 0, 0)

theorem matB_mask (n : Nat) (hn : n ≤ 32) (v m mx : Nat) (hmx : mx = 2 ^ n - 1) (hv : v ≤ mx) (hm : m ≤ mx) (hz : v &&& (18446744073709551615 - m) = 0) : matB 0 v m 0 mx = true := by
  have hp : 2 ^ n ≤ 2 ^ 32 := Nat.pow_le_pow_right (by omega) hn
  simp only [matB, hasB, Bool.and_eq_true, decide_eq_true_eq, if_pos]
  refine ⟨by omega, by omega, ?_⟩
  rw [i64_andNot_nat v m (by omega) (by omega), hz]
  rfl

theorem matV_ok (n : Nat) (hn : n ≤ 32) (kd a b : Int) (mx : Nat) (hmx : mx = 2 ^ n - 1) : matB (matV kd a b mx).1 (matV kd a b mx).2.1 (matV kd a b mx).2.2 0 mx = true := by
  have hp : 2 ^ n ≤ 2 ^ 32 := Nat.pow_le_pow_right (by omega) hn
  have hA := pickV_range a (n := 16) (by omega)
  have hB := pickV_range b (n := 16) (by omega)
  have hq : (mx : Int) / 15 = ((mx / 15 : Nat) : Int) := by omega
  obtain ⟨p, hp1⟩ : ∃ p : Nat, pickV a 16 = p := ⟨(pickV a 16).toNat, by omega⟩
  obtain ⟨q, hq1⟩ : ∃ q : Nat, pickV b 16 = q := ⟨(pickV b 16).toNat, by omega⟩
  have eA : pickV a 16 * ((mx : Int) / 15) = ((p * (mx / 15) : Nat) : Int) := by rw [hp1, hq]; push_cast; rfl
  have eB : pickV b 16 * ((mx : Int) / 15) = ((q * (mx / 15) : Nat) : Int) := by rw [hq1, hq]; push_cast; rfl
  have lA : p * (mx / 15) ≤ mx := Nat.le_trans (Nat.mul_le_mul_right _ (by omega : p ≤ 15)) (Nat.mul_div_le mx 15)
  have lB : q * (mx / 15) ≤ mx := Nat.le_trans (Nat.mul_le_mul_right _ (by omega : q ≤ 15)) (Nat.mul_div_le mx 15)
  unfold matV
  rw [eA, eB]
  generalize p * (mx / 15) = A at *
  generalize q * (mx / 15) = B at *
  split
  · refine matB_mask n hn A mx mx hmx lA (Nat.le_refl _) ?_
    have e : A &&& mx = A := by rw [hmx, Nat.and_two_pow_sub_one_eq_mod]; exact Nat.mod_eq_of_lt (by have := Nat.two_pow_pos n; omega)
    have := and_compl A (b := mx) (by omega)
    rwa [e] at this
  · split
    · simp only [matB, hasB, Bool.and_eq_true, decide_eq_true_eq]
      refine ⟨by omega, by omega, ?_⟩
      simp
      omega
    · split
      · rw [i64_and_nat A B (by omega) (by omega)]
        exact matB_mask n hn (A &&& B) B mx hmx (Nat.le_trans Nat.and_le_left lA) lB (and_compl A (by omega))
      · exact matB_mask n hn 0 0 mx hmx (by omega) (by omega) (by simp)

/-- The rule that is made of raw numbers. -/
def ruleV (pr : Int) (kd a b : Nat → Int) (id : Int) : Rl := ⟨id, pickV pr 4, (matV (kd 0) (a 0) (b 0) 4294967295).1, (matV (kd 0) (a 0) (b 0) 4294967295).2.1, (matV (kd 0) (a 0) (b 0) 4294967295).2.2, (matV (kd 1) (a 1) (b 1) 4294967295).1, (matV (kd 1) (a 1) (b 1) 4294967295).2.1, (matV (kd 1) (a 1) (b 1) 4294967295).2.2, (matV (kd 2) (a 2) (b 2) 255).1, (matV (kd 2) (a 2) (b 2) 255).2.1, (matV (kd 2) (a 2) (b 2) 255).2.2, (matV (kd 3) (a 3) (b 3) 65535).1, (matV (kd 3) (a 3) (b 3) 65535).2.1, (matV (kd 3) (a 3) (b 3) 65535).2.2, (matV (kd 4) (a 4) (b 4) 65535).1, (matV (kd 4) (a 4) (b 4) 65535).2.1, (matV (kd 4) (a 4) (b 4) 65535).2.2, 0, 0⟩
theorem ruleB_of {id pr k0 v0 m0 k1 v1 m1 k2 v2 m2 k3 v3 m3 k4 v4 m4 ac po : Int} (h1 : 0 ≤ id) (h2 : 0 ≤ pr) (h3 : pr ≤ 1000) (a0 : matB k0 v0 m0 0 4294967295 = true) (a1 : matB k1 v1 m1 0 4294967295 = true) (a2 : matB k2 v2 m2 0 255 = true) (a3 : matB k3 v3 m3 0 65535 = true) (a4 : matB k4 v4 m4 0 65535 = true) (ha : actB ac po = true) : ruleB id pr k0 v0 m0 k1 v1 m1 k2 v2 m2 k3 v3 m3 k4 v4 m4 ac po = true := by
  have e1 : decide (id < 0) = false := by rw [decide_eq_false_iff_not]; omega
  have e2 : decide (pr < 0) = false := by rw [decide_eq_false_iff_not]; omega
  have e3 : decide (1000 < pr) = false := by rw [decide_eq_false_iff_not]; omega
  unfold ruleB
  rw [e1, e2, e3, a0, a1, a2, a3, a4, ha]
  rfl
theorem ruleV_ok (pr : Int) (kd a b : Nat → Int) (id : Int) (hid : 0 ≤ id) : (ruleV pr kd a b id).ok = true := by
  have hP := pickV_range pr (n := 4) (by omega)
  exact ruleB_of hid hP.1 (Int.le_trans (Int.le_of_lt hP.2) (by omega)) (matV_ok 32 (by omega) _ _ _ 4294967295 rfl) (matV_ok 32 (by omega) _ _ _ 4294967295 rfl) (matV_ok 8 (by omega) _ _ _ 255 rfl) (matV_ok 16 (by omega) _ _ _ 65535 rfl) (matV_ok 16 (by omega) _ _ _ 65535 rfl) rfl

end Go.Proofs.YtaejpejfmpbinaaDoor

namespace Go.Proofs.YtaejpejfmpbinaaDoor
open Go.RowKit

/-- The cells of a list of rules. -/
def rowL (rs : List Rl) : List Value := rs.flatMap fun r => r.cells.toList
theorem cells_length (r : Rl) : r.cells.toList.length = 19 := rfl
theorem rowL_length (rs : List Rl) : (rowL rs).length = rs.length * 19 := by
  induction rs with
  | nil => rfl
  | cons e t ih =>
    have : rowL (e :: t) = e.cells.toList ++ rowL t := rfl
    rw [this, List.length_append, ih, cells_length, List.length_cons]; omega
theorem rowL_append (a b : List Rl) : rowL (a ++ b) = rowL a ++ rowL b := List.flatMap_append
theorem rowL_one (rs : List Rl) : ∀ u ∈ rowL rs, u.oneCell' = true := by
  intro u hu
  obtain ⟨r, _, h⟩ := List.mem_flatMap.1 hu
  simp only [Rl.cells, List.mem_cons, List.not_mem_nil, or_false] at h
  rcases h with h | h | h | h | h | h | h | h | h | h | h | h | h | h | h | h | h | h | h <;> (rw [h]; rfl)
theorem rowL_get : ∀ (rs : List Rl) (k : Nat) (hk : k < rs.length) (j : Nat), j < 19 → (rowL rs)[k * 19 + j]? = rs[k].cells[j]?
  | [], k, hk, _, _ => absurd hk (by simp)
  | e :: t, k, hk, j, hj => by
    have h : rowL (e :: t) = e.cells.toList ++ rowL t := rfl
    rw [h]
    match k, hk with
    | 0, _ => rw [List.getElem?_append_left (by rw [cells_length]; omega)]; simp
    | k + 1, hk =>
      rw [List.getElem?_append_right (by rw [cells_length]; omega), cells_length, show (k + 1) * 19 + j - 19 = k * 19 + j by omega, rowL_get t k (by simpa using hk) j hj]
      rfl
theorem rowL_take (rs : List Rl) (k : Nat) (hk : k ≤ rs.length) : (rowL rs).take (k * 19) = rowL (rs.take k) := by
  have h := rowL_append (rs.take k) (rs.drop k)
  rw [List.take_append_drop] at h
  have hl : (rowL (rs.take k)).length = k * 19 := by rw [rowL_length, List.length_take, Nat.min_eq_left hk]
  rw [h, ← hl, List.take_left]
theorem rowL_drop (rs : List Rl) (k : Nat) (hk : k ≤ rs.length) : (rowL rs).drop (k * 19) = rowL (rs.drop k) := by
  have h := rowL_append (rs.take k) (rs.drop k)
  rw [List.take_append_drop] at h
  have hl : (rowL (rs.take k)).length = k * 19 := by rw [rowL_length, List.length_take, Nat.min_eq_left hk]
  rw [h, ← hl, List.drop_left]

/-- A list of rules that a call has made itself. -/
def RulesOwn (B : Nat) (w : World) (v : Value) (rs : List Rl) : Prop := w.ownsRow B 31 19 v rs.length (rowL rs) ∧ (rs = [] → v = .slice none 0 0) ∧ 0 < B

section
variable {B : Nat} {w w' : World} {v : Value} {rs : List Rl}
theorem RulesOwn.nil (w : World) (hB : 0 < B) : RulesOwn B w (.slice none 0 0) [] := ⟨World.ownsRow_nil w B 31 19, fun _ => rfl, hB⟩
theorem RulesOwn.row (h : RulesOwn B w v rs) : ∃ a cap g, v = .slice a rs.length cap ∧ ∀ k, (hk : k < rs.length) → a = some ⟨g, 0, none⟩ ∧ w.rangeAt g (k * 19) rs[k].cells.toList := by
  rcases h.1.2 with ⟨hv, h0⟩ | ⟨g, cap, cur, hv, _⟩
  · exact ⟨none, 0, 0, by rw [hv, h0], fun j hj => by omega⟩
  · refine ⟨_, cap, g, hv, fun k hk => ⟨rfl, fun j u hu => ?_⟩⟩
    have ho := h.1
    rw [hv] at ho
    have hj : j < 19 := by have := (List.getElem?_eq_some_iff.1 hu).1; rwa [cells_length] at this
    rw [ho.cellAt _ (by omega), rowL_get rs k hk j hj]
    simpa using hu
theorem RulesOwn.shape (h : RulesOwn B w v rs) {g : Nat} (hg : v.ownBlock = some g) : g ≠ 0 ∧ ∃ cs t fr a b c d, w.heap[g]? = some (.cells cs t fr) ∧ cs.size ≠ 29 ∧ w.cell? ⟨g, 0, none⟩ = some (.int .i64 a) ∧ w.cell? ⟨g, 1, none⟩ = some (.int .i64 b) ∧ w.cell? ⟨g, 2, none⟩ = some (.int .i64 c) ∧ w.cell? ⟨g, 3, none⟩ = some (.int .i64 d) := by
  have hne : rs ≠ [] := by
    intro e
    rw [h.2.1 e] at hg
    cases hg
  have h0 : 0 < rs.length := List.length_pos_iff.2 hne
  obtain ⟨a, cap0, g0, hv0, hr⟩ := h.row
  obtain ⟨ha, hr0⟩ := hr 0 h0
  rcases h.1.2 with ⟨hv, _⟩ | ⟨g', cap, cur, hv, hb, hgg, _, _, hsz, _⟩
  · rw [hv] at hg; cases hg
  · rw [hv] at hg hv0
    cases hg
    cases hv0
    cases ha
    exact ⟨by have := h.2.2; simp; omega, cur, _, _, _, _, _, _, hgg, by omega, hr0 0 _ rfl, hr0 1 _ rfl, hr0 2 _ rfl, hr0 3 _ rfl⟩
theorem RulesOwn.foreign (h : RulesOwn B w v rs) {g : Nat} (hg : v.ownBlock = some g) : Foreign w g := .inr (.inr (.inr (.inr (.inr (h.shape hg)))))
theorem RulesOwn.apart (h : RulesOwn B w v rs) {t : Nat} {F : Nat → Prop} {L : List Ent} (hT : TabIs w t F L) {g : Nat} (hg : v.ownBlock = some g) : ¬ F g := by
  obtain ⟨b1, b2, sv1, sv2, LI, T, _, _, rfl⟩ := hT
  obtain ⟨_, _, _, _, a, b, c, d, _, _, c0, c1, c2, c3⟩ := h.shape hg
  rintro (h | (h | h) | (h | h))
  · rw [h, T.c0] at c0; cases c0
  · rw [h, T.mI.1] at c0; cases c0
  · obtain ⟨n, p, d0, d1⟩ := T.hI _ h
    rw [c1] at d1; cases d1
  · rw [h, T.mR.1] at c0; cases c0
  · obtain ⟨n, m, p, d0, d1, d2⟩ := T.hR _ h
    rw [c2] at d2; cases d2
theorem RulesOwn.same (h : RulesOwn B w v rs) (hs : ∀ g, v.ownBlock = some g → w'.heap[g]? = w.heap[g]?) : RulesOwn B w' v rs := ⟨ownsRow_same h.1 hs, h.2⟩
theorem RulesOwn.lt (h : RulesOwn B w v rs) {g : Nat} (hg : v.ownBlock = some g) : g < w.heap.size := (h.1.lt g hg).2
theorem RulesOwn.chg (h : RulesOwn B w v rs) {t : Nat} {F : Nat → Prop} {L : List Ent} (hT : TabIs w t F L) (hc : Chg F w w') : RulesOwn B w' v rs :=
  h.same fun _ hg => hc.block _ (h.lt hg) (h.apart hT hg)
theorem RulesOwn.below (h : RulesOwn B w v rs) (hb : Below w.heap.size w w') : RulesOwn B w' v rs := h.same fun _ hg => hb.block _ (h.lt hg)
/-- A table is as it was, when a list of rules has grown. -/
theorem TabIs.grown {t : Nat} {F : Nat → Prop} {L : List Ent} (hT : TabIs w t F L) (h : RulesOwn B w v rs) (hg : w.grownBy w' v.ownBlock) : TabIs w' t F L := by
  have hap := fun x (hx : v.ownBlock = some x) => h.apart hT hx
  obtain ⟨b1, b2, sv1, sv2, LI, T, hm, hl, rfl⟩ := hT
  exact ⟨b1, b2, sv1, sv2, LI, T.kept (X := fun x => v.ownBlock = some x) (Chg.grown hg fun _ hk => hk) (fun x hx => h.foreign hx) (fun x hx hv => hap x hv hx), hm, hl, rfl⟩
end

theorem infoRule : (Tryd.prog.info? 31).map (fun i => (i.zero, i.size, i.bytes)) = some (some (.agg #[.int .i64 0, .int .i64 0, .int .i64 0, .int .i64 0, .int .i64 0, .int .i64 0, .int .i64 0, .int .i64 0, .int .i64 0, .int .i64 0, .int .i64 0, .int .i64 0, .int .i64 0, .int .i64 0, .int .i64 0, .int .i64 0, .int .i64 0, .int .i64 0, .int .i64 0]), 19, 152) := by kernel_rfl
theorem underRules : Tryd.prog.underlying 26 = some (.slice 31) := by kernel_rfl
/-- Rules are appended to a list of the call's own. -/
theorem wpList_rules {ops : Array Oper} {rest : List Oper} {o : Oper} {a : Act} {Q : Exit → Act → World → Prop} {B : Nat} {w : World} {v : Value} {rs : List Rl} (h : RulesOwn B w v rs) (hgd : o.guard = none) (s x : Operand)
    (ho : o.op = .call { callee := .builtin .append, args := #[s, x], argTypes := #[26, 26] }) (hs : a.eval s = v) (ad : Addr) (m c : Nat) (hx : a.eval x = .slice (some ad) m c) (qs : List Rl) (hq : qs.length = m)
    (hc : ∀ j u, (rowL qs)[j]? = some u → w.cell? (ad.add j) = some u) (hlen : rs.length + m ≤ 1000) (hB : B ≤ w.heap.size)
    (hK : ∀ v' w', RulesOwn B w' v' (rs ++ qs) → w.grownBy w' v.ownBlock → wpList Tryd.prog ops Q rest (a.put o.dst v') w') : wpList Tryd.prog ops Q (o :: rest) a w := by
  obtain ⟨i0, hi, hz0, hz1, hz2⟩ := info_parts infoRule
  refine wpList_append_own w hgd s x 26 ho B 31 i0 _ 19 152 underRules hi hz0 hz1 hz2 rfl (by decide) v rs.length (rowL rs) hs h.1 ad m c (rowL qs) hx (by rw [rowL_length, hq]) hc (rowL_one qs) (by unfold maxLen; omega) (by omega) hB ?_
  intro v' w' hown hgr hnil
  refine hK v' w' ⟨?_, fun e => ?_, h.2.2⟩ hgr
  · rw [rowL_append, List.length_append, hq]; exact hown
  · obtain ⟨e1, e2⟩ := List.append_eq_nil_iff.1 e
    subst e2
    exact hnil.2 ⟨h.2.1 e1, by simpa using hq.symm⟩
/-- The cells of the first rules, and of the last ones. -/
theorem RulesOwn.cells_take {B : Nat} {w : World} {g n cap : Nat} {rs : List Rl} (h : RulesOwn B w (.slice (some ⟨g, 0, none⟩) n cap) rs) (k : Nat) (hk : k ≤ rs.length) : ∀ j u, (rowL (rs.take k))[j]? = some u → w.cell? ((⟨g, 0, none⟩ : Addr).add j) = some u := fun j u hu => by
  refine h.1.cells (g := g) rfl j u ?_
  rw [← rowL_take rs k hk, List.getElem?_take] at hu
  split at hu
  · exact hu
  · cases hu
theorem RulesOwn.cells_drop {B : Nat} {w : World} {g n cap : Nat} {rs : List Rl} (h : RulesOwn B w (.slice (some ⟨g, 0, none⟩) n cap) rs) (k : Nat) (hk : k ≤ rs.length) : ∀ j u, (rowL (rs.drop k))[j]? = some u → w.cell? ((⟨g, k * 19, none⟩ : Addr).add j) = some u := fun j u hu => by
  rw [← rowL_drop rs k hk, List.getElem?_drop] at hu
  have := h.1.cells (g := g) rfl (k * 19 + j) u hu
  rw [Addr.add_mid] at this ⊢
  simpa using this

/-- What the list says: of the first n rules of rs number b matches, and none of them that matches stands ahead of it; or none matches. -/
def BestIn (rs : List Rl) (n : Nat) (x0 x1 x2 x3 x4 : Int) (b : Int) : Prop :=
  (b = -1 ∧ ∀ j (hj : j < rs.length), j < n → rs[j].hits x0 x1 x2 x3 x4 = false) ∨
  ∃ (k : Nat) (hk : k < rs.length), b = k ∧ k < n ∧ rs[k].hits x0 x1 x2 x3 x4 = true ∧ ∀ j (hj : j < rs.length), j < n → rs[j].hits x0 x1 x2 x3 x4 = true → rs[j].before rs[k] = false

section
variable {rs : List Rl} {n : Nat} {x0 x1 x2 x3 x4 : Int} {b : Int}
theorem BestIn.start (rs : List Rl) (x0 x1 x2 x3 x4 : Int) : BestIn rs 0 x0 x1 x2 x3 x4 (-1) := .inl ⟨rfl, fun _ _ h => absurd h (by omega)⟩
theorem BestIn.skip (h : BestIn rs n x0 x1 x2 x3 x4 b) (hn : n < rs.length) (hh : rs[n].hits x0 x1 x2 x3 x4 = false) : BestIn rs (n + 1) x0 x1 x2 x3 x4 b := by
  rcases h with ⟨h1, h2⟩ | ⟨k, hk, h1, h2, h3, h4⟩
  · refine .inl ⟨h1, fun j hj hjn => ?_⟩
    by_cases e : j = n
    · subst e; exact hh
    · exact h2 j hj (by omega)
  · refine .inr ⟨k, hk, h1, by omega, h3, fun j hj hjn hjh => ?_⟩
    by_cases e : j = n
    · subst e; rw [hh] at hjh; cases hjh
    · exact h4 j hj (by omega) hjh
theorem BestIn.first (h : BestIn rs n x0 x1 x2 x3 x4 (-1)) (hn : n < rs.length) (hh : rs[n].hits x0 x1 x2 x3 x4 = true) : BestIn rs (n + 1) x0 x1 x2 x3 x4 n := by
  rcases h with ⟨h1, h2⟩ | ⟨k, hk, h1, _⟩
  · refine .inr ⟨n, hn, rfl, by omega, hh, fun j hj hjn hjh => ?_⟩
    by_cases e : j = n
    · subst e; exact Rl.before_irrefl _
    · rw [h2 j hj (by omega)] at hjh; cases hjh
  · omega
theorem BestIn.better {k : Nat} (h : BestIn rs n x0 x1 x2 x3 x4 k) (hk : k < rs.length) (hn : n < rs.length) (hh : rs[n].hits x0 x1 x2 x3 x4 = true) (hb : rs[n].before rs[k] = true) : BestIn rs (n + 1) x0 x1 x2 x3 x4 n := by
  rcases h with ⟨h1, h2⟩ | ⟨k', hk', h1, h2, h3, h4⟩
  · omega
  · have e : k' = k := by omega
    subst e
    refine .inr ⟨n, hn, rfl, by omega, hh, fun j hj hjn hjh => ?_⟩
    by_cases e : j = n
    · subst e; exact Rl.before_irrefl _
    · have := h4 j hj (by omega) hjh
      cases hc : rs[j].before rs[n] with
      | false => rfl
      | true =>
        rw [Rl.before_trans hc hb] at this; cases this
theorem BestIn.stays {k : Nat} (h : BestIn rs n x0 x1 x2 x3 x4 k) (hk : k < rs.length) (hn : n < rs.length) (hb : rs[n].before rs[k] = false) : BestIn rs (n + 1) x0 x1 x2 x3 x4 k := by
  rcases h with ⟨h1, h2⟩ | ⟨k', hk', h1, h2, h3, h4⟩
  · omega
  · have e : k' = k := by omega
    subst e
    refine .inr ⟨k', hk', rfl, by omega, h3, fun j hj hjn hjh => ?_⟩
    by_cases e : j = n
    · subst e; exact hb
    · exact h4 j hj (by omega) hjh
/-- What the list says is what Find answers. -/
theorem BestIn.none_find {L : List Ent} (h : BestIn rs rs.length x0 x1 x2 x3 x4 (-1)) (hm : ∀ r, r ∈ rs ↔ ∃ c, (c, r) ∈ L) (hk : keyB x0 x1 x2 x3 x4 = true) {a e : Int} (hf : FindIs L x0 x1 x2 x3 x4 a e) : a = 0 ∧ e = 7 := by
  unfold FindIs at hf
  rw [if_pos hk] at hf
  obtain ⟨res, hfm, ha, he⟩ := hf
  rcases h with ⟨_, h2⟩ | ⟨k, hk, h1, _⟩
  · cases res with
    | none => exact ⟨ha, he⟩
    | some r =>
      obtain ⟨hr, hh, _⟩ := hfm
      obtain ⟨j, hj, e⟩ := List.getElem_of_mem ((hm r.2).2 ⟨r.1, hr⟩)
      have := h2 j hj hj
      rw [e, hh] at this; cases this
  · omega
theorem BestIn.some_find {L : List Ent} {k : Nat} (h : BestIn rs rs.length x0 x1 x2 x3 x4 k) (hkl : k < rs.length) (hm : ∀ r, r ∈ rs ↔ ∃ c, (c, r) ∈ L) (hk : keyB x0 x1 x2 x3 x4 = true) {a e : Int} (hf : FindIs L x0 x1 x2 x3 x4 a e) : a = rs[k].id ∧ e = 0 := by
  unfold FindIs at hf
  rw [if_pos hk] at hf
  obtain ⟨res, hfm, ha, he⟩ := hf
  rcases h with ⟨h1, _⟩ | ⟨k', hk', h1, h2, h3, h4⟩
  · omega
  · have ek : k' = k := by omega
    subst ek
    obtain ⟨c, hc⟩ := (hm rs[k']).1 (List.getElem_mem hk')
    cases res with
    | none =>
      have := hfm _ hc
      rw [h3] at this; cases this
    | some r =>
      obtain ⟨hr, hh, hno⟩ := hfm
      have b1 := hno _ hc h3
      obtain ⟨j, hj, ej⟩ := List.getElem_of_mem ((hm r.2).2 ⟨r.1, hr⟩)
      have b2 := h4 j hj hj (by rw [ej]; exact hh)
      rw [ej] at b2
      refine ⟨?_, he⟩
      rw [ha]
      show r.2.id = _
      rw [← Bool.not_eq_true, Rl.before_iff] at b1 b2
      simp only at b1
      omega
end

end Go.Proofs.YtaejpejfmpbinaaDoor
