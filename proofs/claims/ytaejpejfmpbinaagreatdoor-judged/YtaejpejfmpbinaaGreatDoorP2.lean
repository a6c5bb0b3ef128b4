import Derived.Test.YtaejpejfmpbinaaGreatDoorP1
import Derived.Lib.QuietBelow
namespace Go.Proofs.YtaejpejfmpbinaaGreatDoor
open Go.RowKit
attribute [local go_sem] ixKey0 ixKey1 ixKey2 ixKey3 ixKey4

/-- The table of the fields, as it was laid: variable 0. -/
def Laid (w : World) : Prop := w.cell? ⟨0, 0, none⟩ = some (.int .i64 32) ∧ w.cell? ⟨0, 1, none⟩ = some (.int .i64 0) ∧ w.cell? ⟨0, 2, none⟩ = some (.int .i64 4294967295) ∧ w.cell? ⟨0, 3, none⟩ = some (.int .i64 32) ∧ w.cell? ⟨0, 4, none⟩ = some (.int .i64 0) ∧ w.cell? ⟨0, 5, none⟩ = some (.int .i64 4294967295) ∧ w.cell? ⟨0, 6, none⟩ = some (.int .i64 8) ∧ w.cell? ⟨0, 7, none⟩ = some (.int .i64 0) ∧ w.cell? ⟨0, 8, none⟩ = some (.int .i64 255) ∧ w.cell? ⟨0, 9, none⟩ = some (.int .i64 16) ∧ w.cell? ⟨0, 10, none⟩ = some (.int .i64 0) ∧ w.cell? ⟨0, 11, none⟩ = some (.int .i64 65535) ∧ w.cell? ⟨0, 12, none⟩ = some (.int .i64 16) ∧ w.cell? ⟨0, 13, none⟩ = some (.int .i64 0) ∧ w.cell? ⟨0, 14, none⟩ = some (.int .i64 65535)
theorem Laid.pos {w : World} (h : Laid w) : 0 < w.heap.size := block_lt_of_cell h.1
theorem Laid.below {B : Nat} {w w' : World} (h : Laid w) (hb : Below B w w') (h0 : 0 < B) : Laid w' := by
  have e : ∀ i, w'.cell? ⟨0, i, none⟩ = w.cell? ⟨0, i, none⟩ := fun i => hb.cell (p := ⟨0, i, none⟩) h0
  simpa only [Laid, e] using h

def keyB (k0 k1 k2 k3 k4 : Int) : Bool := hasB 0 4294967295 k0 && (hasB 0 4294967295 k1 && (hasB 0 255 k2 && (hasB 0 65535 k3 && hasB 0 65535 k4)))

set_option maxRecDepth 100000 in
set_option maxHeartbeats 400000 in
theorem isKey_any (k0 k1 k2 k3 k4 : Int) (w : World) (hl : Laid w) :
    Calls Tryz.prog 100 #[.agg #[.int .i64 k0, .int .i64 k1, .int .i64 k2, .int .i64 k3, .int .i64 k4]] w fun e w' => e = .returned (.bool (keyB k0 k1 k2 k3 k4)) ∧ Below w.heap.size w w' := by
  go_enter Tryz.func100, Tryz.ntmps100
  go_wp2
  go_loopw [6] (fun i wr => ∃ k : Nat, k ≤ 5 ∧ i = .int .i64 k ∧ Below w.heap.size w wr ∧ (0 < k → hasB 0 4294967295 k0 = true) ∧ (1 < k → hasB 0 4294967295 k1 = true) ∧ (2 < k → hasB 0 255 k2 = true) ∧ (3 < k → hasB 0 65535 k3 = true) ∧ (4 < k → hasB 0 65535 k4 = true)) (fun i _ => 5 - (intOf i).toNat)
  case atStart => exact ⟨0, by omega, rfl, (by repeat (first | exact Below.refl _ _ | assumption | refine Below.drewN ?_ | refine Below.drew ?_ | refine Below.setCell ?_ (by first | exact Nat.le_refl _ | omega | (simp; done) | (simp; omega)) _ | refine Below.alloc ?_ (by first | exact Nat.le_refl _ | omega | (simp; done) | (simp; omega)) _)), by omega, by omega, by omega, by omega, by omega⟩
  case round =>
    obtain ⟨k, hk, rfl, hb, h0, h1, h2, h3, h4⟩ := hrel
    obtain ⟨g0, g1, g2, g3, g4, g5, g6, g7, g8, g9, g10, g11, g12, g13, g14⟩ := hl.below hb hl.pos
    have hlen := Nat.lt_of_lt_of_le hl.pos hb.size
    clear hl
    match k, hk with
    | 0, _ =>
      go_wp2_with (go_at_call 77; refine (fHas_any _ _ _ _ _).mono ?_; rintro e w' ⟨rfl, hb'⟩; generalize hq : hasB 0 4294967295 k0 = q at *; cases q)
      · go_ret
        exact ⟨by simp [keyB, *], hb.trans (hb'.mono hb.size)⟩
      · go_roundw
        case rel => exact ⟨1, by omega, rfl, hb.trans (hb'.mono hb.size), fun _ => hq, by omega, by omega, by omega, by omega⟩
        case measure => simp [intOf]
    | 1, _ =>
      go_wp2_with (go_at_call 77; refine (fHas_any _ _ _ _ _).mono ?_; rintro e w' ⟨rfl, hb'⟩; generalize hq : hasB 0 4294967295 k1 = q at *; cases q)
      · go_ret
        exact ⟨by simp [keyB, *], hb.trans (hb'.mono hb.size)⟩
      · go_roundw
        case rel => exact ⟨2, by omega, rfl, hb.trans (hb'.mono hb.size), fun _ => h0 (by omega), fun _ => hq, by omega, by omega, by omega⟩
        case measure => simp [intOf]
    | 2, _ =>
      go_wp2_with (go_at_call 77; refine (fHas_any _ _ _ _ _).mono ?_; rintro e w' ⟨rfl, hb'⟩; generalize hq : hasB 0 255 k2 = q at *; cases q)
      · go_ret
        exact ⟨by simp [keyB, *], hb.trans (hb'.mono hb.size)⟩
      · go_roundw
        case rel => exact ⟨3, by omega, rfl, hb.trans (hb'.mono hb.size), fun _ => h0 (by omega), fun _ => h1 (by omega), fun _ => hq, by omega, by omega⟩
        case measure => simp [intOf]
    | 3, _ =>
      go_wp2_with (go_at_call 77; refine (fHas_any _ _ _ _ _).mono ?_; rintro e w' ⟨rfl, hb'⟩; generalize hq : hasB 0 65535 k3 = q at *; cases q)
      · go_ret
        exact ⟨by simp [keyB, *], hb.trans (hb'.mono hb.size)⟩
      · go_roundw
        case rel => exact ⟨4, by omega, rfl, hb.trans (hb'.mono hb.size), fun _ => h0 (by omega), fun _ => h1 (by omega), fun _ => h2 (by omega), fun _ => hq, by omega⟩
        case measure => simp [intOf]
    | 4, _ =>
      go_wp2_with (go_at_call 77; refine (fHas_any _ _ _ _ _).mono ?_; rintro e w' ⟨rfl, hb'⟩; generalize hq : hasB 0 65535 k4 = q at *; cases q)
      · go_ret
        exact ⟨by simp [keyB, *], hb.trans (hb'.mono hb.size)⟩
      · go_roundw
        case rel => exact ⟨5, by omega, rfl, hb.trans (hb'.mono hb.size), fun _ => h0 (by omega), fun _ => h1 (by omega), fun _ => h2 (by omega), fun _ => h3 (by omega), fun _ => hq⟩
        case measure => simp [intOf]
    | 5, _ =>
      go_wp2
      go_ret
      exact ⟨by simp [keyB, h0 (by omega), h1 (by omega), h2 (by omega), h3 (by omega), h4 (by omega)], hb⟩

end Go.Proofs.YtaejpejfmpbinaaGreatDoor

namespace Go.Proofs.YtaejpejfmpbinaaGreatDoor
open Go.RowKit

def matB (k v m lo hi : Int) : Bool := hasB lo hi v && (hasB lo hi m && (if k = 0 then bits .andNot .i64 v m == 0 else if k = 1 then decide (v ≤ m) else false))

set_option maxRecDepth 100000 in
set_option maxHeartbeats 400000 in
theorem isMatch_any (k v m wd lo hi : Int) (w : World) :
    Calls Tryz.prog 122 #[.agg #[.int .i64 k, .int .i64 v, .int .i64 m], .agg #[.int .i64 wd, .int .i64 lo, .int .i64 hi]] w fun e w' => e = .returned (.bool (matB k v m lo hi)) ∧ Below w.heap.size w w' := by
  go_enter Tryz.func122, Tryz.ntmps122
  go_wp2_with fail
  refine (fHas_any _ _ _ _ _).mono ?_
  rintro e w1 ⟨rfl, hb1⟩
  obtain ⟨hc, hf⟩ := bcell hb1
  have hz := hb1.size
  have hz1 : w.heap.size < w1.heap.size := by simp at hz; omega
  generalize hq1 : hasB lo hi v = q1 at *
  cases q1
  · go_wp2_with fail
    go_ret
    refine ⟨by simp [matB, hq1], Below.trans (by repeat (first | exact Below.refl _ _ | assumption | refine Below.drewN ?_ | refine Below.drew ?_ | refine Below.setCell ?_ (by first | exact Nat.le_refl _ | omega | (simp; done) | (simp; omega)) _ | refine Below.alloc ?_ (by first | exact Nat.le_refl _ | omega | (simp; done) | (simp; omega)) _)) (hb1.mono (by first | exact Nat.le_refl _ | omega | (simp; done) | (simp; omega)))⟩
  · go_wp2_with fail
    refine (fHas_any _ _ _ _ _).mono ?_
    rintro e w2 ⟨rfl, hb2⟩
    have hb : Below w.heap.size w w2 := Below.trans (Below.trans (by repeat (first | exact Below.refl _ _ | assumption | refine Below.drewN ?_ | refine Below.drew ?_ | refine Below.setCell ?_ (by first | exact Nat.le_refl _ | omega | (simp; done) | (simp; omega)) _ | refine Below.alloc ?_ (by first | exact Nat.le_refl _ | omega | (simp; done) | (simp; omega)) _)) (hb1.mono (by first | exact Nat.le_refl _ | omega | (simp; done) | (simp; omega)))) (hb2.mono (by simp at hz; omega))
    obtain ⟨hc2, hf2⟩ := bcell hb2
    generalize hq2 : hasB lo hi m = q2 at *
    cases q2
    · go_wp2_with fail
      go_ret
      exact ⟨by simp [matB, hq1, hq2], hb⟩
    · go_wp2_with fail
      all_goals
        go_ret
        refine ⟨?_, hb⟩
        simp_all [matB]

end Go.Proofs.YtaejpejfmpbinaaGreatDoor

namespace Go.Proofs.YtaejpejfmpbinaaGreatDoor
open Go.RowKit
open Go.Sort (grow)

theorem cell?_regrown (w : World) (d : Nat) (os : Array Obj) (b o : Nat) (h : b < w.heap.size) : (grow (redrawn w d) os).cell? ⟨b, o, none⟩ = w.cell? ⟨b, o, none⟩ :=
  (below_regrown w d os).cell (p := ⟨b, o, none⟩) h
theorem Laid.regrown {w : World} (h : Laid w) (d : Nat) (os : Array Obj) : Laid (grow (redrawn w d) os) := h.below (below_regrown w d os) h.pos

theorem below_of_regrown {w wq : World} (h : ∃ p : Regrown, wq = grow (redrawn w p.d) p.os) : Below w.heap.size w wq := by
  obtain ⟨p, hp⟩ := h
  rw [hp]
  exact below_regrown _ _ _
theorem cellA {w : World} {o : Obj} {b i : Nat} {v : Value} (h : b < w.heap.size) (hc : w.cell? ⟨b, i, none⟩ = some v) : (w.alloc o).cell? ⟨b, i, none⟩ = some v :=
  (((Below.refl w.heap.size w).alloc (Nat.le_refl _) o).cell (p := ⟨b, i, none⟩) h).trans hc
theorem ret_bool {a b : Bool} (h : a = b) : Ending.returned (.bool a) = .returned (.bool b) := by rw [h]
theorem ret_int {k : IntKind} {a b : Int} (h : a = b) : Ending.returned (.int k a) = .returned (.int k b) := by rw [h]

end Go.Proofs.YtaejpejfmpbinaaGreatDoor
