import Derived.Test.YtnjalelblbjfiaaGreatDoorProg
import Derived.WalkKit
import Derived.WalkSpells
import Derived.BigQuiet
import Derived.WalkSmall
import Derived.KernelRfl
namespace Go.Proofs.YtnjalelblbjfiaaGreatDoor
open Go.RowKit

set_option maxHeartbeats 400000 in
theorem isNaN_any (a : Int) (w : World) :
    Calls Tryz.prog 84 #[.int .i64 a] w fun e w' => e = .returned (.bool false) ∧ w' = w := by
  go_enter Tryz.func84, Tryz.ntmps84
  go_wp2
  go_ret
  exact ⟨by simp, rfl⟩

def cmpI (a b : Int) : Int := if a < b then -1 else if b < a then 1 else 0

set_option maxHeartbeats 400000 in
theorem cmpInt_any (a b : Int) (w : World) :
    Calls Tryz.prog 33 #[.int .i64 a, .int .i64 b] w fun e w' => e = .returned (.int .i64 (cmpI a b)) ∧ w' = w := by
  go_enter Tryz.func33, Tryz.ntmps33
  go_wp2_with (go_at_call 84; refine (isNaN_any _ _).mono ?_; rintro e w' ⟨rfl, rfl⟩)
  all_goals go_ret
  all_goals (refine ⟨?_, rfl⟩; unfold cmpI)
  all_goals simp [*]
  all_goals omega

end Go.Proofs.YtnjalelblbjfiaaGreatDoor

namespace Go.Proofs.YtnjalelblbjfiaaGreatDoor
open Go.RowKit

theorem bcell {W w1 : World} (hb : Below W.heap.size W w1) : (∀ b o, b < W.heap.size → w1.cell? ⟨b, o, none⟩ = W.cell? ⟨b, o, none⟩) ∧ (∀ b o, b < W.heap.size → w1.frozen? ⟨b, o, none⟩ = W.frozen? ⟨b, o, none⟩) :=
  ⟨fun b o h => hb.cell (p := ⟨b, o, none⟩) h, fun b o h => hb.frozen (p := ⟨b, o, none⟩) h⟩

theorem Below.drewN {B : Nat} {a w : World} {n : Nat} (h : Below B a w) : Below B a (w.drewN n) := below_drewN h n

def cmpR (p1 i1 p2 i2 : Int) : Int := if p1 = p2 then cmpI i1 i2 else cmpI p2 p1

set_option maxHeartbeats 400000 in
theorem compare_any (p1 i1 p2 i2 : Int) (w : World) :
    Calls Tryz.prog 35 #[.agg #[.int .i64 p1, .int .i64 i1], .agg #[.int .i64 p2, .int .i64 i2]] w fun e w' => e = .returned (.int .i64 (cmpR p1 i1 p2 i2)) ∧ Below w.heap.size w w' := by
  by_cases h : p1 = p2
  · have hb : (p1 != p2) = false := by simp [h]
    go_enter Tryz.func35, Tryz.ntmps35
    go_wp2_with (go_at_call 33; refine (cmpInt_any _ _ _).mono ?_; rintro e w' ⟨rfl, rfl⟩)
    go_ret
    exact ⟨by simp [cmpR, h], (by repeat (first | exact Below.refl _ _ | assumption | refine Below.drewN ?_ | refine Below.drew ?_ | refine Below.setCell ?_ (by first | exact Nat.le_refl _ | omega | (simp; done) | (simp; omega)) _ | refine Below.alloc ?_ (by first | exact Nat.le_refl _ | omega | (simp; done) | (simp; omega)) _))⟩
  · have hb : (p1 != p2) = true := by simp [h]
    go_enter Tryz.func35, Tryz.ntmps35
    go_wp2_with (go_at_call 33; refine (cmpInt_any _ _ _).mono ?_; rintro e w' ⟨rfl, rfl⟩)
    go_ret
    exact ⟨by simp [cmpR, h], (by repeat (first | exact Below.refl _ _ | assumption | refine Below.drewN ?_ | refine Below.drew ?_ | refine Below.setCell ?_ (by first | exact Nat.le_refl _ | omega | (simp; done) | (simp; omega)) _ | refine Below.alloc ?_ (by first | exact Nat.le_refl _ | omega | (simp; done) | (simp; omega)) _))⟩

/-- Is x from lo to hi? -/
def hasB (lo hi x : Int) : Bool := decide (lo ≤ x) && decide (x ≤ hi)
theorem hasB_iff {lo hi x : Int} : hasB lo hi x = true ↔ lo ≤ x ∧ x ≤ hi := by simp [hasB]

set_option maxHeartbeats 400000 in
theorem sHas_any (lo hi x : Int) (w : World) :
    Calls Tryz.prog 163 #[.agg #[.int .i64 lo, .int .i64 hi], .int .i64 x] w fun e w' => e = .returned (.bool (hasB lo hi x)) ∧ Below w.heap.size w w' := by
  by_cases h : lo ≤ x
  all_goals
    go_enter Tryz.func163, Tryz.ntmps163
    go_wp2
    go_ret
    exact ⟨by simp [hasB, h]; try omega, (by repeat (first | exact Below.refl _ _ | assumption | refine Below.drewN ?_ | refine Below.drew ?_ | refine Below.setCell ?_ (by first | exact Nat.le_refl _ | omega | (simp; done) | (simp; omega)) _ | refine Below.alloc ?_ (by first | exact Nat.le_refl _ | omega | (simp; done) | (simp; omega)) _))⟩

set_option maxHeartbeats 400000 in
theorem fHas_any (wd lo hi x : Int) (w : World) :
    Calls Tryz.prog 95 #[.agg #[.int .i64 wd, .int .i64 lo, .int .i64 hi], .int .i64 x] w fun e w' => e = .returned (.bool (hasB lo hi x)) ∧ Below w.heap.size w w' := by
  go_enter Tryz.func95, Tryz.ntmps95
  go_wp2_with (go_at_call 163; refine (sHas_any _ _ _ _).mono ?_; rintro e w' ⟨rfl, hb⟩)
  go_ret
  exact ⟨rfl, Below.trans (by repeat (first | exact Below.refl _ _ | assumption | refine Below.drewN ?_ | refine Below.drew ?_ | refine Below.setCell ?_ (by first | exact Nat.le_refl _ | omega | (simp; done) | (simp; omega)) _ | refine Below.alloc ?_ (by first | exact Nat.le_refl _ | omega | (simp; done) | (simp; omega)) _)) (hb.mono (by simp))⟩

set_option maxHeartbeats 400000 in
theorem sides_any (lo hi x : Int) (w : World) :
    Calls Tryz.prog 203 #[.agg #[.int .i64 lo, .int .i64 hi], .int .i64 x] w fun e w' => e = .returned (.tuple #[.bool (decide (lo ≤ x)), .bool (decide (x < hi))]) ∧ Below w.heap.size w w' := by
  go_enter Tryz.func203, Tryz.ntmps203
  go_wp2
  go_quiet (fail)
  go_wp2
  go_ret2
  exact ⟨by simp, (by repeat (first | exact Below.refl _ _ | assumption | refine Below.drewN ?_ | refine Below.drew ?_ | refine Below.setCell ?_ (by first | exact Nat.le_refl _ | omega | (simp; done) | (simp; omega)) _ | refine Below.alloc ?_ (by first | exact Nat.le_refl _ | omega | (simp; done) | (simp; omega)) _))⟩

def maxI (a b : Int) : Int := if a < b then b else a

set_option maxHeartbeats 400000 in
theorem most_any (l lo hi : Int) (w : World) :
    Calls Tryz.prog 202 #[.agg #[.int .i64 l, .int .i64 lo, .int .i64 hi]] w fun e w' => e = .returned (.int .i64 (maxI lo hi)) ∧ Below w.heap.size w w' := by
  go_enter Tryz.func202, Tryz.ntmps202
  go_wp2
  all_goals
    go_ret
    refine ⟨?_, (by repeat (first | exact Below.refl _ _ | assumption | refine Below.drewN ?_ | refine Below.drew ?_ | refine Below.setCell ?_ (by first | exact Nat.le_refl _ | omega | (simp; done) | (simp; omega)) _ | refine Below.alloc ?_ (by first | exact Nat.le_refl _ | omega | (simp; done) | (simp; omega)) _))⟩
    first | (simp [maxI, *]; done) | (simp [maxI]; omega)

def actB (a p : Int) : Bool := if a = 0 then p == 0 else if a = 1 then p == 0 else if a = 2 then decide (0 ≤ p) && decide (p < 8) else false

def hullB (mx v m : Int) : Int := bits .or .i64 v (bits .andNot .i64 mx m)

/-- What a match's hull reaches up to. -/
def topB (k v m mx : Int) : Int := if k = 1 then m else hullB mx v m

end Go.Proofs.YtnjalelblbjfiaaGreatDoor

namespace Go.Proofs.YtnjalelblbjfiaaGreatDoor
open Go.RowKit

/- WHAT AN ARRAY BY VALUE GIVES AT EACH PLACE: closed facts. -/
theorem ixKey0 (v0 v1 v2 v3 v4 : Int) (w : World) : (Instr.index 39 (.agg #[.int .i64 v0, .int .i64 v1, .int .i64 v2, .int .i64 v3, .int .i64 v4]) (.int .i64 0)).run Tryz.prog w = .ok (.int .i64 v0) w := by kernel_rfl
theorem ixKey1 (v0 v1 v2 v3 v4 : Int) (w : World) : (Instr.index 39 (.agg #[.int .i64 v0, .int .i64 v1, .int .i64 v2, .int .i64 v3, .int .i64 v4]) (.int .i64 1)).run Tryz.prog w = .ok (.int .i64 v1) w := by kernel_rfl
theorem ixKey2 (v0 v1 v2 v3 v4 : Int) (w : World) : (Instr.index 39 (.agg #[.int .i64 v0, .int .i64 v1, .int .i64 v2, .int .i64 v3, .int .i64 v4]) (.int .i64 2)).run Tryz.prog w = .ok (.int .i64 v2) w := by kernel_rfl
theorem ixKey3 (v0 v1 v2 v3 v4 : Int) (w : World) : (Instr.index 39 (.agg #[.int .i64 v0, .int .i64 v1, .int .i64 v2, .int .i64 v3, .int .i64 v4]) (.int .i64 3)).run Tryz.prog w = .ok (.int .i64 v3) w := by kernel_rfl
theorem ixKey4 (v0 v1 v2 v3 v4 : Int) (w : World) : (Instr.index 39 (.agg #[.int .i64 v0, .int .i64 v1, .int .i64 v2, .int .i64 v3, .int .i64 v4]) (.int .i64 4)).run Tryz.prog w = .ok (.int .i64 v4) w := by kernel_rfl
theorem ixM0 (v0 v1 v2 v3 v4 v5 v6 v7 v8 v9 v10 v11 v12 v13 v14 : Int) (w : World) : (Instr.index 35 (.agg #[.int .i64 v0, .int .i64 v1, .int .i64 v2, .int .i64 v3, .int .i64 v4, .int .i64 v5, .int .i64 v6, .int .i64 v7, .int .i64 v8, .int .i64 v9, .int .i64 v10, .int .i64 v11, .int .i64 v12, .int .i64 v13, .int .i64 v14]) (.int .i64 0)).run Tryz.prog w = .ok (.agg #[.int .i64 v0, .int .i64 v1, .int .i64 v2]) w := by kernel_rfl
theorem ixM1 (v0 v1 v2 v3 v4 v5 v6 v7 v8 v9 v10 v11 v12 v13 v14 : Int) (w : World) : (Instr.index 35 (.agg #[.int .i64 v0, .int .i64 v1, .int .i64 v2, .int .i64 v3, .int .i64 v4, .int .i64 v5, .int .i64 v6, .int .i64 v7, .int .i64 v8, .int .i64 v9, .int .i64 v10, .int .i64 v11, .int .i64 v12, .int .i64 v13, .int .i64 v14]) (.int .i64 1)).run Tryz.prog w = .ok (.agg #[.int .i64 v3, .int .i64 v4, .int .i64 v5]) w := by kernel_rfl
theorem ixM2 (v0 v1 v2 v3 v4 v5 v6 v7 v8 v9 v10 v11 v12 v13 v14 : Int) (w : World) : (Instr.index 35 (.agg #[.int .i64 v0, .int .i64 v1, .int .i64 v2, .int .i64 v3, .int .i64 v4, .int .i64 v5, .int .i64 v6, .int .i64 v7, .int .i64 v8, .int .i64 v9, .int .i64 v10, .int .i64 v11, .int .i64 v12, .int .i64 v13, .int .i64 v14]) (.int .i64 2)).run Tryz.prog w = .ok (.agg #[.int .i64 v6, .int .i64 v7, .int .i64 v8]) w := by kernel_rfl
theorem ixM3 (v0 v1 v2 v3 v4 v5 v6 v7 v8 v9 v10 v11 v12 v13 v14 : Int) (w : World) : (Instr.index 35 (.agg #[.int .i64 v0, .int .i64 v1, .int .i64 v2, .int .i64 v3, .int .i64 v4, .int .i64 v5, .int .i64 v6, .int .i64 v7, .int .i64 v8, .int .i64 v9, .int .i64 v10, .int .i64 v11, .int .i64 v12, .int .i64 v13, .int .i64 v14]) (.int .i64 3)).run Tryz.prog w = .ok (.agg #[.int .i64 v9, .int .i64 v10, .int .i64 v11]) w := by kernel_rfl
theorem ixM4 (v0 v1 v2 v3 v4 v5 v6 v7 v8 v9 v10 v11 v12 v13 v14 : Int) (w : World) : (Instr.index 35 (.agg #[.int .i64 v0, .int .i64 v1, .int .i64 v2, .int .i64 v3, .int .i64 v4, .int .i64 v5, .int .i64 v6, .int .i64 v7, .int .i64 v8, .int .i64 v9, .int .i64 v10, .int .i64 v11, .int .i64 v12, .int .i64 v13, .int .i64 v14]) (.int .i64 4)).run Tryz.prog w = .ok (.agg #[.int .i64 v12, .int .i64 v13, .int .i64 v14]) w := by kernel_rfl
theorem ixF0 (v0 v1 v2 v3 v4 v5 v6 v7 v8 v9 v10 v11 v12 v13 v14 : Int) (w : World) : (Instr.index 179 (.agg #[.int .i64 v0, .int .i64 v1, .int .i64 v2, .int .i64 v3, .int .i64 v4, .int .i64 v5, .int .i64 v6, .int .i64 v7, .int .i64 v8, .int .i64 v9, .int .i64 v10, .int .i64 v11, .int .i64 v12, .int .i64 v13, .int .i64 v14]) (.int .i64 0)).run Tryz.prog w = .ok (.agg #[.int .i64 v0, .int .i64 v1, .int .i64 v2]) w := by kernel_rfl
theorem ixF1 (v0 v1 v2 v3 v4 v5 v6 v7 v8 v9 v10 v11 v12 v13 v14 : Int) (w : World) : (Instr.index 179 (.agg #[.int .i64 v0, .int .i64 v1, .int .i64 v2, .int .i64 v3, .int .i64 v4, .int .i64 v5, .int .i64 v6, .int .i64 v7, .int .i64 v8, .int .i64 v9, .int .i64 v10, .int .i64 v11, .int .i64 v12, .int .i64 v13, .int .i64 v14]) (.int .i64 1)).run Tryz.prog w = .ok (.agg #[.int .i64 v3, .int .i64 v4, .int .i64 v5]) w := by kernel_rfl
theorem ixF2 (v0 v1 v2 v3 v4 v5 v6 v7 v8 v9 v10 v11 v12 v13 v14 : Int) (w : World) : (Instr.index 179 (.agg #[.int .i64 v0, .int .i64 v1, .int .i64 v2, .int .i64 v3, .int .i64 v4, .int .i64 v5, .int .i64 v6, .int .i64 v7, .int .i64 v8, .int .i64 v9, .int .i64 v10, .int .i64 v11, .int .i64 v12, .int .i64 v13, .int .i64 v14]) (.int .i64 2)).run Tryz.prog w = .ok (.agg #[.int .i64 v6, .int .i64 v7, .int .i64 v8]) w := by kernel_rfl
theorem ixF3 (v0 v1 v2 v3 v4 v5 v6 v7 v8 v9 v10 v11 v12 v13 v14 : Int) (w : World) : (Instr.index 179 (.agg #[.int .i64 v0, .int .i64 v1, .int .i64 v2, .int .i64 v3, .int .i64 v4, .int .i64 v5, .int .i64 v6, .int .i64 v7, .int .i64 v8, .int .i64 v9, .int .i64 v10, .int .i64 v11, .int .i64 v12, .int .i64 v13, .int .i64 v14]) (.int .i64 3)).run Tryz.prog w = .ok (.agg #[.int .i64 v9, .int .i64 v10, .int .i64 v11]) w := by kernel_rfl
theorem ixF4 (v0 v1 v2 v3 v4 v5 v6 v7 v8 v9 v10 v11 v12 v13 v14 : Int) (w : World) : (Instr.index 179 (.agg #[.int .i64 v0, .int .i64 v1, .int .i64 v2, .int .i64 v3, .int .i64 v4, .int .i64 v5, .int .i64 v6, .int .i64 v7, .int .i64 v8, .int .i64 v9, .int .i64 v10, .int .i64 v11, .int .i64 v12, .int .i64 v13, .int .i64 v14]) (.int .i64 4)).run Tryz.prog w = .ok (.agg #[.int .i64 v12, .int .i64 v13, .int .i64 v14]) w := by kernel_rfl

end Go.Proofs.YtnjalelblbjfiaaGreatDoor

namespace Go.Proofs.YtnjalelblbjfiaaGreatDoor
open Go.RowKit
attribute [local go_sem] ixKey0 ixKey1 ixKey2 ixKey3 ixKey4

/-- The table of the fields, as it was laid: variable 0. -/
def Laid (w : World) : Prop := w.cell? ⟨0, 0, none⟩ = some (.int .i64 32) ∧ w.cell? ⟨0, 1, none⟩ = some (.int .i64 0) ∧ w.cell? ⟨0, 2, none⟩ = some (.int .i64 4294967295) ∧ w.cell? ⟨0, 3, none⟩ = some (.int .i64 32) ∧ w.cell? ⟨0, 4, none⟩ = some (.int .i64 0) ∧ w.cell? ⟨0, 5, none⟩ = some (.int .i64 4294967295) ∧ w.cell? ⟨0, 6, none⟩ = some (.int .i64 8) ∧ w.cell? ⟨0, 7, none⟩ = some (.int .i64 0) ∧ w.cell? ⟨0, 8, none⟩ = some (.int .i64 255) ∧ w.cell? ⟨0, 9, none⟩ = some (.int .i64 16) ∧ w.cell? ⟨0, 10, none⟩ = some (.int .i64 0) ∧ w.cell? ⟨0, 11, none⟩ = some (.int .i64 65535) ∧ w.cell? ⟨0, 12, none⟩ = some (.int .i64 16) ∧ w.cell? ⟨0, 13, none⟩ = some (.int .i64 0) ∧ w.cell? ⟨0, 14, none⟩ = some (.int .i64 65535)
theorem Laid.pos {w : World} (h : Laid w) : 0 < w.heap.size := block_lt_of_cell h.1
theorem Laid.below {B : Nat} {w w' : World} (h : Laid w) (hb : Below B w w') (h0 : 0 < B) : Laid w' := by
  have e : ∀ i, w'.cell? ⟨0, i, none⟩ = w.cell? ⟨0, i, none⟩ := fun i => hb.cell (p := ⟨0, i, none⟩) h0
  simpa only [Laid, e] using h

def keyB (k0 k1 k2 k3 k4 : Int) : Bool := hasB 0 4294967295 k0 && (hasB 0 4294967295 k1 && (hasB 0 255 k2 && (hasB 0 65535 k3 && hasB 0 65535 k4)))

set_option maxRecDepth 100000 in
set_option maxHeartbeats 400000 in
theorem isKey_any (k0 k1 k2 k3 k4 : Int) (w : World) (hl : Laid w) :
    Calls Tryz.prog 45 #[.agg #[.int .i64 k0, .int .i64 k1, .int .i64 k2, .int .i64 k3, .int .i64 k4]] w fun e w' => e = .returned (.bool (keyB k0 k1 k2 k3 k4)) ∧ Below w.heap.size w w' := by
  go_enter Tryz.func45, Tryz.ntmps45
  go_wp2
  go_loopw [6] (fun i wr => ∃ k : Nat, k ≤ 5 ∧ i = .int .i64 k ∧ Below w.heap.size w wr ∧ (0 < k → hasB 0 4294967295 k0 = true) ∧ (1 < k → hasB 0 4294967295 k1 = true) ∧ (2 < k → hasB 0 255 k2 = true) ∧ (3 < k → hasB 0 65535 k3 = true) ∧ (4 < k → hasB 0 65535 k4 = true)) (fun i _ => 5 - (intOf i).toNat)
  case atStart => exact ⟨0, by omega, rfl, (by repeat (first | exact Below.refl _ _ | assumption | refine Below.drewN ?_ | refine Below.drew ?_ | refine Below.setCell ?_ (by first | exact Nat.le_refl _ | omega | (simp; done) | (simp; omega)) _ | refine Below.alloc ?_ (by first | exact Nat.le_refl _ | omega | (simp; done) | (simp; omega)) _)), by omega, by omega, by omega, by omega, by omega⟩
  case round =>
    obtain ⟨k, hk, rfl, hb, h0, h1, h2, h3, h4⟩ := hrel
    obtain ⟨g0, g1, g2, g3, g4, g5, g6, g7, g8, g9, g10, g11, g12, g13, g14⟩ := hl.below hb hl.pos
    have hlen := Nat.lt_of_lt_of_le hl.pos hb.size
    clear hl
    match k, hk with
    | 0, _ =>
      go_wp2_with (go_at_call 95; refine (fHas_any _ _ _ _ _).mono ?_; rintro e w' ⟨rfl, hb'⟩; generalize hq : hasB 0 4294967295 k0 = q at *; cases q)
      · go_ret
        exact ⟨by simp [keyB, *], hb.trans (hb'.mono hb.size)⟩
      · go_roundw
        case rel => exact ⟨1, by omega, rfl, hb.trans (hb'.mono hb.size), fun _ => hq, by omega, by omega, by omega, by omega⟩
        case measure => simp [intOf]
    | 1, _ =>
      go_wp2_with (go_at_call 95; refine (fHas_any _ _ _ _ _).mono ?_; rintro e w' ⟨rfl, hb'⟩; generalize hq : hasB 0 4294967295 k1 = q at *; cases q)
      · go_ret
        exact ⟨by simp [keyB, *], hb.trans (hb'.mono hb.size)⟩
      · go_roundw
        case rel => exact ⟨2, by omega, rfl, hb.trans (hb'.mono hb.size), fun _ => h0 (by omega), fun _ => hq, by omega, by omega, by omega⟩
        case measure => simp [intOf]
    | 2, _ =>
      go_wp2_with (go_at_call 95; refine (fHas_any _ _ _ _ _).mono ?_; rintro e w' ⟨rfl, hb'⟩; generalize hq : hasB 0 255 k2 = q at *; cases q)
      · go_ret
        exact ⟨by simp [keyB, *], hb.trans (hb'.mono hb.size)⟩
      · go_roundw
        case rel => exact ⟨3, by omega, rfl, hb.trans (hb'.mono hb.size), fun _ => h0 (by omega), fun _ => h1 (by omega), fun _ => hq, by omega, by omega⟩
        case measure => simp [intOf]
    | 3, _ =>
      go_wp2_with (go_at_call 95; refine (fHas_any _ _ _ _ _).mono ?_; rintro e w' ⟨rfl, hb'⟩; generalize hq : hasB 0 65535 k3 = q at *; cases q)
      · go_ret
        exact ⟨by simp [keyB, *], hb.trans (hb'.mono hb.size)⟩
      · go_roundw
        case rel => exact ⟨4, by omega, rfl, hb.trans (hb'.mono hb.size), fun _ => h0 (by omega), fun _ => h1 (by omega), fun _ => h2 (by omega), fun _ => hq, by omega⟩
        case measure => simp [intOf]
    | 4, _ =>
      go_wp2_with (go_at_call 95; refine (fHas_any _ _ _ _ _).mono ?_; rintro e w' ⟨rfl, hb'⟩; generalize hq : hasB 0 65535 k4 = q at *; cases q)
      · go_ret
        exact ⟨by simp [keyB, *], hb.trans (hb'.mono hb.size)⟩
      · go_roundw
        case rel => exact ⟨5, by omega, rfl, hb.trans (hb'.mono hb.size), fun _ => h0 (by omega), fun _ => h1 (by omega), fun _ => h2 (by omega), fun _ => h3 (by omega), fun _ => hq⟩
        case measure => simp [intOf]
    | 5, _ =>
      go_wp2
      go_ret
      exact ⟨by simp [keyB, h0 (by omega), h1 (by omega), h2 (by omega), h3 (by omega), h4 (by omega)], hb⟩

end Go.Proofs.YtnjalelblbjfiaaGreatDoor
