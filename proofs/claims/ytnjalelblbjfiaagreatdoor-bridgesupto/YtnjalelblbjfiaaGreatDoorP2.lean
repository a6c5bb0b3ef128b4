import Derived.Test.YtnjalelblbjfiaaGreatDoorP1
import Derived.Lib.QuietBelow
namespace Go.Proofs.YtnjalelblbjfiaaGreatDoor
open Go.RowKit

def matB (k v m lo hi : Int) : Bool := hasB lo hi v && (hasB lo hi m && (if k = 0 then bits .andNot .i64 v m == 0 else if k = 1 then decide (v ≤ m) else false))

end Go.Proofs.YtnjalelblbjfiaaGreatDoor

namespace Go.Proofs.YtnjalelblbjfiaaGreatDoor
open Go.RowKit
open Go.Sort (grow)

theorem cell?_regrown (w : World) (d : Nat) (os : Array Obj) (b o : Nat) (h : b < w.heap.size) : (grow (redrawn w d) os).cell? ⟨b, o, none⟩ = w.cell? ⟨b, o, none⟩ :=
  (below_regrown w d os).cell (p := ⟨b, o, none⟩) h

theorem below_of_regrown {w wq : World} (h : ∃ p : Regrown, wq = grow (redrawn w p.d) p.os) : Below w.heap.size w wq := by
  obtain ⟨p, hp⟩ := h
  rw [hp]
  exact below_regrown _ _ _
theorem cellA {w : World} {o : Obj} {b i : Nat} {v : Value} (h : b < w.heap.size) (hc : w.cell? ⟨b, i, none⟩ = some v) : (w.alloc o).cell? ⟨b, i, none⟩ = some v :=
  (((Below.refl w.heap.size w).alloc (Nat.le_refl _) o).cell (p := ⟨b, i, none⟩) h).trans hc
theorem ret_bool {a b : Bool} (h : a = b) : Ending.returned (.bool a) = .returned (.bool b) := by rw [h]
theorem ret_int {k : IntKind} {a b : Int} (h : a = b) : Ending.returned (.int k a) = .returned (.int k b) := by rw [h]

end Go.Proofs.YtnjalelblbjfiaaGreatDoor

namespace Go.Proofs.YtnjalelblbjfiaaGreatDoor
open Go.RowKit
open Go.Sort (grow)
attribute [local go_sem] ixM0 ixM1 ixM2 ixM3 ixM4 cell?_regrown

def ruleB (id pr k0 v0 m0 k1 v1 m1 k2 v2 m2 k3 v3 m3 k4 v4 m4 ac po : Int) : Bool := !(decide (id < 0)) && (!(decide (pr < 0)) && (!(decide (1000 < pr)) && (matB k0 v0 m0 0 4294967295 && (matB k1 v1 m1 0 4294967295 && (matB k2 v2 m2 0 255 && (matB k3 v3 m3 0 65535 && (matB k4 v4 m4 0 65535 && actB ac po)))))))

end Go.Proofs.YtnjalelblbjfiaaGreatDoor

namespace Go.Proofs.YtnjalelblbjfiaaGreatDoor
open Go.RowKit
open Go.Sort (grow)

/-- A rule, by its nineteen numbers. -/
structure Rl where
  id : Int
  pr : Int
  k0 : Int
  v0 : Int
  m0 : Int
  k1 : Int
  v1 : Int
  m1 : Int
  k2 : Int
  v2 : Int
  m2 : Int
  k3 : Int
  v3 : Int
  m3 : Int
  k4 : Int
  v4 : Int
  m4 : Int
  ac : Int
  po : Int

def Rl.cells (r : Rl) : Array Value := #[.int .i64 r.id, .int .i64 r.pr, .int .i64 r.k0, .int .i64 r.v0, .int .i64 r.m0, .int .i64 r.k1, .int .i64 r.v1, .int .i64 r.m1, .int .i64 r.k2, .int .i64 r.v2, .int .i64 r.m2, .int .i64 r.k3, .int .i64 r.v3, .int .i64 r.m3, .int .i64 r.k4, .int .i64 r.v4, .int .i64 r.m4, .int .i64 r.ac, .int .i64 r.po]
/-- An entry's cells: the rule, then the hulls. -/
def Rl.ecells (r : Rl) : Array Value := #[.int .i64 r.id, .int .i64 r.pr, .int .i64 r.k0, .int .i64 r.v0, .int .i64 r.m0, .int .i64 r.k1, .int .i64 r.v1, .int .i64 r.m1, .int .i64 r.k2, .int .i64 r.v2, .int .i64 r.m2, .int .i64 r.k3, .int .i64 r.v3, .int .i64 r.m3, .int .i64 r.k4, .int .i64 r.v4, .int .i64 r.m4, .int .i64 r.ac, .int .i64 r.po, .int .i64 r.v0, .int .i64 (topB r.k0 r.v0 r.m0 4294967295), .int .i64 r.v1, .int .i64 (topB r.k1 r.v1 r.m1 4294967295), .int .i64 r.v2, .int .i64 (topB r.k2 r.v2 r.m2 255), .int .i64 r.v3, .int .i64 (topB r.k3 r.v3 r.m3 65535), .int .i64 r.v4, .int .i64 (topB r.k4 r.v4 r.m4 65535)]
def Rl.ok (r : Rl) : Bool := ruleB r.id r.pr r.k0 r.v0 r.m0 r.k1 r.v1 r.m1 r.k2 r.v2 r.m2 r.k3 r.v3 r.m3 r.k4 r.v4 r.m4 r.ac r.po
/-- Block b is the entry of rule r. -/
def EntAt (w : World) (b : Nat) (r : Rl) : Prop := ∀ i : Nat, i < 30 → w.cell? ⟨b, i, none⟩ = r.ecells[i]?
theorem EntAt.lt {w : World} {b : Nat} {r : Rl} (h : EntAt w b r) : b < w.heap.size := block_lt_of_cell (h 0 (by omega))
theorem EntAt.same {w w' : World} {b : Nat} {r : Rl} (h : EntAt w b r) (hs : w'.heap[b]? = w.heap[b]?) : EntAt w' b r := fun i hi =>
  (World.cell?_of_block (w := w) (a := ⟨b, i, none⟩) hs).trans (h i hi)
theorem EntAt.below {B : Nat} {w w' : World} {b : Nat} {r : Rl} (h : EntAt w b r) (hb : Below B w w') (hB : b < B) : EntAt w' b r := h.same (hb.block b hB)
theorem EntAt.c0 {w : World} {b : Nat} {r : Rl} (h : EntAt w b r) : w.cell? ⟨b, 0, none⟩ = some (.int .i64 r.id) := h 0 (by omega)
theorem EntAt.c1 {w : World} {b : Nat} {r : Rl} (h : EntAt w b r) : w.cell? ⟨b, 1, none⟩ = some (.int .i64 r.pr) := h 1 (by omega)
theorem EntAt.c2 {w : World} {b : Nat} {r : Rl} (h : EntAt w b r) : w.cell? ⟨b, 2, none⟩ = some (.int .i64 r.k0) := h 2 (by omega)
theorem EntAt.c3 {w : World} {b : Nat} {r : Rl} (h : EntAt w b r) : w.cell? ⟨b, 3, none⟩ = some (.int .i64 r.v0) := h 3 (by omega)
theorem EntAt.c4 {w : World} {b : Nat} {r : Rl} (h : EntAt w b r) : w.cell? ⟨b, 4, none⟩ = some (.int .i64 r.m0) := h 4 (by omega)
theorem EntAt.c5 {w : World} {b : Nat} {r : Rl} (h : EntAt w b r) : w.cell? ⟨b, 5, none⟩ = some (.int .i64 r.k1) := h 5 (by omega)
theorem EntAt.c6 {w : World} {b : Nat} {r : Rl} (h : EntAt w b r) : w.cell? ⟨b, 6, none⟩ = some (.int .i64 r.v1) := h 6 (by omega)
theorem EntAt.c7 {w : World} {b : Nat} {r : Rl} (h : EntAt w b r) : w.cell? ⟨b, 7, none⟩ = some (.int .i64 r.m1) := h 7 (by omega)
theorem EntAt.c8 {w : World} {b : Nat} {r : Rl} (h : EntAt w b r) : w.cell? ⟨b, 8, none⟩ = some (.int .i64 r.k2) := h 8 (by omega)
theorem EntAt.c9 {w : World} {b : Nat} {r : Rl} (h : EntAt w b r) : w.cell? ⟨b, 9, none⟩ = some (.int .i64 r.v2) := h 9 (by omega)
theorem EntAt.c10 {w : World} {b : Nat} {r : Rl} (h : EntAt w b r) : w.cell? ⟨b, 10, none⟩ = some (.int .i64 r.m2) := h 10 (by omega)
theorem EntAt.c11 {w : World} {b : Nat} {r : Rl} (h : EntAt w b r) : w.cell? ⟨b, 11, none⟩ = some (.int .i64 r.k3) := h 11 (by omega)
theorem EntAt.c12 {w : World} {b : Nat} {r : Rl} (h : EntAt w b r) : w.cell? ⟨b, 12, none⟩ = some (.int .i64 r.v3) := h 12 (by omega)
theorem EntAt.c13 {w : World} {b : Nat} {r : Rl} (h : EntAt w b r) : w.cell? ⟨b, 13, none⟩ = some (.int .i64 r.m3) := h 13 (by omega)
theorem EntAt.c14 {w : World} {b : Nat} {r : Rl} (h : EntAt w b r) : w.cell? ⟨b, 14, none⟩ = some (.int .i64 r.k4) := h 14 (by omega)
theorem EntAt.c15 {w : World} {b : Nat} {r : Rl} (h : EntAt w b r) : w.cell? ⟨b, 15, none⟩ = some (.int .i64 r.v4) := h 15 (by omega)
theorem EntAt.c16 {w : World} {b : Nat} {r : Rl} (h : EntAt w b r) : w.cell? ⟨b, 16, none⟩ = some (.int .i64 r.m4) := h 16 (by omega)
theorem EntAt.c19 {w : World} {b : Nat} {r : Rl} (h : EntAt w b r) : w.cell? ⟨b, 19, none⟩ = some (.int .i64 r.v0) := h 19 (by omega)
theorem EntAt.c20 {w : World} {b : Nat} {r : Rl} (h : EntAt w b r) : w.cell? ⟨b, 20, none⟩ = some (.int .i64 (topB r.k0 r.v0 r.m0 4294967295)) := h 20 (by omega)
theorem EntAt.c21 {w : World} {b : Nat} {r : Rl} (h : EntAt w b r) : w.cell? ⟨b, 21, none⟩ = some (.int .i64 r.v1) := h 21 (by omega)
theorem EntAt.c22 {w : World} {b : Nat} {r : Rl} (h : EntAt w b r) : w.cell? ⟨b, 22, none⟩ = some (.int .i64 (topB r.k1 r.v1 r.m1 4294967295)) := h 22 (by omega)
theorem EntAt.c23 {w : World} {b : Nat} {r : Rl} (h : EntAt w b r) : w.cell? ⟨b, 23, none⟩ = some (.int .i64 r.v2) := h 23 (by omega)
theorem EntAt.c24 {w : World} {b : Nat} {r : Rl} (h : EntAt w b r) : w.cell? ⟨b, 24, none⟩ = some (.int .i64 (topB r.k2 r.v2 r.m2 255)) := h 24 (by omega)
theorem EntAt.c25 {w : World} {b : Nat} {r : Rl} (h : EntAt w b r) : w.cell? ⟨b, 25, none⟩ = some (.int .i64 r.v3) := h 25 (by omega)
theorem EntAt.c26 {w : World} {b : Nat} {r : Rl} (h : EntAt w b r) : w.cell? ⟨b, 26, none⟩ = some (.int .i64 (topB r.k3 r.v3 r.m3 65535)) := h 26 (by omega)
theorem EntAt.c27 {w : World} {b : Nat} {r : Rl} (h : EntAt w b r) : w.cell? ⟨b, 27, none⟩ = some (.int .i64 r.v4) := h 27 (by omega)
theorem EntAt.c28 {w : World} {b : Nat} {r : Rl} (h : EntAt w b r) : w.cell? ⟨b, 28, none⟩ = some (.int .i64 (topB r.k4 r.v4 r.m4 65535)) := h 28 (by omega)

end Go.Proofs.YtnjalelblbjfiaaGreatDoor
