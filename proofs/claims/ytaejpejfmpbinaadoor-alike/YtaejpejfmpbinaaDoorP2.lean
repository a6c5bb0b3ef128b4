import Derived.Test.YtaejpejfmpbinaaDoorP1
import Derived.Deep.RegionHeld3
import Derived.Deep.LoopGhost
namespace Go.Proofs.YtaejpejfmpbinaaDoor
open Go.RowKit
open Go.Sort (grow)

/-- A rule, by its nineteen numbers. -/
structure Rl where
  id : Int
  pr : Int
  k0 : Int
  v0 : Int
  m0 : Int
  k1 : Int
  v1 : Int
  m1 : Int
  k2 : Int
  v2 : Int
  m2 : Int
  k3 : Int
  v3 : Int
  m3 : Int
  k4 : Int
  v4 : Int
  m4 : Int
  ac : Int
  po : Int

def Rl.cells (r : Rl) : Array Value := #[.int .i64 r.id, .int .i64 r.pr, .int .i64 r.k0, .int .i64 r.v0, .int .i64 r.m0, .int .i64 r.k1, .int .i64 r.v1, .int .i64 r.m1, .int .i64 r.k2, .int .i64 r.v2, .int .i64 r.m2, .int .i64 r.k3, .int .i64 r.v3, .int .i64 r.m3, .int .i64 r.k4, .int .i64 r.v4, .int .i64 r.m4, .int .i64 r.ac, .int .i64 r.po]
/-- An entry's cells: the rule, then the hulls. -/
def Rl.ecells (r : Rl) : Array Value := #[.int .i64 r.id, .int .i64 r.pr, .int .i64 r.k0, .int .i64 r.v0, .int .i64 r.m0, .int .i64 r.k1, .int .i64 r.v1, .int .i64 r.m1, .int .i64 r.k2, .int .i64 r.v2, .int .i64 r.m2, .int .i64 r.k3, .int .i64 r.v3, .int .i64 r.m3, .int .i64 r.k4, .int .i64 r.v4, .int .i64 r.m4, .int .i64 r.ac, .int .i64 r.po, .int .i64 r.v0, .int .i64 (topB r.k0 r.v0 r.m0 4294967295), .int .i64 r.v1, .int .i64 (topB r.k1 r.v1 r.m1 4294967295), .int .i64 r.v2, .int .i64 (topB r.k2 r.v2 r.m2 255), .int .i64 r.v3, .int .i64 (topB r.k3 r.v3 r.m3 65535), .int .i64 r.v4, .int .i64 (topB r.k4 r.v4 r.m4 65535)]
def Rl.ok (r : Rl) : Bool := ruleB r.id r.pr r.k0 r.v0 r.m0 r.k1 r.v1 r.m1 r.k2 r.v2 r.m2 r.k3 r.v3 r.m3 r.k4 r.v4 r.m4 r.ac r.po
/-- Block b is the entry of rule r. -/
def EntAt (w : World) (b : Nat) (r : Rl) : Prop := ∀ i : Nat, i < 30 → w.cell? ⟨b, i, none⟩ = r.ecells[i]?
theorem EntAt.lt {w : World} {b : Nat} {r : Rl} (h : EntAt w b r) : b < w.heap.size := block_lt_of_cell (h 0 (by omega))
theorem EntAt.same {w w' : World} {b : Nat} {r : Rl} (h : EntAt w b r) (hs : w'.heap[b]? = w.heap[b]?) : EntAt w' b r := fun i hi =>
  (World.cell?_of_block (w := w) (a := ⟨b, i, none⟩) hs).trans (h i hi)
theorem EntAt.below {B : Nat} {w w' : World} {b : Nat} {r : Rl} (h : EntAt w b r) (hb : Below B w w') (hB : b < B) : EntAt w' b r := h.same (hb.block b hB)
theorem EntAt.c0 {w : World} {b : Nat} {r : Rl} (h : EntAt w b r) : w.cell? ⟨b, 0, none⟩ = some (.int .i64 r.id) := h 0 (by omega)
theorem EntAt.c1 {w : World} {b : Nat} {r : Rl} (h : EntAt w b r) : w.cell? ⟨b, 1, none⟩ = some (.int .i64 r.pr) := h 1 (by omega)
theorem EntAt.c2 {w : World} {b : Nat} {r : Rl} (h : EntAt w b r) : w.cell? ⟨b, 2, none⟩ = some (.int .i64 r.k0) := h 2 (by omega)
theorem EntAt.c3 {w : World} {b : Nat} {r : Rl} (h : EntAt w b r) : w.cell? ⟨b, 3, none⟩ = some (.int .i64 r.v0) := h 3 (by omega)
theorem EntAt.c4 {w : World} {b : Nat} {r : Rl} (h : EntAt w b r) : w.cell? ⟨b, 4, none⟩ = some (.int .i64 r.m0) := h 4 (by omega)
theorem EntAt.c5 {w : World} {b : Nat} {r : Rl} (h : EntAt w b r) : w.cell? ⟨b, 5, none⟩ = some (.int .i64 r.k1) := h 5 (by omega)
theorem EntAt.c6 {w : World} {b : Nat} {r : Rl} (h : EntAt w b r) : w.cell? ⟨b, 6, none⟩ = some (.int .i64 r.v1) := h 6 (by omega)
theorem EntAt.c7 {w : World} {b : Nat} {r : Rl} (h : EntAt w b r) : w.cell? ⟨b, 7, none⟩ = some (.int .i64 r.m1) := h 7 (by omega)
theorem EntAt.c8 {w : World} {b : Nat} {r : Rl} (h : EntAt w b r) : w.cell? ⟨b, 8, none⟩ = some (.int .i64 r.k2) := h 8 (by omega)
theorem EntAt.c9 {w : World} {b : Nat} {r : Rl} (h : EntAt w b r) : w.cell? ⟨b, 9, none⟩ = some (.int .i64 r.v2) := h 9 (by omega)
theorem EntAt.c10 {w : World} {b : Nat} {r : Rl} (h : EntAt w b r) : w.cell? ⟨b, 10, none⟩ = some (.int .i64 r.m2) := h 10 (by omega)
theorem EntAt.c11 {w : World} {b : Nat} {r : Rl} (h : EntAt w b r) : w.cell? ⟨b, 11, none⟩ = some (.int .i64 r.k3) := h 11 (by omega)
theorem EntAt.c12 {w : World} {b : Nat} {r : Rl} (h : EntAt w b r) : w.cell? ⟨b, 12, none⟩ = some (.int .i64 r.v3) := h 12 (by omega)
theorem EntAt.c13 {w : World} {b : Nat} {r : Rl} (h : EntAt w b r) : w.cell? ⟨b, 13, none⟩ = some (.int .i64 r.m3) := h 13 (by omega)
theorem EntAt.c14 {w : World} {b : Nat} {r : Rl} (h : EntAt w b r) : w.cell? ⟨b, 14, none⟩ = some (.int .i64 r.k4) := h 14 (by omega)
theorem EntAt.c15 {w : World} {b : Nat} {r : Rl} (h : EntAt w b r) : w.cell? ⟨b, 15, none⟩ = some (.int .i64 r.v4) := h 15 (by omega)
theorem EntAt.c16 {w : World} {b : Nat} {r : Rl} (h : EntAt w b r) : w.cell? ⟨b, 16, none⟩ = some (.int .i64 r.m4) := h 16 (by omega)
theorem EntAt.c17 {w : World} {b : Nat} {r : Rl} (h : EntAt w b r) : w.cell? ⟨b, 17, none⟩ = some (.int .i64 r.ac) := h 17 (by omega)
theorem EntAt.c18 {w : World} {b : Nat} {r : Rl} (h : EntAt w b r) : w.cell? ⟨b, 18, none⟩ = some (.int .i64 r.po) := h 18 (by omega)
theorem EntAt.c19 {w : World} {b : Nat} {r : Rl} (h : EntAt w b r) : w.cell? ⟨b, 19, none⟩ = some (.int .i64 r.v0) := h 19 (by omega)
theorem EntAt.c20 {w : World} {b : Nat} {r : Rl} (h : EntAt w b r) : w.cell? ⟨b, 20, none⟩ = some (.int .i64 (topB r.k0 r.v0 r.m0 4294967295)) := h 20 (by omega)
theorem EntAt.c21 {w : World} {b : Nat} {r : Rl} (h : EntAt w b r) : w.cell? ⟨b, 21, none⟩ = some (.int .i64 r.v1) := h 21 (by omega)
theorem EntAt.c22 {w : World} {b : Nat} {r : Rl} (h : EntAt w b r) : w.cell? ⟨b, 22, none⟩ = some (.int .i64 (topB r.k1 r.v1 r.m1 4294967295)) := h 22 (by omega)
theorem EntAt.c23 {w : World} {b : Nat} {r : Rl} (h : EntAt w b r) : w.cell? ⟨b, 23, none⟩ = some (.int .i64 r.v2) := h 23 (by omega)
theorem EntAt.c24 {w : World} {b : Nat} {r : Rl} (h : EntAt w b r) : w.cell? ⟨b, 24, none⟩ = some (.int .i64 (topB r.k2 r.v2 r.m2 255)) := h 24 (by omega)
theorem EntAt.c25 {w : World} {b : Nat} {r : Rl} (h : EntAt w b r) : w.cell? ⟨b, 25, none⟩ = some (.int .i64 r.v3) := h 25 (by omega)
theorem EntAt.c26 {w : World} {b : Nat} {r : Rl} (h : EntAt w b r) : w.cell? ⟨b, 26, none⟩ = some (.int .i64 (topB r.k3 r.v3 r.m3 65535)) := h 26 (by omega)
theorem EntAt.c27 {w : World} {b : Nat} {r : Rl} (h : EntAt w b r) : w.cell? ⟨b, 27, none⟩ = some (.int .i64 r.v4) := h 27 (by omega)
theorem EntAt.c28 {w : World} {b : Nat} {r : Rl} (h : EntAt w b r) : w.cell? ⟨b, 28, none⟩ = some (.int .i64 (topB r.k4 r.v4 r.m4 65535)) := h 28 (by omega)

end Go.Proofs.YtaejpejfmpbinaaDoor

namespace Go.Proofs.YtaejpejfmpbinaaDoor
open Go.RowKit
open Go.Sort (grow)

set_option maxRecDepth 100000 in
set_option maxHeartbeats 400000 in
theorem rank_any (b : Nat) (r : Rl) (w : World) (he : EntAt w b r) :
    Calls Tryd.prog 22 #[.pointer (some ⟨b, 0, none⟩)] w fun e w' => e = .returned (.agg #[.int .i64 r.pr, .int .i64 r.id]) ∧ Below w.heap.size w w' := by
  have c0 := he.c0
  have c1 := he.c1
  have hlt := he.lt
  clear he
  go_enter Tryd.func22, Tryd.ntmps22
  go_wp2
  go_region
  all_goals go_wp2
  all_goals exact bodyPost_ret (v := .agg #[.int .i64 r.pr, .int .i64 r.id]) (by simp [results, Tryd.results22, go_sem]) rfl ⟨rfl, (by repeat (first | exact Below.refl _ _ | assumption | refine Below.drewN ?_ | refine Below.drew ?_ | refine Below.setCell ?_ (by first | exact Nat.le_refl _ | omega | (simp; done) | (simp; omega)) _ | refine Below.alloc ?_ (by first | exact Nat.le_refl _ | omega | (simp; done) | (simp; omega)) _))⟩

end Go.Proofs.YtaejpejfmpbinaaDoor

namespace Go.Proofs.YtaejpejfmpbinaaDoor
open Go.RowKit
open Go.Sort (grow)

def hitB (k v m mx x : Int) : Bool := if k = 0 then bits .and .i64 x m == v else hasB v (topB k v m mx) x

set_option maxRecDepth 100000 in
set_option maxHeartbeats 400000 in
theorem matchesField0 (b : Nat) (r : Rl) (x : Int) (w : World) (he : EntAt w b r) :
    Calls Tryd.prog 66 #[.pointer (some ⟨b, 0, none⟩), .int .i64 0, .int .i64 x] w fun e w' => e = .returned (.bool (hitB r.k0 r.v0 r.m0 4294967295 x)) ∧ Below w.heap.size w w' := by
  have ck := he.c2
  have cv := he.c3
  have cm := he.c4
  have cl := he.c19
  have ch := he.c20
  have hlt := he.lt
  clear he
  by_cases h : r.k0 = 0
  · have hk : (r.k0 == 0) = true := by simp [h]
    go_enter Tryd.func66, Tryd.ntmps66
    go_wp2
    go_ret
    exact ⟨ret_bool (by simp [hitB, h]), (by repeat (first | exact Below.refl _ _ | assumption | refine Below.drewN ?_ | refine Below.drew ?_ | refine Below.setCell ?_ (by first | exact Nat.le_refl _ | omega | (simp; done) | (simp; omega)) _ | refine Below.alloc ?_ (by first | exact Nat.le_refl _ | omega | (simp; done) | (simp; omega)) _))⟩
  · have hk : (r.k0 == 0) = false := by simp [h]
    go_enter Tryd.func66, Tryd.ntmps66
    go_wp2_with (go_at_call 65; refine (sHas_any _ _ _ _).mono ?_; rintro e w' ⟨rfl, hb⟩)
    go_ret
    exact ⟨ret_bool (by simp [hitB, h]), Below.trans (by repeat (first | exact Below.refl _ _ | assumption | refine Below.drewN ?_ | refine Below.drew ?_ | refine Below.setCell ?_ (by first | exact Nat.le_refl _ | omega | (simp; done) | (simp; omega)) _ | refine Below.alloc ?_ (by first | exact Nat.le_refl _ | omega | (simp; done) | (simp; omega)) _)) (hb.mono (by first | exact Nat.le_refl _ | omega | (simp; done) | (simp; omega)))⟩

set_option maxRecDepth 100000 in
set_option maxHeartbeats 400000 in
theorem matchesField1 (b : Nat) (r : Rl) (x : Int) (w : World) (he : EntAt w b r) :
    Calls Tryd.prog 66 #[.pointer (some ⟨b, 0, none⟩), .int .i64 1, .int .i64 x] w fun e w' => e = .returned (.bool (hitB r.k1 r.v1 r.m1 4294967295 x)) ∧ Below w.heap.size w w' := by
  have ck := he.c5
  have cv := he.c6
  have cm := he.c7
  have cl := he.c21
  have ch := he.c22
  have hlt := he.lt
  clear he
  by_cases h : r.k1 = 0
  · have hk : (r.k1 == 0) = true := by simp [h]
    go_enter Tryd.func66, Tryd.ntmps66
    go_wp2
    go_ret
    exact ⟨ret_bool (by simp [hitB, h]), (by repeat (first | exact Below.refl _ _ | assumption | refine Below.drewN ?_ | refine Below.drew ?_ | refine Below.setCell ?_ (by first | exact Nat.le_refl _ | omega | (simp; done) | (simp; omega)) _ | refine Below.alloc ?_ (by first | exact Nat.le_refl _ | omega | (simp; done) | (simp; omega)) _))⟩
  · have hk : (r.k1 == 0) = false := by simp [h]
    go_enter Tryd.func66, Tryd.ntmps66
    go_wp2_with (go_at_call 65; refine (sHas_any _ _ _ _).mono ?_; rintro e w' ⟨rfl, hb⟩)
    go_ret
    exact ⟨ret_bool (by simp [hitB, h]), Below.trans (by repeat (first | exact Below.refl _ _ | assumption | refine Below.drewN ?_ | refine Below.drew ?_ | refine Below.setCell ?_ (by first | exact Nat.le_refl _ | omega | (simp; done) | (simp; omega)) _ | refine Below.alloc ?_ (by first | exact Nat.le_refl _ | omega | (simp; done) | (simp; omega)) _)) (hb.mono (by first | exact Nat.le_refl _ | omega | (simp; done) | (simp; omega)))⟩

set_option maxRecDepth 100000 in
set_option maxHeartbeats 400000 in
theorem matchesField2 (b : Nat) (r : Rl) (x : Int) (w : World) (he : EntAt w b r) :
    Calls Tryd.prog 66 #[.pointer (some ⟨b, 0, none⟩), .int .i64 2, .int .i64 x] w fun e w' => e = .returned (.bool (hitB r.k2 r.v2 r.m2 255 x)) ∧ Below w.heap.size w w' := by
  have ck := he.c8
  have cv := he.c9
  have cm := he.c10
  have cl := he.c23
  have ch := he.c24
  have hlt := he.lt
  clear he
  by_cases h : r.k2 = 0
  · have hk : (r.k2 == 0) = true := by simp [h]
    go_enter Tryd.func66, Tryd.ntmps66
    go_wp2
    go_ret
    exact ⟨ret_bool (by simp [hitB, h]), (by repeat (first | exact Below.refl _ _ | assumption | refine Below.drewN ?_ | refine Below.drew ?_ | refine Below.setCell ?_ (by first | exact Nat.le_refl _ | omega | (simp; done) | (simp; omega)) _ | refine Below.alloc ?_ (by first | exact Nat.le_refl _ | omega | (simp; done) | (simp; omega)) _))⟩
  · have hk : (r.k2 == 0) = false := by simp [h]
    go_enter Tryd.func66, Tryd.ntmps66
    go_wp2_with (go_at_call 65; refine (sHas_any _ _ _ _).mono ?_; rintro e w' ⟨rfl, hb⟩)
    go_ret
    exact ⟨ret_bool (by simp [hitB, h]), Below.trans (by repeat (first | exact Below.refl _ _ | assumption | refine Below.drewN ?_ | refine Below.drew ?_ | refine Below.setCell ?_ (by first | exact Nat.le_refl _ | omega | (simp; done) | (simp; omega)) _ | refine Below.alloc ?_ (by first | exact Nat.le_refl _ | omega | (simp; done) | (simp; omega)) _)) (hb.mono (by first | exact Nat.le_refl _ | omega | (simp; done) | (simp; omega)))⟩

set_option maxRecDepth 100000 in
set_option maxHeartbeats 400000 in
theorem matchesField3 (b : Nat) (r : Rl) (x : Int) (w : World) (he : EntAt w b r) :
    Calls Tryd.prog 66 #[.pointer (some ⟨b, 0, none⟩), .int .i64 3, .int .i64 x] w fun e w' => e = .returned (.bool (hitB r.k3 r.v3 r.m3 65535 x)) ∧ Below w.heap.size w w' := by
  have ck := he.c11
  have cv := he.c12
  have cm := he.c13
  have cl := he.c25
  have ch := he.c26
  have hlt := he.lt
  clear he
  by_cases h : r.k3 = 0
  · have hk : (r.k3 == 0) = true := by simp [h]
    go_enter Tryd.func66, Tryd.ntmps66
    go_wp2
    go_ret
    exact ⟨ret_bool (by simp [hitB, h]), (by repeat (first | exact Below.refl _ _ | assumption | refine Below.drewN ?_ | refine Below.drew ?_ | refine Below.setCell ?_ (by first | exact Nat.le_refl _ | omega | (simp; done) | (simp; omega)) _ | refine Below.alloc ?_ (by first | exact Nat.le_refl _ | omega | (simp; done) | (simp; omega)) _))⟩
  · have hk : (r.k3 == 0) = false := by simp [h]
    go_enter Tryd.func66, Tryd.ntmps66
    go_wp2_with (go_at_call 65; refine (sHas_any _ _ _ _).mono ?_; rintro e w' ⟨rfl, hb⟩)
    go_ret
    exact ⟨ret_bool (by simp [hitB, h]), Below.trans (by repeat (first | exact Below.refl _ _ | assumption | refine Below.drewN ?_ | refine Below.drew ?_ | refine Below.setCell ?_ (by first | exact Nat.le_refl _ | omega | (simp; done) | (simp; omega)) _ | refine Below.alloc ?_ (by first | exact Nat.le_refl _ | omega | (simp; done) | (simp; omega)) _)) (hb.mono (by first | exact Nat.le_refl _ | omega | (simp; done) | (simp; omega)))⟩

set_option maxRecDepth 100000 in
set_option maxHeartbeats 400000 in
theorem matchesField4 (b : Nat) (r : Rl) (x : Int) (w : World) (he : EntAt w b r) :
    Calls Tryd.prog 66 #[.pointer (some ⟨b, 0, none⟩), .int .i64 4, .int .i64 x] w fun e w' => e = .returned (.bool (hitB r.k4 r.v4 r.m4 65535 x)) ∧ Below w.heap.size w w' := by
  have ck := he.c14
  have cv := he.c15
  have cm := he.c16
  have cl := he.c27
  have ch := he.c28
  have hlt := he.lt
  clear he
  by_cases h : r.k4 = 0
  · have hk : (r.k4 == 0) = true := by simp [h]
    go_enter Tryd.func66, Tryd.ntmps66
    go_wp2
    go_ret
    exact ⟨ret_bool (by simp [hitB, h]), (by repeat (first | exact Below.refl _ _ | assumption | refine Below.drewN ?_ | refine Below.drew ?_ | refine Below.setCell ?_ (by first | exact Nat.le_refl _ | omega | (simp; done) | (simp; omega)) _ | refine Below.alloc ?_ (by first | exact Nat.le_refl _ | omega | (simp; done) | (simp; omega)) _))⟩
  · have hk : (r.k4 == 0) = false := by simp [h]
    go_enter Tryd.func66, Tryd.ntmps66
    go_wp2_with (go_at_call 65; refine (sHas_any _ _ _ _).mono ?_; rintro e w' ⟨rfl, hb⟩)
    go_ret
    exact ⟨ret_bool (by simp [hitB, h]), Below.trans (by repeat (first | exact Below.refl _ _ | assumption | refine Below.drewN ?_ | refine Below.drew ?_ | refine Below.setCell ?_ (by first | exact Nat.le_refl _ | omega | (simp; done) | (simp; omega)) _ | refine Below.alloc ?_ (by first | exact Nat.le_refl _ | omega | (simp; done) | (simp; omega)) _)) (hb.mono (by first | exact Nat.le_refl _ | omega | (simp; done) | (simp; omega)))⟩

def Rl.hits (r : Rl) (x0 x1 x2 x3 x4 : Int) : Bool := hitB r.k0 r.v0 r.m0 4294967295 x0 && (hitB r.k1 r.v1 r.m1 4294967295 x1 && (hitB r.k2 r.v2 r.m2 255 x2 && (hitB r.k3 r.v3 r.m3 65535 x3 && (hitB r.k4 r.v4 r.m4 65535 x4))))

end Go.Proofs.YtaejpejfmpbinaaDoor

namespace Go.Proofs.YtaejpejfmpbinaaDoor
open Go.RowKit
attribute [local go_sem] ixKey0 ixKey1 ixKey2 ixKey3 ixKey4

set_option maxRecDepth 100000 in
set_option maxHeartbeats 400000 in
theorem matches_any (b : Nat) (r : Rl) (x0 x1 x2 x3 x4 : Int) (w : World) (he : EntAt w b r) :
    Calls Tryd.prog 51 #[.pointer (some ⟨b, 0, none⟩), .agg #[.int .i64 x0, .int .i64 x1, .int .i64 x2, .int .i64 x3, .int .i64 x4]] w fun e w' => e = .returned (.bool (r.hits x0 x1 x2 x3 x4)) ∧ Below w.heap.size w w' := by
  have hlt := he.lt
  go_enter Tryd.func51, Tryd.ntmps51
  go_wp2
  go_loopw [8] (fun i wr => ∃ k : Nat, k ≤ 5 ∧ i = .int .i64 k ∧ Below w.heap.size w wr ∧ (0 < k → hitB r.k0 r.v0 r.m0 4294967295 x0 = true) ∧ (1 < k → hitB r.k1 r.v1 r.m1 4294967295 x1 = true) ∧ (2 < k → hitB r.k2 r.v2 r.m2 255 x2 = true) ∧ (3 < k → hitB r.k3 r.v3 r.m3 65535 x3 = true) ∧ (4 < k → hitB r.k4 r.v4 r.m4 65535 x4 = true)) (fun i _ => 5 - (intOf i).toNat)
  case atStart => exact ⟨0, by omega, rfl, (by repeat (first | exact Below.refl _ _ | assumption | refine Below.drewN ?_ | refine Below.drew ?_ | refine Below.setCell ?_ (by first | exact Nat.le_refl _ | omega | (simp; done) | (simp; omega)) _ | refine Below.alloc ?_ (by first | exact Nat.le_refl _ | omega | (simp; done) | (simp; omega)) _)), by omega, by omega, by omega, by omega, by omega⟩
  case round =>
    obtain ⟨k, hk, rfl, hb, h0, h1, h2, h3, h4⟩ := hrel
    have he' := he.below hb hlt
    clear he
    match k, hk with
    | 0, _ =>
      go_wp2_with (go_at_call 66; refine (matchesField0 b r _ _ he').mono ?_; rintro e w' ⟨rfl, hb'⟩; generalize hq : hitB r.k0 r.v0 r.m0 4294967295 x0 = q at *; cases q)
      · go_ret
        exact ⟨ret_bool (by simp [Rl.hits, *]), hb.trans (hb'.mono hb.size)⟩
      · go_roundw
        case rel => exact ⟨1, by omega, rfl, hb.trans (hb'.mono hb.size), fun _ => hq, by omega, by omega, by omega, by omega⟩
        case measure => simp [intOf]
    | 1, _ =>
      go_wp2_with (go_at_call 66; refine (matchesField1 b r _ _ he').mono ?_; rintro e w' ⟨rfl, hb'⟩; generalize hq : hitB r.k1 r.v1 r.m1 4294967295 x1 = q at *; cases q)
      · go_ret
        exact ⟨ret_bool (by simp [Rl.hits, *]), hb.trans (hb'.mono hb.size)⟩
      · go_roundw
        case rel => exact ⟨2, by omega, rfl, hb.trans (hb'.mono hb.size), fun _ => h0 (by omega), fun _ => hq, by omega, by omega, by omega⟩
        case measure => simp [intOf]
    | 2, _ =>
      go_wp2_with (go_at_call 66; refine (matchesField2 b r _ _ he').mono ?_; rintro e w' ⟨rfl, hb'⟩; generalize hq : hitB r.k2 r.v2 r.m2 255 x2 = q at *; cases q)
      · go_ret
        exact ⟨ret_bool (by simp [Rl.hits, *]), hb.trans (hb'.mono hb.size)⟩
      · go_roundw
        case rel => exact ⟨3, by omega, rfl, hb.trans (hb'.mono hb.size), fun _ => h0 (by omega), fun _ => h1 (by omega), fun _ => hq, by omega, by omega⟩
        case measure => simp [intOf]
    | 3, _ =>
      go_wp2_with (go_at_call 66; refine (matchesField3 b r _ _ he').mono ?_; rintro e w' ⟨rfl, hb'⟩; generalize hq : hitB r.k3 r.v3 r.m3 65535 x3 = q at *; cases q)
      · go_ret
        exact ⟨ret_bool (by simp [Rl.hits, *]), hb.trans (hb'.mono hb.size)⟩
      · go_roundw
        case rel => exact ⟨4, by omega, rfl, hb.trans (hb'.mono hb.size), fun _ => h0 (by omega), fun _ => h1 (by omega), fun _ => h2 (by omega), fun _ => hq, by omega⟩
        case measure => simp [intOf]
    | 4, _ =>
      go_wp2_with (go_at_call 66; refine (matchesField4 b r _ _ he').mono ?_; rintro e w' ⟨rfl, hb'⟩; generalize hq : hitB r.k4 r.v4 r.m4 65535 x4 = q at *; cases q)
      · go_ret
        exact ⟨ret_bool (by simp [Rl.hits, *]), hb.trans (hb'.mono hb.size)⟩
      · go_roundw
        case rel => exact ⟨5, by omega, rfl, hb.trans (hb'.mono hb.size), fun _ => h0 (by omega), fun _ => h1 (by omega), fun _ => h2 (by omega), fun _ => h3 (by omega), fun _ => hq⟩
        case measure => simp [intOf]
    | 5, _ =>
      go_wp2
      go_ret
      exact ⟨ret_bool (by simp [Rl.hits, h0 (by omega), h1 (by omega), h2 (by omega), h3 (by omega), h4 (by omega)]), hb⟩

end Go.Proofs.YtaejpejfmpbinaaDoor

namespace Go.Proofs.YtaejpejfmpbinaaDoor
open Go.RowKit

theorem hide {p : Prop} (h : p) : Hid p := h

/-- An entry: its block, its rule. -/
abbrev Ent := Nat × Rl
def ptrO (o : Option Ent) : Value := .pointer (o.map fun e => ⟨e.1, 0, none⟩)
theorem ptrO_some (e : Ent) : ptrO (some e) = .pointer (some ⟨e.1, 0, none⟩) := rfl
theorem ptrO_none : ptrO none = .pointer none := rfl

/-- Does a rule of rank a stand ahead of one of rank b? -/
def Rl.before (a b : Rl) : Bool := decide (cmpR a.pr a.id b.pr b.id < 0)

/-- A slice value reads as this list of entries. -/
def BunchAt (w : World) (v : Value) (es : List Ent) : Prop :=
  ∃ (a : Option Addr) (cap : Nat), v = .slice a es.length cap ∧ (∀ i (h : i < es.length), ∃ b off, (a = some ⟨b, off, none⟩ ∧ off = 0) ∧ w.cell? ⟨b, off + i, none⟩ = some (.pointer (some ⟨es[i].1, 0, none⟩))) ∧ ∀ e ∈ es, EntAt w e.1 e.2

def firstE (x0 x1 x2 x3 x4 : Int) (best : Option Ent) : List Ent → Option Ent
  | [] => best
  | e :: t => if (best.any fun b => b.2.before e.2) then best else if e.2.hits x0 x1 x2 x3 x4 then some e else firstE x0 x1 x2 x3 x4 best t

theorem BunchAt.below {B : Nat} {w w' : World} {v : Value} {es : List Ent} (h : BunchAt w v es) (hb : Below B w w') (hB : w.heap.size ≤ B) : BunchAt w' v es := by
  obtain ⟨a, cap, hv, hc, he⟩ := h
  refine ⟨a, cap, hv, fun i hi => ?_, fun e hm => (he e hm).below hb (Nat.lt_of_lt_of_le (he e hm).lt hB)⟩
  obtain ⟨b, off, ha, h⟩ := hc i hi
  exact ⟨b, off, ha, (hb.cell (p := ⟨b, off + i, none⟩) (Nat.lt_of_lt_of_le (block_lt_of_cell h) hB)).trans h⟩

set_option maxRecDepth 100000 in
set_option maxHeartbeats 400000 in
theorem first_any (v : Value) (es : List Ent) (x0 x1 x2 x3 x4 : Int) (best : Option Ent) (w : World) (hes : BunchAt w v es) (hn : es.length ≤ 200) (hbest : ∀ e ∈ best, EntAt w e.1 e.2) :
    Calls Tryd.prog 32 #[v, .agg #[.int .i64 x0, .int .i64 x1, .int .i64 x2, .int .i64 x3, .int .i64 x4], ptrO best] w fun e w' => e = .returned (ptrO (firstE x0 x1 x2 x3 x4 best es)) ∧ Below w.heap.size w w' := by
  obtain ⟨a, cap, rfl, hc, he⟩ := hes
  cases best with
  | none =>
    rw [ptrO_none]
    go_enter Tryd.func32, Tryd.ntmps32
    go_wp2
    go_loopw [11] (fun i wr => ∃ k : Nat, k ≤ es.length ∧ i = .int .i64 k ∧ Below w.heap.size w wr ∧ w.heap.size < wr.heap.size ∧ wr.cell? ⟨w.heap.size, 0, none⟩ = some (.int .i64 x0) ∧ wr.cell? ⟨w.heap.size, 1, none⟩ = some (.int .i64 x1) ∧ wr.cell? ⟨w.heap.size, 2, none⟩ = some (.int .i64 x2) ∧ wr.cell? ⟨w.heap.size, 3, none⟩ = some (.int .i64 x3) ∧ wr.cell? ⟨w.heap.size, 4, none⟩ = some (.int .i64 x4) ∧ firstE x0 x1 x2 x3 x4 none (es.drop k) = firstE x0 x1 x2 x3 x4 none es) (fun i _ => es.length - (intOf i).toNat)
    case atStart => exact ⟨0, by omega, rfl, (by repeat (first | exact Below.refl _ _ | assumption | refine Below.drewN ?_ | refine Below.drew ?_ | refine Below.setCell ?_ (by first | exact Nat.le_refl _ | omega | (simp; done) | (simp; omega)) _ | refine Below.alloc ?_ (by first | exact Nat.le_refl _ | omega | (simp; done) | (simp; omega)) _)), by simp, by simp, by simp, by simp, by simp, by simp, by simp⟩
    case round =>
      obtain ⟨k, hk, rfl, hb, hlt, c0, c1, c2, c3, c4, hr⟩ := hrel
      have HR := hide hr
      clear hr
      by_cases hkl : k < es.length
      · obtain ⟨ab, off, ⟨rfl, hz00⟩, hcell⟩ := hc k hkl
        clear hz00
        have hcell' : wr.cell? ⟨ab, off + k, none⟩ = some (.pointer (some ⟨es[k].1, 0, none⟩)) := (hb.cell (p := ⟨ab, off + k, none⟩) (block_lt_of_cell hcell)).trans hcell
        have hek := (he es[k] (List.getElem_mem hkl)).below hb (he es[k] (List.getElem_mem hkl)).lt
        have hdrop : es.drop k = es[k] :: es.drop (k + 1) := List.drop_eq_getElem_cons hkl
        generalize hee : es[k] = ek at *
        have HD := hide hdrop
        clear hdrop hee hcell hc he
        clear hbest
        go_wp2_with fail
        refine (matches_any ek.1 ek.2 _ _ _ _ _ _ hek).mono ?_
        rintro e w4 ⟨rfl, hb14⟩
        generalize hq : ek.2.hits x0 x1 x2 x3 x4 = q at *
        have HQ := hide hq
        clear hq
        cases q
        · go_wp2
          go_roundw
          case rel => exact ⟨k + 1, by omega, by go_num, hb.trans (hb14.mono hb.size), Nat.lt_of_lt_of_le hlt hb14.size, cell_later hb14 c0, cell_later hb14 c1, cell_later hb14 c2, cell_later hb14 c3, cell_later hb14 c4, by rw [← HR.out, HD.out]; simp [firstE, HQ.out]⟩
          case measure => simp [intOf]; omega
        · go_wp2
          go_ret
          refine ⟨?_, hb.trans (hb14.mono hb.size)⟩
          rw [← HR.out, HD.out]
          simp [firstE, HQ.out, ptrO]
      · clear hc he
        go_wp2
        go_ret
        refine ⟨?_, hb⟩
        rw [← HR.out, List.drop_of_length_le (by omega)]
        simp [firstE, ptrO]
  | some bst =>
    have hbst := hbest bst rfl
    rw [ptrO_some]
    go_enter Tryd.func32, Tryd.ntmps32
    go_wp2
    go_loopw [11] (fun i wr => ∃ k : Nat, k ≤ es.length ∧ i = .int .i64 k ∧ Below w.heap.size w wr ∧ w.heap.size < wr.heap.size ∧ wr.cell? ⟨w.heap.size, 0, none⟩ = some (.int .i64 x0) ∧ wr.cell? ⟨w.heap.size, 1, none⟩ = some (.int .i64 x1) ∧ wr.cell? ⟨w.heap.size, 2, none⟩ = some (.int .i64 x2) ∧ wr.cell? ⟨w.heap.size, 3, none⟩ = some (.int .i64 x3) ∧ wr.cell? ⟨w.heap.size, 4, none⟩ = some (.int .i64 x4) ∧ firstE x0 x1 x2 x3 x4 (some bst) (es.drop k) = firstE x0 x1 x2 x3 x4 (some bst) es) (fun i _ => es.length - (intOf i).toNat)
    case atStart => exact ⟨0, by omega, rfl, (by repeat (first | exact Below.refl _ _ | assumption | refine Below.drewN ?_ | refine Below.drew ?_ | refine Below.setCell ?_ (by first | exact Nat.le_refl _ | omega | (simp; done) | (simp; omega)) _ | refine Below.alloc ?_ (by first | exact Nat.le_refl _ | omega | (simp; done) | (simp; omega)) _)), by simp, by simp, by simp, by simp, by simp, by simp, by simp⟩
    case round =>
      obtain ⟨k, hk, rfl, hb, hlt, c0, c1, c2, c3, c4, hr⟩ := hrel
      have HR := hide hr
      clear hr
      by_cases hkl : k < es.length
      · obtain ⟨ab, off, ⟨rfl, hz00⟩, hcell⟩ := hc k hkl
        clear hz00
        have hcell' : wr.cell? ⟨ab, off + k, none⟩ = some (.pointer (some ⟨es[k].1, 0, none⟩)) := (hb.cell (p := ⟨ab, off + k, none⟩) (block_lt_of_cell hcell)).trans hcell
        have hek := (he es[k] (List.getElem_mem hkl)).below hb (he es[k] (List.getElem_mem hkl)).lt
        have hdrop : es.drop k = es[k] :: es.drop (k + 1) := List.drop_eq_getElem_cons hkl
        generalize hee : es[k] = ek at *
        have HD := hide hdrop
        clear hdrop hee hcell hc he
        have hbb := hbst.below hb hbst.lt
        clear hbest
        go_wp2_with fail
        refine (rank_any bst.1 bst.2 _ hbb).mono ?_
        rintro e w1 ⟨rfl, hb1⟩
        go_wp2_with fail
        refine (rank_any ek.1 ek.2 _ (hek.below hb1 hek.lt)).mono ?_
        rintro e w2 ⟨rfl, hb2⟩
        go_wp2_with fail
        refine (compare_any _ _ _ _ _).mono ?_
        rintro e w3 ⟨rfl, hb3⟩
        have hb13 : Below wr.heap.size wr w3 := (hb1.trans (hb2.mono hb1.size)).trans (hb3.mono (Nat.le_trans hb1.size hb2.size))
        have hlt' : w.heap.size < w3.heap.size := Nat.lt_of_lt_of_le hlt hb13.size
        have d0 := cell_later hb13 c0
        have d1 := cell_later hb13 c1
        have d2 := cell_later hb13 c2
        have d3 := cell_later hb13 c3
        have d4 := cell_later hb13 c4
        clear hb1 hb2 hb3 w1 w2 hbb
        by_cases hbf : cmpR bst.2.pr bst.2.id ek.2.pr ek.2.id < 0
        · go_wp2
          go_ret
          refine ⟨?_, hb.trans (hb13.mono hb.size)⟩
          rw [← HR.out, HD.out]
          simp [firstE, Rl.before, hbf, ptrO]
        · have hbf' : bst.2.before ek.2 = false := by simp only [Rl.before]; exact decide_eq_false hbf
          have HF := hide hbf'
          clear hbf'
          go_wp2_with fail
          refine (matches_any ek.1 ek.2 _ _ _ _ _ _ (hek.below hb13 hek.lt)).mono ?_
          rintro e w4 ⟨rfl, hb4⟩
          have hb14 : Below wr.heap.size wr w4 := hb13.trans (hb4.mono hb13.size)
          generalize hq : ek.2.hits x0 x1 x2 x3 x4 = q at *
          have HQ := hide hq
          clear hq
          cases q
          · go_wp2
            go_roundw
            case rel => exact ⟨k + 1, by omega, by go_num, hb.trans (hb14.mono hb.size), Nat.lt_of_lt_of_le hlt hb14.size, cell_later hb14 c0, cell_later hb14 c1, cell_later hb14 c2, cell_later hb14 c3, cell_later hb14 c4, by rw [← HR.out, HD.out]; simp [firstE, HF.out, HQ.out]⟩
            case measure => simp [intOf]; omega
          · go_wp2
            go_ret
            refine ⟨?_, hb.trans (hb14.mono hb.size)⟩
            rw [← HR.out, HD.out]
            simp [firstE, HF.out, HQ.out, ptrO]
      · clear hc he
        go_wp2
        go_ret
        refine ⟨?_, hb⟩
        rw [← HR.out, List.drop_of_length_le (by omega)]
        simp [firstE, ptrO]

end Go.Proofs.YtaejpejfmpbinaaDoor

namespace Go.Proofs.YtaejpejfmpbinaaDoor
open Go.RowKit

/-- The hull's ends in a field. -/
def Rl.lo (r : Rl) (f : Nat) : Int := match f with | 0 => r.v0 | 1 => r.v1 | 2 => r.v2 | 3 => r.v3 | _ => r.v4
def Rl.hi (r : Rl) (f : Nat) : Int := match f with | 0 => topB r.k0 r.v0 r.m0 4294967295 | 1 => topB r.k1 r.v1 r.m1 4294967295 | 2 => topB r.k2 r.v2 r.m2 255 | 3 => topB r.k3 r.v3 r.m3 65535 | _ => topB r.k4 r.v4 r.m4 65535

/-- At block b lies a tree over these entries, of this depth at most: a leaf, or a cut with a tree on either side. -/
def TreeAt (w : World) : Nat → Nat → List Ent → Prop
  | 0, b, es => ∃ v, BunchAt w v es ∧ w.cell? ⟨b, 0, none⟩ = some v ∧ w.cell? ⟨b, 3, none⟩ = some (.pointer none)
  | n + 1, b, es => (∃ v, BunchAt w v es ∧ w.cell? ⟨b, 0, none⟩ = some v ∧ w.cell? ⟨b, 3, none⟩ = some (.pointer none)) ∨
      ∃ (f : Nat) (last : Int) (bl bh : Nat), f < 5 ∧ w.cell? ⟨b, 1, none⟩ = some (.int .i64 f) ∧ w.cell? ⟨b, 2, none⟩ = some (.int .i64 last) ∧ w.cell? ⟨b, 3, none⟩ = some (.pointer (some ⟨bl, 0, none⟩)) ∧ w.cell? ⟨b, 4, none⟩ = some (.pointer (some ⟨bh, 0, none⟩)) ∧
        TreeAt w n bl (es.filter fun e => decide (e.2.lo f ≤ last)) ∧ TreeAt w n bh (es.filter fun e => decide (last < e.2.hi f))

theorem TreeAt.below {B : Nat} {w w' : World} (hb : Below B w w') (hB : w.heap.size ≤ B) : ∀ {n b : Nat} {es : List Ent}, TreeAt w n b es → TreeAt w' n b es := by
  have hc : ∀ {b i : Nat} {v : Value}, w.cell? ⟨b, i, none⟩ = some v → w'.cell? ⟨b, i, none⟩ = some v := fun {b i v} h =>
    (hb.cell (p := ⟨b, i, none⟩) (Nat.lt_of_lt_of_le (block_lt_of_cell h) hB)).trans h
  intro n
  induction n with
  | zero => rintro b es ⟨v, h1, h2, h3⟩; exact ⟨v, h1.below hb hB, hc h2, hc h3⟩
  | succ n ih =>
    rintro b es (⟨v, h1, h2, h3⟩ | ⟨f, last, bl, bh, hf, h1, h2, h3, h4, h5, h6⟩)
    · exact .inl ⟨v, h1.below hb hB, hc h2, hc h3⟩
    · exact .inr ⟨f, last, bl, bh, hf, hc h1, hc h2, hc h3, hc h4, ih h5, ih h6⟩

theorem TreeAt.cases {w : World} {n b : Nat} {es : List Ent} (h : TreeAt w n b es) : (∃ v, BunchAt w v es ∧ w.cell? ⟨b, 0, none⟩ = some v ∧ w.cell? ⟨b, 3, none⟩ = some (.pointer none)) ∨
      ∃ (n' f : Nat) (last : Int) (bl bh : Nat), n = n' + 1 ∧ f < 5 ∧ w.cell? ⟨b, 1, none⟩ = some (.int .i64 f) ∧ w.cell? ⟨b, 2, none⟩ = some (.int .i64 last) ∧ w.cell? ⟨b, 3, none⟩ = some (.pointer (some ⟨bl, 0, none⟩)) ∧ w.cell? ⟨b, 4, none⟩ = some (.pointer (some ⟨bh, 0, none⟩)) ∧
        TreeAt w n' bl (es.filter fun e => decide (e.2.lo f ≤ last)) ∧ TreeAt w n' bh (es.filter fun e => decide (last < e.2.hi f)) := by
  cases n with
  | zero => exact .inl h
  | succ n =>
    rcases h with h | ⟨f, last, bl, bh, h⟩
    · exact .inl h
    · exact .inr ⟨n, f, last, bl, bh, rfl, h⟩

/-- A key's field. -/
def fld (x0 x1 x2 x3 x4 : Int) (f : Nat) : Int := match f with | 0 => x0 | 1 => x1 | 2 => x2 | 3 => x3 | _ => x4
def Rl.inHull (r : Rl) (x : Nat → Int) : Prop := ∀ f, f < 5 → r.lo f ≤ x f ∧ x f ≤ r.hi f

/-- The way down from block b, for a key's fields x, ends at a leaf that holds v. -/
def LeafIs (w : World) (x : Nat → Int) (v : Value) : Nat → Nat → Prop
  | 0, b => w.cell? ⟨b, 0, none⟩ = some v ∧ w.cell? ⟨b, 3, none⟩ = some (.pointer none)
  | n + 1, b => (w.cell? ⟨b, 0, none⟩ = some v ∧ w.cell? ⟨b, 3, none⟩ = some (.pointer none)) ∨
      ∃ (f : Nat) (last : Int) (bl bh : Nat), f < 5 ∧ w.cell? ⟨b, 1, none⟩ = some (.int .i64 f) ∧ w.cell? ⟨b, 2, none⟩ = some (.int .i64 last) ∧ w.cell? ⟨b, 3, none⟩ = some (.pointer (some ⟨bl, 0, none⟩)) ∧ w.cell? ⟨b, 4, none⟩ = some (.pointer (some ⟨bh, 0, none⟩)) ∧
        ((x f ≤ last ∧ LeafIs w x v n bl) ∨ (last < x f ∧ LeafIs w x v n bh))

theorem LeafIs.below {B : Nat} {w w' : World} {x : Nat → Int} {v : Value} (hb : Below B w w') (hB : w.heap.size ≤ B) : ∀ {n b : Nat}, LeafIs w x v n b → LeafIs w' x v n b := by
  have hc : ∀ {b i : Nat} {v : Value}, w.cell? ⟨b, i, none⟩ = some v → w'.cell? ⟨b, i, none⟩ = some v := fun {b i v} h =>
    (hb.cell (p := ⟨b, i, none⟩) (Nat.lt_of_lt_of_le (block_lt_of_cell h) hB)).trans h
  intro n
  induction n with
  | zero => rintro b ⟨h2, h3⟩; exact ⟨hc h2, hc h3⟩
  | succ n ih =>
    rintro b (⟨h2, h3⟩ | ⟨f, last, bl, bh, hf, h1, h2, h3, h4, h5⟩)
    · exact .inl ⟨hc h2, hc h3⟩
    · refine .inr ⟨f, last, bl, bh, hf, hc h1, hc h2, hc h3, hc h4, ?_⟩
      rcases h5 with ⟨h5, h6⟩ | ⟨h5, h6⟩
      · exact .inl ⟨h5, ih h6⟩
      · exact .inr ⟨h5, ih h6⟩

theorem LeafIs.cases {w : World} {x : Nat → Int} {v : Value} {n b : Nat} (h : LeafIs w x v n b) : (w.cell? ⟨b, 0, none⟩ = some v ∧ w.cell? ⟨b, 3, none⟩ = some (.pointer none)) ∨
      ∃ (n' f : Nat) (last : Int) (bl bh : Nat), n = n' + 1 ∧ f < 5 ∧ w.cell? ⟨b, 1, none⟩ = some (.int .i64 f) ∧ w.cell? ⟨b, 2, none⟩ = some (.int .i64 last) ∧ w.cell? ⟨b, 3, none⟩ = some (.pointer (some ⟨bl, 0, none⟩)) ∧ w.cell? ⟨b, 4, none⟩ = some (.pointer (some ⟨bh, 0, none⟩)) ∧
        ((x f ≤ last ∧ LeafIs w x v n' bl) ∨ (last < x f ∧ LeafIs w x v n' bh)) := by
  cases n with
  | zero => exact .inl h
  | succ n =>
    rcases h with h | ⟨f, last, bl, bh, h⟩
    · exact .inl h
    · exact .inr ⟨n, f, last, bl, bh, rfl, h⟩

/-- A tree's leaf for a key has, in order, all entries in whose hull the key lies. -/
theorem TreeAt.leaf {w : World} (x : Nat → Int) : ∀ {n b : Nat} {es : List Ent}, TreeAt w n b es → ∃ v bs, LeafIs w x v n b ∧ BunchAt w v bs ∧ bs.Sublist es ∧ ∀ e ∈ es, e.2.inHull x → e ∈ bs := by
  intro n
  induction n with
  | zero =>
    rintro b es ⟨v, h1, h2, h3⟩
    exact ⟨v, es, ⟨h2, h3⟩, h1, List.Sublist.refl _, fun _ h _ => h⟩
  | succ n ih =>
    rintro b es (⟨v, h1, h2, h3⟩ | ⟨f, last, bl, bh, hf, h1, h2, h3, h4, h5, h6⟩)
    · exact ⟨v, es, .inl ⟨h2, h3⟩, h1, List.Sublist.refl _, fun _ h _ => h⟩
    · by_cases hle : x f ≤ last
      · obtain ⟨v, bs, k1, k2, k3, k4⟩ := ih h5
        refine ⟨v, bs, .inr ⟨f, last, bl, bh, hf, h1, h2, h3, h4, .inl ⟨hle, k1⟩⟩, k2, k3.trans List.filter_sublist, fun e he hh => k4 e ?_ hh⟩
        simp only [List.mem_filter, decide_eq_true_eq]
        exact ⟨he, Int.le_trans (hh f hf).1 hle⟩
      · obtain ⟨v, bs, k1, k2, k3, k4⟩ := ih h6
        refine ⟨v, bs, .inr ⟨f, last, bl, bh, hf, h1, h2, h3, h4, .inr ⟨by omega, k1⟩⟩, k2, k3.trans List.filter_sublist, fun e he hh => k4 e ?_ hh⟩
        simp only [List.mem_filter, decide_eq_true_eq]
        exact ⟨he, by have := (hh f hf).2; omega⟩

set_option maxRecDepth 100000 in
set_option maxHeartbeats 400000 in
theorem leaf_any (pb : Nat) (x : Nat → Int) (w : World) (hp : ∀ f, f < 5 → w.cell? ⟨pb, f, none⟩ = some (.int .i64 (x f))) (n0 b0 : Nat) (a : Option Addr) (len cap : Nat) (ht : LeafIs w x (.slice a len cap) n0 b0) :
    Calls Tryd.prog 31 #[.pointer (some ⟨b0, 0, none⟩), .slice (some ⟨pb, 0, none⟩) 5 5] w fun e w' => e = .returned (.slice a len cap) ∧ Below w.heap.size w w' := by
  go_enter Tryd.func31, Tryd.ntmps31
  go_wp2
  go_loopg [0] n0 (fun n t wr => ∃ (b : Nat), t = .pointer (some ⟨b, 0, none⟩) ∧ LeafIs w x (.slice a len cap) n b ∧ ∃ m, wr = w.drewN m)
  case atStart => exact ⟨b0, rfl, ht, 0, rfl⟩
  case round =>
    obtain ⟨b, rfl, hT, m, rfl⟩ := hrel
    have hT' := hT.cases
    clear hT ht
    rcases hT' with ⟨h0, h3⟩ | ⟨n', f, last, bl, bh, hgk, hf, h1, h2, h3, h4, ⟨hle, h5⟩ | ⟨hle, h5⟩⟩
    · go_wp2
      go_ret
      exact ⟨rfl, (by repeat (first | exact Below.refl _ _ | assumption | refine Below.drewN ?_ | refine Below.drew ?_ | refine Below.setCell ?_ (by first | exact Nat.le_refl _ | omega | (simp; done) | (simp; omega)) _ | refine Below.alloc ?_ (by first | exact Nat.le_refl _ | omega | (simp; done) | (simp; omega)) _))⟩
    all_goals
      have H5 := hide h5
      have HG := hide hgk
      clear h5 hgk
      have hpf := hp f hf
      have hfi : (f : Int) < 5 := by omega
      go_wp2
      go_quiet (fail)
      go_wp2
      go_roundg n'
      case measure => have := HG.out; omega
      case rel => exact ⟨_, rfl, H5.out, _, rfl⟩

end Go.Proofs.YtaejpejfmpbinaaDoor
