import Derived.Test.YtnjalelblbjfiaaGreatDoorP2
import Derived.Deep.RegionHeld3
import Derived.Deep.LoopGhost
namespace Go.Proofs.YtnjalelblbjfiaaGreatDoor
open Go.RowKit
open Go.Sort (grow)

set_option maxRecDepth 100000 in
set_option maxHeartbeats 400000 in
theorem rank_any (b : Nat) (r : Rl) (w : World) (he : EntAt w b r) :
    Calls Tryz.prog 43 #[.pointer (some ⟨b, 0, none⟩)] w fun e w' => e = .returned (.agg #[.int .i64 r.pr, .int .i64 r.id]) ∧ Below w.heap.size w w' := by
  have c0 := he.c0
  have c1 := he.c1
  have hlt := he.lt
  clear he
  go_enter Tryz.func43, Tryz.ntmps43
  go_wp2
  go_region
  all_goals go_wp2
  all_goals exact bodyPost_ret (v := .agg #[.int .i64 r.pr, .int .i64 r.id]) (by simp [results, Tryz.results43, go_sem]) rfl ⟨rfl, (by repeat (first | exact Below.refl _ _ | assumption | refine Below.drewN ?_ | refine Below.drew ?_ | refine Below.setCell ?_ (by first | exact Nat.le_refl _ | omega | (simp; done) | (simp; omega)) _ | refine Below.alloc ?_ (by first | exact Nat.le_refl _ | omega | (simp; done) | (simp; omega)) _))⟩

end Go.Proofs.YtnjalelblbjfiaaGreatDoor

namespace Go.Proofs.YtnjalelblbjfiaaGreatDoor
open Go.RowKit
open Go.Sort (grow)

def hitB (k v m mx x : Int) : Bool := if k = 0 then bits .and .i64 x m == v else hasB v (topB k v m mx) x

set_option maxRecDepth 100000 in
set_option maxHeartbeats 400000 in
theorem matchesField0 (b : Nat) (r : Rl) (x : Int) (w : World) (he : EntAt w b r) :
    Calls Tryz.prog 164 #[.pointer (some ⟨b, 0, none⟩), .int .i64 0, .int .i64 x] w fun e w' => e = .returned (.bool (hitB r.k0 r.v0 r.m0 4294967295 x)) ∧ Below w.heap.size w w' := by
  have ck := he.c2
  have cv := he.c3
  have cm := he.c4
  have cl := he.c19
  have ch := he.c20
  have hlt := he.lt
  clear he
  by_cases h : r.k0 = 0
  · have hk : (r.k0 == 0) = true := by simp [h]
    go_enter Tryz.func164, Tryz.ntmps164
    go_wp2
    go_ret
    exact ⟨ret_bool (by simp [hitB, h]), (by repeat (first | exact Below.refl _ _ | assumption | refine Below.drewN ?_ | refine Below.drew ?_ | refine Below.setCell ?_ (by first | exact Nat.le_refl _ | omega | (simp; done) | (simp; omega)) _ | refine Below.alloc ?_ (by first | exact Nat.le_refl _ | omega | (simp; done) | (simp; omega)) _))⟩
  · have hk : (r.k0 == 0) = false := by simp [h]
    go_enter Tryz.func164, Tryz.ntmps164
    go_wp2_with (go_at_call 163; refine (sHas_any _ _ _ _).mono ?_; rintro e w' ⟨rfl, hb⟩)
    go_ret
    exact ⟨ret_bool (by simp [hitB, h]), Below.trans (by repeat (first | exact Below.refl _ _ | assumption | refine Below.drewN ?_ | refine Below.drew ?_ | refine Below.setCell ?_ (by first | exact Nat.le_refl _ | omega | (simp; done) | (simp; omega)) _ | refine Below.alloc ?_ (by first | exact Nat.le_refl _ | omega | (simp; done) | (simp; omega)) _)) (hb.mono (by first | exact Nat.le_refl _ | omega | (simp; done) | (simp; omega)))⟩

set_option maxRecDepth 100000 in
set_option maxHeartbeats 400000 in
theorem matchesField1 (b : Nat) (r : Rl) (x : Int) (w : World) (he : EntAt w b r) :
    Calls Tryz.prog 164 #[.pointer (some ⟨b, 0, none⟩), .int .i64 1, .int .i64 x] w fun e w' => e = .returned (.bool (hitB r.k1 r.v1 r.m1 4294967295 x)) ∧ Below w.heap.size w w' := by
  have ck := he.c5
  have cv := he.c6
  have cm := he.c7
  have cl := he.c21
  have ch := he.c22
  have hlt := he.lt
  clear he
  by_cases h : r.k1 = 0
  · have hk : (r.k1 == 0) = true := by simp [h]
    go_enter Tryz.func164, Tryz.ntmps164
    go_wp2
    go_ret
    exact ⟨ret_bool (by simp [hitB, h]), (by repeat (first | exact Below.refl _ _ | assumption | refine Below.drewN ?_ | refine Below.drew ?_ | refine Below.setCell ?_ (by first | exact Nat.le_refl _ | omega | (simp; done) | (simp; omega)) _ | refine Below.alloc ?_ (by first | exact Nat.le_refl _ | omega | (simp; done) | (simp; omega)) _))⟩
  · have hk : (r.k1 == 0) = false := by simp [h]
    go_enter Tryz.func164, Tryz.ntmps164
    go_wp2_with (go_at_call 163; refine (sHas_any _ _ _ _).mono ?_; rintro e w' ⟨rfl, hb⟩)
    go_ret
    exact ⟨ret_bool (by simp [hitB, h]), Below.trans (by repeat (first | exact Below.refl _ _ | assumption | refine Below.drewN ?_ | refine Below.drew ?_ | refine Below.setCell ?_ (by first | exact Nat.le_refl _ | omega | (simp; done) | (simp; omega)) _ | refine Below.alloc ?_ (by first | exact Nat.le_refl _ | omega | (simp; done) | (simp; omega)) _)) (hb.mono (by first | exact Nat.le_refl _ | omega | (simp; done) | (simp; omega)))⟩

set_option maxRecDepth 100000 in
set_option maxHeartbeats 400000 in
theorem matchesField2 (b : Nat) (r : Rl) (x : Int) (w : World) (he : EntAt w b r) :
    Calls Tryz.prog 164 #[.pointer (some ⟨b, 0, none⟩), .int .i64 2, .int .i64 x] w fun e w' => e = .returned (.bool (hitB r.k2 r.v2 r.m2 255 x)) ∧ Below w.heap.size w w' := by
  have ck := he.c8
  have cv := he.c9
  have cm := he.c10
  have cl := he.c23
  have ch := he.c24
  have hlt := he.lt
  clear he
  by_cases h : r.k2 = 0
  · have hk : (r.k2 == 0) = true := by simp [h]
    go_enter Tryz.func164, Tryz.ntmps164
    go_wp2
    go_ret
    exact ⟨ret_bool (by simp [hitB, h]), (by repeat (first | exact Below.refl _ _ | assumption | refine Below.drewN ?_ | refine Below.drew ?_ | refine Below.setCell ?_ (by first | exact Nat.le_refl _ | omega | (simp; done) | (simp; omega)) _ | refine Below.alloc ?_ (by first | exact Nat.le_refl _ | omega | (simp; done) | (simp; omega)) _))⟩
  · have hk : (r.k2 == 0) = false := by simp [h]
    go_enter Tryz.func164, Tryz.ntmps164
    go_wp2_with (go_at_call 163; refine (sHas_any _ _ _ _).mono ?_; rintro e w' ⟨rfl, hb⟩)
    go_ret
    exact ⟨ret_bool (by simp [hitB, h]), Below.trans (by repeat (first | exact Below.refl _ _ | assumption | refine Below.drewN ?_ | refine Below.drew ?_ | refine Below.setCell ?_ (by first | exact Nat.le_refl _ | omega | (simp; done) | (simp; omega)) _ | refine Below.alloc ?_ (by first | exact Nat.le_refl _ | omega | (simp; done) | (simp; omega)) _)) (hb.mono (by first | exact Nat.le_refl _ | omega | (simp; done) | (simp; omega)))⟩

set_option maxRecDepth 100000 in
set_option maxHeartbeats 400000 in
theorem matchesField3 (b : Nat) (r : Rl) (x : Int) (w : World) (he : EntAt w b r) :
    Calls Tryz.prog 164 #[.pointer (some ⟨b, 0, none⟩), .int .i64 3, .int .i64 x] w fun e w' => e = .returned (.bool (hitB r.k3 r.v3 r.m3 65535 x)) ∧ Below w.heap.size w w' := by
  have ck := he.c11
  have cv := he.c12
  have cm := he.c13
  have cl := he.c25
  have ch := he.c26
  have hlt := he.lt
  clear he
  by_cases h : r.k3 = 0
  · have hk : (r.k3 == 0) = true := by simp [h]
    go_enter Tryz.func164, Tryz.ntmps164
    go_wp2
    go_ret
    exact ⟨ret_bool (by simp [hitB, h]), (by repeat (first | exact Below.refl _ _ | assumption | refine Below.drewN ?_ | refine Below.drew ?_ | refine Below.setCell ?_ (by first | exact Nat.le_refl _ | omega | (simp; done) | (simp; omega)) _ | refine Below.alloc ?_ (by first | exact Nat.le_refl _ | omega | (simp; done) | (simp; omega)) _))⟩
  · have hk : (r.k3 == 0) = false := by simp [h]
    go_enter Tryz.func164, Tryz.ntmps164
    go_wp2_with (go_at_call 163; refine (sHas_any _ _ _ _).mono ?_; rintro e w' ⟨rfl, hb⟩)
    go_ret
    exact ⟨ret_bool (by simp [hitB, h]), Below.trans (by repeat (first | exact Below.refl _ _ | assumption | refine Below.drewN ?_ | refine Below.drew ?_ | refine Below.setCell ?_ (by first | exact Nat.le_refl _ | omega | (simp; done) | (simp; omega)) _ | refine Below.alloc ?_ (by first | exact Nat.le_refl _ | omega | (simp; done) | (simp; omega)) _)) (hb.mono (by first | exact Nat.le_refl _ | omega | (simp; done) | (simp; omega)))⟩

set_option maxRecDepth 100000 in
set_option maxHeartbeats 400000 in
theorem matchesField4 (b : Nat) (r : Rl) (x : Int) (w : World) (he : EntAt w b r) :
    Calls Tryz.prog 164 #[.pointer (some ⟨b, 0, none⟩), .int .i64 4, .int .i64 x] w fun e w' => e = .returned (.bool (hitB r.k4 r.v4 r.m4 65535 x)) ∧ Below w.heap.size w w' := by
  have ck := he.c14
  have cv := he.c15
  have cm := he.c16
  have cl := he.c27
  have ch := he.c28
  have hlt := he.lt
  clear he
  by_cases h : r.k4 = 0
  · have hk : (r.k4 == 0) = true := by simp [h]
    go_enter Tryz.func164, Tryz.ntmps164
    go_wp2
    go_ret
    exact ⟨ret_bool (by simp [hitB, h]), (by repeat (first | exact Below.refl _ _ | assumption | refine Below.drewN ?_ | refine Below.drew ?_ | refine Below.setCell ?_ (by first | exact Nat.le_refl _ | omega | (simp; done) | (simp; omega)) _ | refine Below.alloc ?_ (by first | exact Nat.le_refl _ | omega | (simp; done) | (simp; omega)) _))⟩
  · have hk : (r.k4 == 0) = false := by simp [h]
    go_enter Tryz.func164, Tryz.ntmps164
    go_wp2_with (go_at_call 163; refine (sHas_any _ _ _ _).mono ?_; rintro e w' ⟨rfl, hb⟩)
    go_ret
    exact ⟨ret_bool (by simp [hitB, h]), Below.trans (by repeat (first | exact Below.refl _ _ | assumption | refine Below.drewN ?_ | refine Below.drew ?_ | refine Below.setCell ?_ (by first | exact Nat.le_refl _ | omega | (simp; done) | (simp; omega)) _ | refine Below.alloc ?_ (by first | exact Nat.le_refl _ | omega | (simp; done) | (simp; omega)) _)) (hb.mono (by first | exact Nat.le_refl _ | omega | (simp; done) | (simp; omega)))⟩

def Rl.hits (r : Rl) (x0 x1 x2 x3 x4 : Int) : Bool := hitB r.k0 r.v0 r.m0 4294967295 x0 && (hitB r.k1 r.v1 r.m1 4294967295 x1 && (hitB r.k2 r.v2 r.m2 255 x2 && (hitB r.k3 r.v3 r.m3 65535 x3 && (hitB r.k4 r.v4 r.m4 65535 x4))))

end Go.Proofs.YtnjalelblbjfiaaGreatDoor

namespace Go.Proofs.YtnjalelblbjfiaaGreatDoor
open Go.RowKit
attribute [local go_sem] ixKey0 ixKey1 ixKey2 ixKey3 ixKey4

set_option maxRecDepth 100000 in
set_option maxHeartbeats 400000 in
theorem matches_any (b : Nat) (r : Rl) (x0 x1 x2 x3 x4 : Int) (w : World) (he : EntAt w b r) :
    Calls Tryz.prog 96 #[.pointer (some ⟨b, 0, none⟩), .agg #[.int .i64 x0, .int .i64 x1, .int .i64 x2, .int .i64 x3, .int .i64 x4]] w fun e w' => e = .returned (.bool (r.hits x0 x1 x2 x3 x4)) ∧ Below w.heap.size w w' := by
  have hlt := he.lt
  go_enter Tryz.func96, Tryz.ntmps96
  go_wp2
  go_loopw [8] (fun i wr => ∃ k : Nat, k ≤ 5 ∧ i = .int .i64 k ∧ Below w.heap.size w wr ∧ (0 < k → hitB r.k0 r.v0 r.m0 4294967295 x0 = true) ∧ (1 < k → hitB r.k1 r.v1 r.m1 4294967295 x1 = true) ∧ (2 < k → hitB r.k2 r.v2 r.m2 255 x2 = true) ∧ (3 < k → hitB r.k3 r.v3 r.m3 65535 x3 = true) ∧ (4 < k → hitB r.k4 r.v4 r.m4 65535 x4 = true)) (fun i _ => 5 - (intOf i).toNat)
  case atStart => exact ⟨0, by omega, rfl, (by repeat (first | exact Below.refl _ _ | assumption | refine Below.drewN ?_ | refine Below.drew ?_ | refine Below.setCell ?_ (by first | exact Nat.le_refl _ | omega | (simp; done) | (simp; omega)) _ | refine Below.alloc ?_ (by first | exact Nat.le_refl _ | omega | (simp; done) | (simp; omega)) _)), by omega, by omega, by omega, by omega, by omega⟩
  case round =>
    obtain ⟨k, hk, rfl, hb, h0, h1, h2, h3, h4⟩ := hrel
    have he' := he.below hb hlt
    clear he
    match k, hk with
    | 0, _ =>
      go_wp2_with (go_at_call 164; refine (matchesField0 b r _ _ he').mono ?_; rintro e w' ⟨rfl, hb'⟩; generalize hq : hitB r.k0 r.v0 r.m0 4294967295 x0 = q at *; cases q)
      · go_ret
        exact ⟨ret_bool (by simp [Rl.hits, *]), hb.trans (hb'.mono hb.size)⟩
      · go_roundw
        case rel => exact ⟨1, by omega, rfl, hb.trans (hb'.mono hb.size), fun _ => hq, by omega, by omega, by omega, by omega⟩
        case measure => simp [intOf]
    | 1, _ =>
      go_wp2_with (go_at_call 164; refine (matchesField1 b r _ _ he').mono ?_; rintro e w' ⟨rfl, hb'⟩; generalize hq : hitB r.k1 r.v1 r.m1 4294967295 x1 = q at *; cases q)
      · go_ret
        exact ⟨ret_bool (by simp [Rl.hits, *]), hb.trans (hb'.mono hb.size)⟩
      · go_roundw
        case rel => exact ⟨2, by omega, rfl, hb.trans (hb'.mono hb.size), fun _ => h0 (by omega), fun _ => hq, by omega, by omega, by omega⟩
        case measure => simp [intOf]
    | 2, _ =>
      go_wp2_with (go_at_call 164; refine (matchesField2 b r _ _ he').mono ?_; rintro e w' ⟨rfl, hb'⟩; generalize hq : hitB r.k2 r.v2 r.m2 255 x2 = q at *; cases q)
      · go_ret
        exact ⟨ret_bool (by simp [Rl.hits, *]), hb.trans (hb'.mono hb.size)⟩
      · go_roundw
        case rel => exact ⟨3, by omega, rfl, hb.trans (hb'.mono hb.size), fun _ => h0 (by omega), fun _ => h1 (by omega), fun _ => hq, by omega, by omega⟩
        case measure => simp [intOf]
    | 3, _ =>
      go_wp2_with (go_at_call 164; refine (matchesField3 b r _ _ he').mono ?_; rintro e w' ⟨rfl, hb'⟩; generalize hq : hitB r.k3 r.v3 r.m3 65535 x3 = q at *; cases q)
      · go_ret
        exact ⟨ret_bool (by simp [Rl.hits, *]), hb.trans (hb'.mono hb.size)⟩
      · go_roundw
        case rel => exact ⟨4, by omega, rfl, hb.trans (hb'.mono hb.size), fun _ => h0 (by omega), fun _ => h1 (by omega), fun _ => h2 (by omega), fun _ => hq, by omega⟩
        case measure => simp [intOf]
    | 4, _ =>
      go_wp2_with (go_at_call 164; refine (matchesField4 b r _ _ he').mono ?_; rintro e w' ⟨rfl, hb'⟩; generalize hq : hitB r.k4 r.v4 r.m4 65535 x4 = q at *; cases q)
      · go_ret
        exact ⟨ret_bool (by simp [Rl.hits, *]), hb.trans (hb'.mono hb.size)⟩
      · go_roundw
        case rel => exact ⟨5, by omega, rfl, hb.trans (hb'.mono hb.size), fun _ => h0 (by omega), fun _ => h1 (by omega), fun _ => h2 (by omega), fun _ => h3 (by omega), fun _ => hq⟩
        case measure => simp [intOf]
    | 5, _ =>
      go_wp2
      go_ret
      exact ⟨ret_bool (by simp [Rl.hits, h0 (by omega), h1 (by omega), h2 (by omega), h3 (by omega), h4 (by omega)]), hb⟩

end Go.Proofs.YtnjalelblbjfiaaGreatDoor

namespace Go.Proofs.YtnjalelblbjfiaaGreatDoor
open Go.RowKit

theorem hide {p : Prop} (h : p) : Hid p := h

/-- An entry: its block, its rule. -/
abbrev Ent := Nat × Rl
def ptrO (o : Option Ent) : Value := .pointer (o.map fun e => ⟨e.1, 0, none⟩)
theorem ptrO_some (e : Ent) : ptrO (some e) = .pointer (some ⟨e.1, 0, none⟩) := rfl
theorem ptrO_none : ptrO none = .pointer none := rfl

/-- Does a rule of rank a stand ahead of one of rank b? -/
def Rl.before (a b : Rl) : Bool := decide (cmpR a.pr a.id b.pr b.id < 0)

/-- A slice value reads as this list of entries. -/
def BunchAt (w : World) (v : Value) (es : List Ent) : Prop :=
  ∃ (a : Option Addr) (cap : Nat), v = .slice a es.length cap ∧ (∀ i (h : i < es.length), ∃ b off, (a = some ⟨b, off, none⟩ ∧ off = 0) ∧ w.cell? ⟨b, off + i, none⟩ = some (.pointer (some ⟨es[i].1, 0, none⟩))) ∧ ∀ e ∈ es, EntAt w e.1 e.2

def firstE (x0 x1 x2 x3 x4 : Int) (best : Option Ent) : List Ent → Option Ent
  | [] => best
  | e :: t => if (best.any fun b => b.2.before e.2) then best else if e.2.hits x0 x1 x2 x3 x4 then some e else firstE x0 x1 x2 x3 x4 best t

theorem BunchAt.below {B : Nat} {w w' : World} {v : Value} {es : List Ent} (h : BunchAt w v es) (hb : Below B w w') (hB : w.heap.size ≤ B) : BunchAt w' v es := by
  obtain ⟨a, cap, hv, hc, he⟩ := h
  refine ⟨a, cap, hv, fun i hi => ?_, fun e hm => (he e hm).below hb (Nat.lt_of_lt_of_le (he e hm).lt hB)⟩
  obtain ⟨b, off, ha, h⟩ := hc i hi
  exact ⟨b, off, ha, (hb.cell (p := ⟨b, off + i, none⟩) (Nat.lt_of_lt_of_le (block_lt_of_cell h) hB)).trans h⟩

set_option maxRecDepth 100000 in
set_option maxHeartbeats 400000 in
theorem first_any (v : Value) (es : List Ent) (x0 x1 x2 x3 x4 : Int) (best : Option Ent) (w : World) (hes : BunchAt w v es) (hn : es.length ≤ 200) (hbest : ∀ e ∈ best, EntAt w e.1 e.2) :
    Calls Tryz.prog 47 #[v, .agg #[.int .i64 x0, .int .i64 x1, .int .i64 x2, .int .i64 x3, .int .i64 x4], ptrO best] w fun e w' => e = .returned (ptrO (firstE x0 x1 x2 x3 x4 best es)) ∧ Below w.heap.size w w' := by
  obtain ⟨a, cap, rfl, hc, he⟩ := hes
  cases best with
  | none =>
    rw [ptrO_none]
    go_enter Tryz.func47, Tryz.ntmps47
    go_wp2
    go_loopw [11] (fun i wr => ∃ k : Nat, k ≤ es.length ∧ i = .int .i64 k ∧ Below w.heap.size w wr ∧ w.heap.size < wr.heap.size ∧ wr.cell? ⟨w.heap.size, 0, none⟩ = some (.int .i64 x0) ∧ wr.cell? ⟨w.heap.size, 1, none⟩ = some (.int .i64 x1) ∧ wr.cell? ⟨w.heap.size, 2, none⟩ = some (.int .i64 x2) ∧ wr.cell? ⟨w.heap.size, 3, none⟩ = some (.int .i64 x3) ∧ wr.cell? ⟨w.heap.size, 4, none⟩ = some (.int .i64 x4) ∧ firstE x0 x1 x2 x3 x4 none (es.drop k) = firstE x0 x1 x2 x3 x4 none es) (fun i _ => es.length - (intOf i).toNat)
    case atStart => exact ⟨0, by omega, rfl, (by repeat (first | exact Below.refl _ _ | assumption | refine Below.drewN ?_ | refine Below.drew ?_ | refine Below.setCell ?_ (by first | exact Nat.le_refl _ | omega | (simp; done) | (simp; omega)) _ | refine Below.alloc ?_ (by first | exact Nat.le_refl _ | omega | (simp; done) | (simp; omega)) _)), by simp, by simp, by simp, by simp, by simp, by simp, by simp⟩
    case round =>
      obtain ⟨k, hk, rfl, hb, hlt, c0, c1, c2, c3, c4, hr⟩ := hrel
      have HR := hide hr
      clear hr
      by_cases hkl : k < es.length
      · obtain ⟨ab, off, ⟨rfl, hz00⟩, hcell⟩ := hc k hkl
        clear hz00
        have hcell' : wr.cell? ⟨ab, off + k, none⟩ = some (.pointer (some ⟨es[k].1, 0, none⟩)) := (hb.cell (p := ⟨ab, off + k, none⟩) (block_lt_of_cell hcell)).trans hcell
        have hek := (he es[k] (List.getElem_mem hkl)).below hb (he es[k] (List.getElem_mem hkl)).lt
        have hdrop : es.drop k = es[k] :: es.drop (k + 1) := List.drop_eq_getElem_cons hkl
        generalize hee : es[k] = ek at *
        have HD := hide hdrop
        clear hdrop hee hcell hc he
        clear hbest
        go_wp2_with fail
        refine (matches_any ek.1 ek.2 _ _ _ _ _ _ hek).mono ?_
        rintro e w4 ⟨rfl, hb14⟩
        generalize hq : ek.2.hits x0 x1 x2 x3 x4 = q at *
        have HQ := hide hq
        clear hq
        cases q
        · go_wp2
          go_roundw
          case rel => exact ⟨k + 1, by omega, by go_num, hb.trans (hb14.mono hb.size), Nat.lt_of_lt_of_le hlt hb14.size, cell_later hb14 c0, cell_later hb14 c1, cell_later hb14 c2, cell_later hb14 c3, cell_later hb14 c4, by rw [← HR.out, HD.out]; simp [firstE, HQ.out]⟩
          case measure => simp [intOf]; omega
        · go_wp2
          go_ret
          refine ⟨?_, hb.trans (hb14.mono hb.size)⟩
          rw [← HR.out, HD.out]
          simp [firstE, HQ.out, ptrO]
      · clear hc he
        go_wp2
        go_ret
        refine ⟨?_, hb⟩
        rw [← HR.out, List.drop_of_length_le (by omega)]
        simp [firstE, ptrO]
  | some bst =>
    have hbst := hbest bst rfl
    rw [ptrO_some]
    go_enter Tryz.func47, Tryz.ntmps47
    go_wp2
    go_loopw [11] (fun i wr => ∃ k : Nat, k ≤ es.length ∧ i = .int .i64 k ∧ Below w.heap.size w wr ∧ w.heap.size < wr.heap.size ∧ wr.cell? ⟨w.heap.size, 0, none⟩ = some (.int .i64 x0) ∧ wr.cell? ⟨w.heap.size, 1, none⟩ = some (.int .i64 x1) ∧ wr.cell? ⟨w.heap.size, 2, none⟩ = some (.int .i64 x2) ∧ wr.cell? ⟨w.heap.size, 3, none⟩ = some (.int .i64 x3) ∧ wr.cell? ⟨w.heap.size, 4, none⟩ = some (.int .i64 x4) ∧ firstE x0 x1 x2 x3 x4 (some bst) (es.drop k) = firstE x0 x1 x2 x3 x4 (some bst) es) (fun i _ => es.length - (intOf i).toNat)
    case atStart => exact ⟨0, by omega, rfl, (by repeat (first | exact Below.refl _ _ | assumption | refine Below.drewN ?_ | refine Below.drew ?_ | refine Below.setCell ?_ (by first | exact Nat.le_refl _ | omega | (simp; done) | (simp; omega)) _ | refine Below.alloc ?_ (by first | exact Nat.le_refl _ | omega | (simp; done) | (simp; omega)) _)), by simp, by simp, by simp, by simp, by simp, by simp, by simp⟩
    case round =>
      obtain ⟨k, hk, rfl, hb, hlt, c0, c1, c2, c3, c4, hr⟩ := hrel
      have HR := hide hr
      clear hr
      by_cases hkl : k < es.length
      · obtain ⟨ab, off, ⟨rfl, hz00⟩, hcell⟩ := hc k hkl
        clear hz00
        have hcell' : wr.cell? ⟨ab, off + k, none⟩ = some (.pointer (some ⟨es[k].1, 0, none⟩)) := (hb.cell (p := ⟨ab, off + k, none⟩) (block_lt_of_cell hcell)).trans hcell
        have hek := (he es[k] (List.getElem_mem hkl)).below hb (he es[k] (List.getElem_mem hkl)).lt
        have hdrop : es.drop k = es[k] :: es.drop (k + 1) := List.drop_eq_getElem_cons hkl
        generalize hee : es[k] = ek at *
        have HD := hide hdrop
        clear hdrop hee hcell hc he
        have hbb := hbst.below hb hbst.lt
        clear hbest
        go_wp2_with fail
        refine (rank_any bst.1 bst.2 _ hbb).mono ?_
        rintro e w1 ⟨rfl, hb1⟩
        go_wp2_with fail
        refine (rank_any ek.1 ek.2 _ (hek.below hb1 hek.lt)).mono ?_
        rintro e w2 ⟨rfl, hb2⟩
        go_wp2_with fail
        refine (compare_any _ _ _ _ _).mono ?_
        rintro e w3 ⟨rfl, hb3⟩
        have hb13 : Below wr.heap.size wr w3 := (hb1.trans (hb2.mono hb1.size)).trans (hb3.mono (Nat.le_trans hb1.size hb2.size))
        have hlt' : w.heap.size < w3.heap.size := Nat.lt_of_lt_of_le hlt hb13.size
        have d0 := cell_later hb13 c0
        have d1 := cell_later hb13 c1
        have d2 := cell_later hb13 c2
        have d3 := cell_later hb13 c3
        have d4 := cell_later hb13 c4
        clear hb1 hb2 hb3 w1 w2 hbb
        by_cases hbf : cmpR bst.2.pr bst.2.id ek.2.pr ek.2.id < 0
        · go_wp2
          go_ret
          refine ⟨?_, hb.trans (hb13.mono hb.size)⟩
          rw [← HR.out, HD.out]
          simp [firstE, Rl.before, hbf, ptrO]
        · have hbf' : bst.2.before ek.2 = false := by simp only [Rl.before]; exact decide_eq_false hbf
          have HF := hide hbf'
          clear hbf'
          go_wp2_with fail
          refine (matches_any ek.1 ek.2 _ _ _ _ _ _ (hek.below hb13 hek.lt)).mono ?_
          rintro e w4 ⟨rfl, hb4⟩
          have hb14 : Below wr.heap.size wr w4 := hb13.trans (hb4.mono hb13.size)
          generalize hq : ek.2.hits x0 x1 x2 x3 x4 = q at *
          have HQ := hide hq
          clear hq
          cases q
          · go_wp2
            go_roundw
            case rel => exact ⟨k + 1, by omega, by go_num, hb.trans (hb14.mono hb.size), Nat.lt_of_lt_of_le hlt hb14.size, cell_later hb14 c0, cell_later hb14 c1, cell_later hb14 c2, cell_later hb14 c3, cell_later hb14 c4, by rw [← HR.out, HD.out]; simp [firstE, HF.out, HQ.out]⟩
            case measure => simp [intOf]; omega
          · go_wp2
            go_ret
            refine ⟨?_, hb.trans (hb14.mono hb.size)⟩
            rw [← HR.out, HD.out]
            simp [firstE, HF.out, HQ.out, ptrO]
      · clear hc he
        go_wp2
        go_ret
        refine ⟨?_, hb⟩
        rw [← HR.out, List.drop_of_length_le (by omega)]
        simp [firstE, ptrO]

end Go.Proofs.YtnjalelblbjfiaaGreatDoor
