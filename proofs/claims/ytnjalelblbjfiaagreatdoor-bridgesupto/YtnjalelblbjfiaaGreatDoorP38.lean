import Derived.Test.YtnjalelblbjfiaaGreatDoorP37
import Derived.Test.YtnjalelblbjfiaaGreatDoorP21
import Derived.Test.YtnjalelblbjfiaaGreatDoorP22
import Derived.Test.YtnjalelblbjfiaaGreatDoorP10
import Derived.Test.YtnjalelblbjfiaaGreatDoorP26
import Derived.Test.YtnjalelblbjfiaaGreatDoorP19
import Derived.BigQuiet
namespace Go.Proofs.YtnjalelblbjfiaaGreatDoor
open Go.RowKit Go.Maps

theorem fnd_nil {x0 x1 x2 x3 x4 : Int} (hk : keyB x0 x1 x2 x3 x4 = true) : fnd [] x0 x1 x2 x3 x4 = (0, 7) := by
  refine fnd_eq ?_
  unfold FindIs
  rw [if_pos hk]
  exact ⟨none, (fun e he => absurd he (List.not_mem_nil)), rfl, rfl⟩
end Go.Proofs.YtnjalelblbjfiaaGreatDoor

namespace Go.Proofs.YtnjalelblbjfiaaGreatDoor
open Go.RowKit
open Go.Sort (grow)

attribute [local go_sem] cell?_regrown

/-- How prefixes stand to each other: the longest ahead. -/
def cmpPf (b1 l1 b2 l2 : Int) : Int := if cmpI l2 l1 = 0 then cmpI b1 b2 else cmpI l2 l1

/-- A route: its prefix's bits and length, the VLAN and the MAC of its hop. -/
structure Rt where
  bits : Int
  len : Int
  vlan : Int
  mac : ByteArray
/-- How an entry stands to a key. -/
def cmpRt (e : Rt) (v : Int) (m : Int) : Int := cmpPf e.bits e.len v m

/-- The longest ahead. -/
abbrev SortedH (K : List Rt) : Prop := K.Pairwise fun a b => cmpRt a b.bits b.len < 0
def rAt (K : List Rt) (j : Nat) : Rt := (K[j]?).getD ⟨0, 0, 0, ByteArray.empty⟩
theorem rAt_eq {K : List Rt} {j : Nat} (h : j < K.length) : rAt K j = K[j] := by simp [rAt, h]
/-- The cells of the entries. -/
def rowH (K : List Rt) : List Value := K.flatMap fun e => [.int .i64 e.bits, .int .i64 e.len, .int .i64 e.vlan, .string e.mac]
theorem rowH_get : ∀ (K : List Rt) (k : Nat) (hk : k < K.length), (rowH K)[k * 4]? = some (.int .i64 K[k].bits) ∧ (rowH K)[k * 4 + 1]? = some (.int .i64 K[k].len) ∧ (rowH K)[k * 4 + 2]? = some (.int .i64 K[k].vlan) ∧ (rowH K)[k * 4 + 3]? = some (.string K[k].mac)
  | [], k, hk => absurd hk (by simp)
  | p :: t, 0, _ => ⟨rfl, rfl, rfl, rfl⟩
  | p :: t, k + 1, hk => by
    have := rowH_get t k (by simpa using hk)
    have e : (k + 1) * 4 = k * 4 + 4 := by omega
    rw [e]
    exact this

/-- A map of places: the order, the entries. -/
def MapH (w : World) (m : Nat) (sv : Value) (K : List Rt) : Prop :=
  w.cell? ⟨m, 0, none⟩ = some (.func (.func 101) #[] #[]) ∧ w.cell? ⟨m, 1, none⟩ = some sv ∧ w.ownsRow 0 331 4 sv K.length (rowH K) ∧ (∀ j, w.frozen? ⟨m, j, none⟩ = false) ∧ K.length ≤ 200
theorem rowH_cells {w : World} {sv : Value} {K : List Rt} (h : w.ownsRow 0 331 4 sv K.length (rowH K)) : ∃ a cap g, sv = .slice a K.length cap ∧ ∀ j, j < K.length → a = some ⟨g, 0, none⟩ ∧ w.cell? ⟨g, j * 4, none⟩ = some (.int .i64 (rAt K j).bits) ∧ w.cell? ⟨g, j * 4 + 1, none⟩ = some (.int .i64 (rAt K j).len) ∧ w.cell? ⟨g, j * 4 + 2, none⟩ = some (.int .i64 (rAt K j).vlan) ∧ w.cell? ⟨g, j * 4 + 3, none⟩ = some (.string (rAt K j).mac) := by
  rcases h.2 with ⟨hv, h0⟩ | ⟨g, cap, cur, hv, _⟩
  · exact ⟨none, 0, 0, by rw [hv, h0], fun j hj => by omega⟩
  · refine ⟨_, cap, g, hv, fun j hj => ⟨rfl, ?_⟩⟩
    rw [hv] at h
    have := rowH_get K j hj
    rw [rAt_eq hj]
    exact ⟨(h.cellAt _ (by omega)).trans this.1, (h.cellAt _ (by omega)).trans this.2.1, (h.cellAt _ (by omega)).trans this.2.2.1, (h.cellAt _ (by omega)).trans this.2.2.2⟩

theorem MapH.below {w w' : World} {m : Nat} {sv : Value} {K : List Rt} (hm : MapH w m sv K) (hb : Below w.heap.size w w') : MapH w' m sv K :=
  ⟨(hb.cell (p := ⟨m, 0, none⟩) (block_lt_of_cell hm.1)).trans hm.1, (hb.cell (p := ⟨m, 1, none⟩) (block_lt_of_cell hm.2.1)).trans hm.2.1, ownsRow_keep hm.2.2.1 (fun g hg => hb.block g (hm.2.2.1.lt g hg).2), fun j => (hb.frozen (p := ⟨m, j, none⟩) (show m < w.heap.size from block_lt_of_cell hm.1)).trans (hm.2.2.2.1 j), hm.2.2.2.2⟩

end Go.Proofs.YtnjalelblbjfiaaGreatDoor

namespace Go.Proofs.YtnjalelblbjfiaaGreatDoor
open Go.RowKit
open Go.Sort (grow)

/-- The map of routes, and that an empty one has no array. -/
def MapHq (w : World) (m : Nat) (sv : Value) (K : List Rt) : Prop := MapH w m sv K ∧ (K = [] → sv = .slice none 0 0)

end Go.Proofs.YtnjalelblbjfiaaGreatDoor

namespace Go.Proofs.YtnjalelblbjfiaaGreatDoor
open Go.RowKit
open Go.Sort (grow)
attribute [local go_sem] cell?_regrown

/-- How many addresses a prefix has. -/
def pfN (len : Nat) : Nat := 2 ^ (32 - len)
theorem pfN_le (len : Nat) : pfN len ≤ 4294967296 ∧ 0 < pfN len := by
  unfold pfN
  exact ⟨(Nat.pow_le_pow_right (n := 2) (by omega) (by omega) : 2 ^ (32 - len) ≤ 2 ^ 32), Nat.two_pow_pos _⟩
set_option maxRecDepth 100000 in
theorem behind_any (bits : Int) (len : Nat) (w : World) (hl : len ≤ 32) : Calls Tryz.prog 196 #[.agg #[.int .i64 bits, .int .i64 len]] w fun e w' => e = .returned (.int .i64 ((pfN len : Int) - 1)) ∧ Below w.heap.size w w' := by
  obtain ⟨k, hk⟩ : ∃ k, k = 32 - len := ⟨_, rfl⟩
  have e5 : IntKind.i64.wrap (32 - (len : Int)) = (k : Int) := by rw [IntKind.wrap_i64]; omega
  have e6 : (32 : Int) - (len : Int) = (k : Int) := by omega
  obtain ⟨p, hp⟩ : ∃ p, p = pfN len := ⟨_, rfl⟩
  have h2 : (2 : Int) ^ k = (p : Int) := by rw [hp, hk]; simp [pfN]
  have hp1 : p ≤ 4294967296 ∧ 0 < p := by rw [hp]; exact pfN_le len
  rw [← hp]
  clear hp hk
  go_enter Tryz.func196, Tryz.ntmps196
  go_wp2
  go_ret
  exact ⟨by go_num, (by repeat (first | exact Below.refl _ _ | assumption | refine Below.drewN ?_ | refine Below.drew ?_ | refine Below.setCell ?_ (by first | exact Nat.le_refl _ | omega | (simp; done) | (simp; omega)) _ | refine Below.alloc ?_ (by first | exact Nat.le_refl _ | omega | (simp; done) | (simp; omega)) _))⟩
end Go.Proofs.YtnjalelblbjfiaaGreatDoor
