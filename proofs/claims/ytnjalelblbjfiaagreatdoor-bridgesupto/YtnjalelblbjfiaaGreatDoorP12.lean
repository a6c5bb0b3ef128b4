import Derived.Test.YtnjalelblbjfiaaGreatDoorP11
import Derived.BigQuiet
import Derived.Deep.MidRow
import Derived.Test.YtnjalelblbjfiaaGreatDoorP6
namespace Go.Proofs.YtnjalelblbjfiaaGreatDoor
open Go.RowKit

/-- The cells of a list of rules. -/
def rowL (rs : List Rl) : List Value := rs.flatMap fun r => r.cells.toList
theorem cells_length (r : Rl) : r.cells.toList.length = 19 := rfl
theorem rowL_get : ∀ (rs : List Rl) (k : Nat) (hk : k < rs.length) (j : Nat), j < 19 → (rowL rs)[k * 19 + j]? = rs[k].cells[j]?
  | [], k, hk, _, _ => absurd hk (by simp)
  | e :: t, k, hk, j, hj => by
    have h : rowL (e :: t) = e.cells.toList ++ rowL t := rfl
    rw [h]
    match k, hk with
    | 0, _ => rw [List.getElem?_append_left (by rw [cells_length]; omega)]; simp
    | k + 1, hk =>
      rw [List.getElem?_append_right (by rw [cells_length]; omega), cells_length, show (k + 1) * 19 + j - 19 = k * 19 + j by omega, rowL_get t k (by simpa using hk) j hj]
      rfl

/-- A list of rules that a call has made itself. -/
def RulesOwn (B : Nat) (w : World) (v : Value) (rs : List Rl) : Prop := w.ownsRow B 37 19 v rs.length (rowL rs) ∧ (rs = [] → v = .slice none 0 0) ∧ 0 < B

section
variable {B : Nat} {w w' : World} {v : Value} {rs : List Rl}
theorem RulesOwn.nil (w : World) (hB : 0 < B) : RulesOwn B w (.slice none 0 0) [] := ⟨World.ownsRow_nil w B 37 19, fun _ => rfl, hB⟩
theorem RulesOwn.row (h : RulesOwn B w v rs) : ∃ a cap g, v = .slice a rs.length cap ∧ ∀ k, (hk : k < rs.length) → a = some ⟨g, 0, none⟩ ∧ w.rangeAt g (k * 19) rs[k].cells.toList := by
  rcases h.1.2 with ⟨hv, h0⟩ | ⟨g, cap, cur, hv, _⟩
  · exact ⟨none, 0, 0, by rw [hv, h0], fun j hj => by omega⟩
  · refine ⟨_, cap, g, hv, fun k hk => ⟨rfl, fun j u hu => ?_⟩⟩
    have ho := h.1
    rw [hv] at ho
    have hj : j < 19 := by have := (List.getElem?_eq_some_iff.1 hu).1; rwa [cells_length] at this
    rw [ho.cellAt _ (by omega), rowL_get rs k hk j hj]
    simpa using hu
theorem RulesOwn.same (h : RulesOwn B w v rs) (hs : ∀ g, v.ownBlock = some g → w'.heap[g]? = w.heap[g]?) : RulesOwn B w' v rs := ⟨ownsRow_same h.1 hs, h.2⟩
theorem RulesOwn.lt (h : RulesOwn B w v rs) {g : Nat} (hg : v.ownBlock = some g) : g < w.heap.size := (h.1.lt g hg).2
end

theorem TabIs.lt {w : World} {t : Nat} {F : Nat → Prop} {L : List Ent} (h : TabIs w t F L) {x : Nat} (hx : F x) : x < w.heap.size := by
  obtain ⟨b1, b2, sv1, sv2, LI, T, _, _, rfl⟩ := h
  rcases hx with rfl | (rfl | h) | (rfl | h)
  · exact block_lt_of_cell T.c0
  · exact block_lt_of_cell T.mI.1
  · exact T.hI.lt h
  · exact block_lt_of_cell T.mR.1
  · exact T.hR.lt h
theorem Below.of_grown {B : Nat} {w w' : World} {row : Option Nat} (h : w.grownBy w' row) (hB : B ≤ w.heap.size) (hr : ∀ x, row = some x → B ≤ x) : Below B w w' :=
  (Chg.grown (X := fun x => row = some x) h fun _ hk => hk).below hB fun x hx => hr x hx

theorem rlOnes (R : Rl) : R.cells.all (·.oneCell') = true := by simp [Rl.cells, Value.oneCell']
theorem buildRules (R : Rl) (w : World) : (Instr.buildSlice 54 1 #[(0, .agg #[.int .i64 R.id, .int .i64 R.pr, .int .i64 R.k0, .int .i64 R.v0, .int .i64 R.m0, .int .i64 R.k1, .int .i64 R.v1, .int .i64 R.m1, .int .i64 R.k2, .int .i64 R.v2, .int .i64 R.m2, .int .i64 R.k3, .int .i64 R.v3, .int .i64 R.m3, .int .i64 R.k4, .int .i64 R.v4, .int .i64 R.m4, .int .i64 R.ac, .int .i64 R.po])]).run Tryz.prog w = .ok (.slice (some ⟨w.heap.size, 0, none⟩) 1 1) (w.alloc (.cells #[.int .i64 R.id, .int .i64 R.pr, .int .i64 R.k0, .int .i64 R.v0, .int .i64 R.m0, .int .i64 R.k1, .int .i64 R.v1, .int .i64 R.m1, .int .i64 R.k2, .int .i64 R.v2, .int .i64 R.m2, .int .i64 R.k3, .int .i64 R.v3, .int .i64 R.m3, .int .i64 R.k4, .int .i64 R.v4, .int .i64 R.m4, .int .i64 R.ac, .int .i64 R.po] 37)) := by kernel_rfl
end Go.Proofs.YtnjalelblbjfiaaGreatDoor

namespace Go.Proofs.YtnjalelblbjfiaaGreatDoor
open Go.RowKit

/-- The document's table in memory: its list of rules. -/
def RefAt (B : Nat) (w : World) (y o : Nat) (v : Value) (rs : List Rl) : Prop := w.cell? ⟨y, o, none⟩ = some v ∧ w.frozen? ⟨y, o, none⟩ = false ∧ RulesOwn B w v rs ∧ rs.length ≤ 200 ∧ o ≤ 3
theorem RefAt.slice {B : Nat} {w : World} {y o : Nat} {v : Value} {rs : List Rl} (h : RefAt B w y o v rs) : ∃ a cap g, v = .slice a rs.length cap ∧ ∀ k, (hk : k < rs.length) → a = some ⟨g, 0, none⟩ ∧ w.rangeAt g (k * 19) rs[k].cells.toList := h.2.2.1.row

/-- Of a block only one cell has changed. -/
def OnlyAt (w W : World) (y o : Nat) : Prop := ∀ j, j ≠ o → W.cell? ⟨y, j, none⟩ = w.cell? ⟨y, j, none⟩ ∧ W.frozen? ⟨y, j, none⟩ = w.frozen? ⟨y, j, none⟩
theorem OnlyAt.set {w w' : World} {y o : Nat} (h : ∀ j, w'.cell? ⟨y, j, none⟩ = w.cell? ⟨y, j, none⟩ ∧ w'.frozen? ⟨y, j, none⟩ = w.frozen? ⟨y, j, none⟩) (v : Value) : OnlyAt w (w'.setCell ⟨y, o, none⟩ v) y o := fun j hj =>
  ⟨(set_other (.inr (Ne.symm hj))).trans (h j).1, (World.frozen?_setCell ..).trans (h j).2⟩
theorem OnlyAt.of_block {w w' : World} {y : Nat} (h : w'.heap[y]? = w.heap[y]?) (j : Nat) : w'.cell? ⟨y, j, none⟩ = w.cell? ⟨y, j, none⟩ ∧ w'.frozen? ⟨y, j, none⟩ = w.frozen? ⟨y, j, none⟩ :=
  ⟨World.cell?_of_block (a := ⟨y, j, none⟩) h, World.frozen?_of_block (a := ⟨y, j, none⟩) h⟩
end Go.Proofs.YtnjalelblbjfiaaGreatDoor

namespace Go.Proofs.YtnjalelblbjfiaaGreatDoor
open Go.RowKit

theorem ownsRow_baseV {w : World} {B B' : Nat} {t : TypeId} {s n : Nat} {v : Value} {xs : List Value} (h : w.ownsRow B t s v n xs) (hB : B' ≤ B) : w.ownsRow B' t s v n xs := by
  refine ⟨h.1, ?_⟩
  rcases h.2 with h | ⟨g, cap, cur, e, hb, r⟩
  · exact .inl h
  · exact .inr ⟨g, cap, cur, e, Nat.le_trans hB hb, r⟩

end Go.Proofs.YtnjalelblbjfiaaGreatDoor

namespace Go.Proofs.YtnjalelblbjfiaaGreatDoor
open Go.RowKit

/-- Values put into a row, one behind the other. -/
def setMany : List Value → Nat → List Value → List Value
  | xs, _, [] => xs
  | xs, o, v :: r => setMany (xs.set o v) (o + 1) r
theorem setMany_mid : ∀ (vs a b c : List Value), b.length = vs.length → setMany (a ++ b ++ c) a.length vs = a ++ vs ++ c
  | [], a, [], c, _ => by simp [setMany]
  | v :: vs, a, x :: b, c, h => by
    have h1 : (a ++ x :: b ++ c).set a.length v = (a ++ [v]) ++ b ++ c := by simp
    rw [setMany, h1]
    have h2 := setMany_mid vs (a ++ [v]) b c (by simpa using h)
    rw [List.length_append, List.length_singleton] at h2
    rw [h2]
    simp
theorem ownsRow_setV {w : World} {B : Nat} {t : TypeId} {s n g cap : Nat} {xs : List Value} (h : w.ownsRow B t s (.slice (some ⟨g, 0, none⟩) n cap) n xs) {j : Nat} (_hj : j < n * s) (v : Value) : (w.setCell ⟨g, j, none⟩ v).ownsRow B t s (.slice (some ⟨g, 0, none⟩) n cap) n (xs.set j v) := by
  refine ⟨by rw [List.length_set]; exact h.1, ?_⟩
  rcases h.2 with ⟨h, _⟩ | ⟨g', cap', cur, e, hb, hg, hc, hm, hs, ht⟩
  · cases h
  · cases e
    refine .inr ⟨g, cap, cur.setIfInBounds j v, rfl, hb, ?_, hc, hm, by simpa using hs, ?_⟩
    · exact heap_setCell_same w g j _ _ v hg
    · rw [← ht]
      simp [List.take_set]
theorem ownsRow_setCells {B : Nat} {t : TypeId} {s n g cap : Nat} : ∀ (vs : List Value) (o : Nat) {w : World} {xs : List Value}, w.ownsRow B t s (.slice (some ⟨g, 0, none⟩) n cap) n xs → o + vs.length ≤ n * s → (w.setCells g o vs).ownsRow B t s (.slice (some ⟨g, 0, none⟩) n cap) n (setMany xs o vs)
  | [], _, _, _, h, _ => h
  | v :: r, o, w, xs, h, hl => by
    rw [World.setCells, setMany]
    exact ownsRow_setCells r (o + 1) (ownsRow_setV h (by simp at hl; omega) v) (by simp at hl; omega)
end Go.Proofs.YtnjalelblbjfiaaGreatDoor
