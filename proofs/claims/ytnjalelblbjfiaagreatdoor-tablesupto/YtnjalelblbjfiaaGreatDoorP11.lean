import Derived.Test.YtnjalelblbjfiaaGreatDoorP10
import Derived.Laws.CopyOwn
import Derived.Lib.AppendZerosOnto
import Derived.Lib.Overlaps
import Derived.Lib.AppendZeros
namespace Go.Proofs.YtnjalelblbjfiaaGreatDoor
open Go.RowKit
open Go.Sort (grow)

/-- The cells of the two maps' arrays. -/
def rowI (L : List Ent) : List Value := L.flatMap fun e => [.int .i64 e.2.id, .pointer (some ⟨e.1, 0, none⟩)]
def rowR (L : List Ent) : List Value := L.flatMap fun e => [.int .i64 e.2.pr, .int .i64 e.2.id, .pointer (some ⟨e.1, 0, none⟩)]
theorem rowI_length (L : List Ent) : (rowI L).length = L.length * 2 := by
  induction L with
  | nil => rfl
  | cons e t ih => simp [rowI] at ih ⊢; omega
theorem rowR_length (L : List Ent) : (rowR L).length = L.length * 3 := by
  induction L with
  | nil => rfl
  | cons e t ih => simp [rowR] at ih ⊢; omega
theorem rowI_get (L : List Ent) : ∀ k (hk : k < L.length), (rowI L)[k * 2]? = some (.int .i64 L[k].2.id) ∧ (rowI L)[k * 2 + 1]? = some (.pointer (some ⟨L[k].1, 0, none⟩)) := by
  induction L with
  | nil => intro k hk; simp at hk
  | cons p t ih =>
    intro k hk
    match k, hk with
    | 0, _ => exact ⟨rfl, rfl⟩
    | k + 1, hk =>
      have := ih k (by simpa using hk)
      have e : (k + 1) * 2 = k * 2 + 2 := by omega
      rw [e]
      exact this
theorem rowR_get (L : List Ent) : ∀ k (hk : k < L.length), (rowR L)[k * 3]? = some (.int .i64 L[k].2.pr) ∧ (rowR L)[k * 3 + 1]? = some (.int .i64 L[k].2.id) ∧ (rowR L)[k * 3 + 2]? = some (.pointer (some ⟨L[k].1, 0, none⟩)) := by
  induction L with
  | nil => intro k hk; simp at hk
  | cons p t ih =>
    intro k hk
    match k, hk with
    | 0, _ => exact ⟨rfl, rfl, rfl⟩
    | k + 1, hk =>
      have := ih k (by simpa using hk)
      have e : (k + 1) * 3 = k * 3 + 3 := by omega
      rw [e]
      exact this

/-- A map's block: the order, the entries. -/
def MapI (w : World) (m : Nat) (sv : Value) (L : List Ent) : Prop :=
  w.cell? ⟨m, 0, none⟩ = some (.func (.func 33) #[] #[]) ∧ w.cell? ⟨m, 1, none⟩ = some sv ∧ w.ownsRow 0 184 2 sv L.length (rowI L) ∧ (∀ j, w.frozen? ⟨m, j, none⟩ = false) ∧ L.length ≤ 200
def MapR (w : World) (m : Nat) (sv : Value) (L : List Ent) : Prop :=
  w.cell? ⟨m, 0, none⟩ = some (.func (.func 35) #[] #[]) ∧ w.cell? ⟨m, 1, none⟩ = some sv ∧ w.ownsRow 0 189 3 sv L.length (rowR L) ∧ (∀ j, w.frozen? ⟨m, j, none⟩ = false) ∧ L.length ≤ 200

theorem rowI_cells {w : World} {sv : Value} {L : List Ent} (h : w.ownsRow 0 184 2 sv L.length (rowI L)) : ∃ a cap g, sv = .slice a L.length cap ∧ ∀ j (hj : j < L.length), a = some ⟨g, 0, none⟩ ∧ w.cell? ⟨g, j * 2, none⟩ = some (.int .i64 L[j].2.id) ∧ w.cell? ⟨g, j * 2 + 1, none⟩ = some (.pointer (some ⟨L[j].1, 0, none⟩)) := by
  rcases h.2 with ⟨hv, h0⟩ | ⟨g, cap, cur, hv, _⟩
  · exact ⟨none, 0, 0, by rw [hv, h0], fun j hj => by omega⟩
  · refine ⟨_, cap, g, hv, fun j hj => ⟨rfl, ?_⟩⟩
    rw [hv] at h
    have := rowI_get L j hj
    exact ⟨(h.cellAt _ (by omega)).trans this.1, (h.cellAt _ (by omega)).trans this.2⟩
theorem rowR_cells {w : World} {sv : Value} {L : List Ent} (h : w.ownsRow 0 189 3 sv L.length (rowR L)) : ∃ a cap g, sv = .slice a L.length cap ∧ ∀ j (hj : j < L.length), a = some ⟨g, 0, none⟩ ∧ w.cell? ⟨g, j * 3, none⟩ = some (.int .i64 L[j].2.pr) ∧ w.cell? ⟨g, j * 3 + 1, none⟩ = some (.int .i64 L[j].2.id) ∧ w.cell? ⟨g, j * 3 + 2, none⟩ = some (.pointer (some ⟨L[j].1, 0, none⟩)) := by
  rcases h.2 with ⟨hv, h0⟩ | ⟨g, cap, cur, hv, _⟩
  · exact ⟨none, 0, 0, by rw [hv, h0], fun j hj => by omega⟩
  · refine ⟨_, cap, g, hv, fun j hj => ⟨rfl, ?_⟩⟩
    rw [hv] at h
    have := rowR_get L j hj
    exact ⟨(h.cellAt _ (by omega)).trans this.1, (h.cellAt _ (by omega)).trans this.2.1, (h.cellAt _ (by omega)).trans this.2.2⟩

/-- Number j's ID, priority, block (0, if there is none). -/
def idAt (L : List Ent) (j : Nat) : Int := (L[j]?.map fun e => e.2.id).getD 0
def prAt (L : List Ent) (j : Nat) : Int := (L[j]?.map fun e => e.2.pr).getD 0
def blAt (L : List Ent) (j : Nat) : Nat := (L[j]?.map fun e => e.1).getD 0
theorem idAt_eq {L : List Ent} {j : Nat} (h : j < L.length) : idAt L j = L[j].2.id := by simp [idAt, h]
theorem prAt_eq {L : List Ent} {j : Nat} (h : j < L.length) : prAt L j = L[j].2.pr := by simp [prAt, h]
theorem blAt_eq {L : List Ent} {j : Nat} (h : j < L.length) : blAt L j = L[j].1 := by simp [blAt, h]

theorem cmpI_lt {a b : Int} : cmpI a b < 0 ↔ a < b := by unfold cmpI; split <;> (try split) <;> omega
theorem cmpI_zero {a b : Int} : cmpI a b = 0 ↔ a = b := by unfold cmpI; split <;> (try split) <;> omega
theorem cmpR_zero {p i q j : Int} : cmpR p i q j = 0 ↔ p = q ∧ i = j := by
  unfold cmpR
  split
  · rw [cmpI_zero]; omega
  · rw [cmpI_zero]; omega

/-- Sorted by rising IDs. -/
abbrev SortedI (L : List Ent) : Prop := L.Pairwise fun a b => a.2.id < b.2.id

set_option maxRecDepth 100000 in
set_option maxHeartbeats 400000 in
theorem placeI_any (m : Nat) (sv : Value) (L : List Ent) (x : Int) (w : World) (hm : MapI w m sv L) (hs : SortedI L) :
    Calls Tryz.prog 89 #[.pointer (some ⟨m, 0, none⟩), .int .i64 x] w fun e w' => ∃ i : Nat, i ≤ L.length ∧ (∀ j, j < i → idAt L j < x) ∧ (∀ j, i ≤ j → j < L.length → x ≤ idAt L j) ∧ e = .returned (.tuple #[.int .i64 i, .bool (decide (i < L.length) && (idAt L i == x))]) ∧ Below w.heap.size w w' := by
  obtain ⟨h0, h1, h2, h3, h4⟩ := hm
  obtain ⟨a, cap, g, rfl, hc⟩ := rowI_cells h2
  have CB := hide (bsI_any m g cap L.length a (idAt L) (blAt L) x w h4 h0 (fun j hj => by rw [idAt_eq hj, blAt_eq hj]; exact hc j hj) (fun i j hij hj h => by
    rw [cmpI_lt] at h ⊢
    rw [idAt_eq (by omega : i < L.length)]
    rw [idAt_eq hj] at h
    rcases Nat.lt_or_eq_of_le hij with hlt | rfl
    · exact Int.lt_trans (List.pairwise_iff_getElem.1 hs i j _ _ hlt) h
    · exact h))
  clear h2 h3 hc hs
  go_enter Tryz.func89, Tryz.ntmps89
  go_wp2_with fail
  refine CB.out.mono ?_
  rintro e w1 ⟨i, hi, hL, hR, rfl, hb⟩
  have HL := hide hL
  have HR := hide hR
  clear hL hR CB
  go_wp2
  go_ret2
  refine ⟨i, hi, fun j hj => cmpI_lt.1 (HL.out j hj), fun j h1 h2 => ?_, ?_, hb⟩
  · have := HR.out j h1 h2
    rcases Int.lt_or_le (idAt L j) x with h | h
    · have := cmpI_lt.2 h; omega
    · exact h
  · have e : (cmpI (idAt L i) x == 0) = (idAt L i == x) := by rw [Bool.eq_iff_iff, beq_iff_eq, beq_iff_eq, cmpI_zero]
    simp only [e]
    exact rfl

end Go.Proofs.YtnjalelblbjfiaaGreatDoor

namespace Go.Proofs.YtnjalelblbjfiaaGreatDoor
open Go.RowKit
open Go.Sort (grow)

theorem cut_exists (n : Nat) (c : Nat → Int) (hmono : ∀ i j, i ≤ j → j < n → c j < 0 → c i < 0) : ∃ i, i ≤ n ∧ (∀ j, j < i → c j < 0) ∧ ∀ j, i ≤ j → j < n → 0 ≤ c j := by
  induction n with
  | zero => exact ⟨0, Nat.le_refl _, fun j h => by omega, fun j _ h => by omega⟩
  | succ n ih =>
    obtain ⟨i, h1, h2, h3⟩ := ih fun i j hij hj h => hmono i j hij (by omega) h
    by_cases hn : c n < 0
    · exact ⟨n + 1, Nat.le_refl _, fun j hj => hmono j n (by omega) (by omega) hn, fun j h h' => by omega⟩
    · refine ⟨i, by omega, h2, fun j hj hj' => ?_⟩
      by_cases hjn : j = n
      · rw [hjn]; omega
      · exact h3 j hj (by omega)
theorem cut_unique {n : Nat} {c : Nat → Int} {i i' : Nat} (h1 : i ≤ n) (h2 : ∀ j, j < i → c j < 0) (h3 : ∀ j, i ≤ j → j < n → 0 ≤ c j) (k1 : i' ≤ n) (k2 : ∀ j, j < i' → c j < 0) (k3 : ∀ j, i' ≤ j → j < n → 0 ≤ c j) : i = i' := by
  rcases Nat.lt_trichotomy i i' with h | h | h
  · have := h3 i (Nat.le_refl _) (by omega); have := k2 i h; omega
  · exact h
  · have := k3 i' (Nat.le_refl _) (by omega); have := h2 i' h; omega

attribute [local go_sem] cell?_regrown

/-- How number j's rank stands to a rank. -/
def cAt (L : List Ent) (p q : Int) (j : Nat) : Int := cmpR (prAt L j) (idAt L j) p q

theorem sorted_mono {L : List Ent} (hs : Sorted L) (p q : Int) : ∀ i j, i ≤ j → j < L.length → cAt L p q j < 0 → cAt L p q i < 0 := by
  intro i j hij hj h
  unfold cAt at h ⊢
  rw [prAt_eq hj, idAt_eq hj] at h
  rw [prAt_eq (by omega : i < L.length), idAt_eq (by omega : i < L.length)]
  rcases Nat.lt_or_eq_of_le hij with hlt | rfl
  · have h1 := List.pairwise_iff_getElem.1 hs i j (by omega) hj hlt
    have h2 : L[j].2.before { L[j].2 with pr := p, id := q } = true := by simp only [Rl.before, decide_eq_true_eq]; exact h
    have h3 := Rl.before_trans h1 h2
    simpa only [Rl.before, decide_eq_true_eq] using h3
  · exact h

set_option maxRecDepth 100000 in
set_option maxHeartbeats 1000000 in
theorem placeR_any (m : Nat) (sv : Value) (L : List Ent) (p q : Int) (w : World) (hm : MapR w m sv L) (hs : Sorted L) :
    Calls Tryz.prog 92 #[.pointer (some ⟨m, 0, none⟩), .agg #[.int .i64 p, .int .i64 q]] w fun e w' => ∃ i : Nat, i ≤ L.length ∧ (∀ j, j < i → cAt L p q j < 0) ∧ (∀ j, i ≤ j → j < L.length → 0 ≤ cAt L p q j) ∧ e = .returned (.tuple #[.int .i64 i, .bool (decide (i < L.length) && (cAt L p q i == 0))]) ∧ Below w.heap.size w w' := by
  obtain ⟨h0, h1, h2, h3, h4⟩ := hm
  have hmlt : m < w.heap.size := block_lt_of_cell h0
  have hlt1 : m < w.heap.size + 1 := by omega
  obtain ⟨i0, a1, a2, a3⟩ := cut_exists L.length (cAt L p q) (sorted_mono hs p q)
  obtain ⟨a, cap, g, rfl, hc⟩ := rowR_cells h2
  have CB := hide fun (W : World) (hb : Below w.heap.size w W) => ((bsR_any m g cap L.length a (prAt L) (idAt L) (blAt L) p q W h4 ((hb.cell (p := ⟨m, 0, none⟩) hmlt).trans h0) (fun j hj => by
      rw [prAt_eq hj, idAt_eq hj, blAt_eq hj]
      obtain ⟨ha, c0, c1, c2⟩ := hc j hj
      exact ⟨ha, (hb.cell (p := ⟨g, j * 3, none⟩) (block_lt_of_cell c0)).trans c0, (hb.cell (p := ⟨g, j * 3 + 1, none⟩) (block_lt_of_cell c1)).trans c1, (hb.cell (p := ⟨g, j * 3 + 2, none⟩) (block_lt_of_cell c2)).trans c2⟩) (sorted_mono hs p q)).mono
    fun e w' ⟨i, b1, b2, b3, he, hb'⟩ => by
      have e1 := cut_unique b1 b2 b3 a1 a2 a3
      subst e1
      exact (⟨he, hb'⟩ : e = .returned (.tuple #[.int .i64 i, .bool (decide (i < L.length) && (cAt L p q i == 0))]) ∧ Below W.heap.size W w'))
  have A2 := hide a2
  have A3 := hide a3
  clear h2 h3 hc hs a2 a3
  go_enter Tryz.func92, Tryz.ntmps92
  go_wp2_with fail
  refine wp_region_quiet_below (by kernel_rfl) (by kernel_rfl) ?_
  repeat (quiet_step (exact Calls.regrown_of (CB.out _ (Below.trans ((Below.refl w.heap.size w).alloc (Nat.le_refl _) _) ((below_regrown _ _ _).mono (by simp))))))
  refine wpQuiet_nil ?_; intro wq hwq; replace hwq := below_of_regrown hwq; obtain ⟨hcq, hfq⟩ := bcell hwq; have hzq := hwq.size
  go_wp2
  go_ret2
  exact ⟨i0, a1, A2.out, A3.out, rfl, Below.trans (by repeat (first | exact Below.refl _ _ | assumption | refine Below.drewN ?_ | refine Below.drew ?_ | refine Below.setCell ?_ (by first | exact Nat.le_refl _ | omega | (simp; done) | (simp; omega)) _ | refine Below.alloc ?_ (by first | exact Nat.le_refl _ | omega | (simp; done) | (simp; omega)) _)) (hwq.mono (by first | exact Nat.le_refl _ | omega | (simp; done) | (simp; omega)))⟩

set_option maxRecDepth 100000 in
set_option maxHeartbeats 400000 in
theorem lenI_any (m : Nat) (a : Option Addr) (n cap : Nat) (w : World) (h1 : w.cell? ⟨m, 1, none⟩ = some (.slice a n cap)) :
    Calls Tryz.prog 39 #[.pointer (some ⟨m, 0, none⟩)] w fun e w' => e = .returned (.int .i64 n) ∧ w' = w := by
  go_enter Tryz.func39, Tryz.ntmps39
  go_wp2
  go_ret
  exact ⟨rfl, rfl⟩

set_option maxRecDepth 100000 in
set_option maxHeartbeats 400000 in
theorem lenR_any (m : Nat) (a : Option Addr) (n cap : Nat) (w : World) (h1 : w.cell? ⟨m, 1, none⟩ = some (.slice a n cap)) :
    Calls Tryz.prog 50 #[.pointer (some ⟨m, 0, none⟩)] w fun e w' => e = .returned (.int .i64 n) ∧ w' = w := by
  go_enter Tryz.func50, Tryz.ntmps50
  go_wp2
  go_ret
  exact ⟨rfl, rfl⟩

set_option maxRecDepth 100000 in
set_option maxHeartbeats 400000 in
theorem newI_any (w : World) : Calls Tryz.prog 32 #[.func (.func 33) #[] #[]] w fun e w' => e = .returned (.pointer (some ⟨w.heap.size, 0, none⟩)) ∧ w' = w.alloc (.cells #[.func (.func 33) #[] #[], .slice none 0 0] 169) := by
  go_enter Tryz.func32, Tryz.ntmps32
  go_wp2
  go_ret
  exact ⟨rfl, rfl⟩

set_option maxRecDepth 100000 in
set_option maxHeartbeats 400000 in
theorem newR_any (w : World) : Calls Tryz.prog 34 #[.func (.func 35) #[] #[]] w fun e w' => e = .returned (.pointer (some ⟨w.heap.size, 0, none⟩)) ∧ w' = w.alloc (.cells #[.func (.func 35) #[] #[], .slice none 0 0] 172) := by
  go_enter Tryz.func34, Tryz.ntmps34
  go_wp2
  go_ret
  exact ⟨rfl, rfl⟩

/-- Which entry has an ID. -/
def byId (L : List Ent) (x : Int) : Option Ent := L.find? fun e => e.2.id == x

theorem byId_place {L : List Ent} {x : Int} {i : Nat} (hL : ∀ j, j < i → idAt L j < x) (hR : ∀ j, i ≤ j → j < L.length → x ≤ idAt L j) (hs : SortedI L) :
    byId L x = if h : i < L.length ∧ idAt L i = x then some (L[i]'h.1) else none := by
  unfold byId
  split
  · rename_i h
    rw [List.find?_eq_some_iff_getElem]
    refine ⟨by rw [← idAt_eq h.1, h.2]; simp, i, h.1, rfl, fun j hj => ?_⟩
    have := hL j hj
    rw [idAt_eq (by omega)] at this
    simp; omega
  · rename_i h
    rw [List.find?_eq_none]
    intro e he
    obtain ⟨j, hj, rfl⟩ := List.getElem_of_mem he
    intro hx
    have hx' : L[j].2.id = x := by simpa using hx
    rcases Nat.lt_or_ge j i with h1 | h1
    · have := hL j h1; rw [idAt_eq hj] at this; omega
    · rcases Nat.lt_or_eq_of_le h1 with h2 | rfl
      · have a := hR i (Nat.le_refl _) (by omega)
        have b := List.pairwise_iff_getElem.1 hs i j (by omega) hj h2
        rw [idAt_eq (by omega)] at a
        omega
      · exact h ⟨hj, by rw [idAt_eq hj]; exact hx'⟩

set_option maxRecDepth 100000 in
set_option maxHeartbeats 400000 in
theorem getI_any (m : Nat) (sv : Value) (L : List Ent) (x : Int) (w : World) (hm : MapI w m sv L) (hs : SortedI L) :
    Calls Tryz.prog 38 #[.pointer (some ⟨m, 0, none⟩), .int .i64 x] w fun e w' => e = .returned (.tuple #[ptrO (byId L x), .bool (byId L x).isSome]) ∧ Below w.heap.size w w' := by
  have CP := hide (placeI_any m sv L x w hm hs)
  obtain ⟨h0, h1, h2, h3, h4⟩ := hm
  obtain ⟨a, cap, g, rfl, hc⟩ := rowI_cells h2
  have hmlt : m < w.heap.size := block_lt_of_cell h0
  clear h2 h3
  go_enter Tryz.func38, Tryz.ntmps38
  go_wp2_with fail
  refine CP.out.mono ?_
  rintro e w1 ⟨i, hi, hL, hR, rfl, hb⟩
  have HF := hide (byId_place hL hR hs)
  clear CP hL hR hs
  by_cases h : i < L.length ∧ idAt L i = x
  · obtain ⟨ha, c0, c1⟩ := hc i h.1
    subst ha
    have hx : (idAt L i == x) = true := by simp [h.2]
    have hd : decide (i < L.length) = true := by simp [h.1]
    have d1 := cell_later hb c1
    have e1 := cell_later hb h1
    have hil : (i : Int) < L.length := by omega
    have hF : byId L x = some L[i] := by rw [HF.out, dif_pos h]
    have HFF := hide hF
    generalize L[i] = ei at *
    clear hc hF
    go_wp2
    go_ret2
    exact ⟨by rw [HFF.out]; rfl, hb⟩
  · have hx : (decide (i < L.length) && (idAt L i == x)) = false := by
      rw [← Bool.not_eq_true, Bool.and_eq_true, decide_eq_true_eq, beq_iff_eq]; exact h
    have hF : byId L x = none := by rw [HF.out, dif_neg h]
    have HFF := hide hF
    clear hc hF h
    go_wp2
    go_ret2
    exact ⟨by rw [HFF.out]; rfl, hb⟩

end Go.Proofs.YtnjalelblbjfiaaGreatDoor

namespace Go.Proofs.YtnjalelblbjfiaaGreatDoor
open Go.RowKit

theorem Chg.drew {X : Nat → Prop} {a b : World} (h : Chg X a b) : Chg X a b.drew := ⟨h.os, h.tape, h.output, h.size, h.block⟩
theorem Chg.refl (X : Nat → Prop) (w : World) : Chg X w w := ⟨rfl, rfl, rfl, Nat.le_refl _, fun _ _ _ => rfl⟩
theorem Chg.setRow {X : Nat → Prop} {a b : World} {g : Nat} (h : Chg X a b) (hx : X g ∨ a.heap.size ≤ g) (cs : Array Value) : Chg X a (b.setRow g cs) :=
  ⟨h.os, h.tape, h.output, by rw [setRow_size]; exact h.size, fun k hk hX => (setRow_other b g k cs (by rintro rfl; rcases hx with hx | hx; exact hX hx; omega)).trans (h.block k hk hX)⟩
theorem Chg.alloc {X : Nat → Prop} {a b : World} (h : Chg X a b) (o : Obj) : Chg X a (b.alloc o) :=
  h.trans (Chg.of_below ((Below.refl _ b).alloc (Nat.le_refl _) o))
theorem Chg.grown {X : Nat → Prop} {w w' : World} {row : Option Nat} (h : w.grownBy w' row) (hX : ∀ k, row = some k → X k) : Chg X w w' :=
  ⟨h.os, h.tape, h.output, h.size, fun k hk hx => h.block k hk fun e => hx (hX k e.symm)⟩

/-- copy of elements of s cells each. -/
theorem run_copy_wide {P : Program} (w : World) (dT sT ty elem : TypeId) (s g o dLen dCap : Nat) (a : Addr) (sLen sCap : Nat) (cur : List Value) (t : TypeId) (cs : List Value) (k : Nat)
    (hu : P.underlying dT = some (.slice elem)) (hs : (P.info? elem).map (·.size) = some s)
    (hg : w.heap[g]? = some (.cells cur.toArray t (0, 0))) (hk : k = Nat.min sLen dLen) (hn : cs.length = k * s)
    (hsrc : ∀ j v, cs[j]? = some v → w.cell? (a.add j) = some v) (hfit : o + cs.length ≤ cur.length) (h1 : ∀ v ∈ cs, v.oneCell' = true) :
    (Builtin.copy_ #[dT, sT] ty #[.slice (some ⟨g, o, none⟩) dLen dCap, .slice (some a) sLen sCap]).run P w = .ok (goInt k) (w.setRow g (splice cur o cs).toArray) := by
  have hl := run_loadCells_list (P := P) w a cs hsrc
  have hst := run_storeCells_at P g o t cs 0 cur.toArray w hg (by simpa using hfit) h1
  rw [hn] at hl
  cases hq : P.info? elem with
  | none => simp [hq] at hs
  | some i =>
    have hi : i.size = s := by simpa [hq] using hs
    simp [Builtin.copy_, run_underlying hu, Builtin.lenOf, Builtin.firstCells, sizeOf, typeInfo, hq, hi, ← hk, hl, hst, splice]

theorem wpList_copy_wide {P : Program} {w : World} {ops : Array Oper} {rest : List Oper} {o : Oper} {a : Act} {Q : Exit → Act → World → Prop} (hgd : o.guard = none) (d x : Operand) (dT sT : TypeId)
    (ho : o.op = .call { callee := .builtin .copy, args := #[d, x], argTypes := #[dT, sT] }) (elem : TypeId) (s : Nat) (hu : P.underlying dT = some (.slice elem)) (hsz : (P.info? elem).map (·.size) = some s)
    (g off dLen dCap : Nat) (ad : Addr) (sLen sCap : Nat) (hd : a.eval d = .slice (some ⟨g, off, none⟩) dLen dCap) (hs : a.eval x = .slice (some ad) sLen sCap)
    (cur : List Value) (t : TypeId) (hg : w.heap[g]? = some (.cells cur.toArray t (0, 0))) (cs : List Value) (k : Nat) (hk : k = Nat.min sLen dLen) (hn : cs.length = k * s)
    (hsrc : ∀ j v, cs[j]? = some v → w.cell? (ad.add j) = some v) (hfit : off + cs.length ≤ cur.length) (h1 : ∀ v ∈ cs, v.oneCell' = true)
    (X : Nat → Prop) (w0 : World) (hc : Chg X w0 w) (hX : X g ∨ w0.heap.size ≤ g)
    (h : ∀ w', Hid (w'.heap[g]? = some (.cells (splice cur off cs).toArray t (0, 0))) → Hid (Chg X w0 w') → Hid (∀ k, k ≠ g → w'.heap[k]? = w.heap[k]?) → wpList P ops Q rest (a.put o.dst (goInt k)) w') : wpList P ops Q (o :: rest) a w := by
  refine wpList_plain hgd fun K hK => ?_
  have hrun := run_copy_wide (P := P) w dT sT o.type elem s g off dLen dCap ad sLen sCap cur t cs k hu hsz hg hk hn hsrc hfit h1
  unfold Oper.wp
  simp [execOp, ho, resolve, invoke, builtin, hd, hs, hrun, Result.andThen]
  exact hK _ _ (h _ (hide (setRow_heap w g _ _ t _ hg)) (hide (hc.setRow hX _)) (hide fun k hk => setRow_other w g k _ hk))

theorem step_copy_wide {P : Program} {ops : Array Oper} {o : Oper} {a : Act} {w : World} {K : Act → World → Prop} {Q : Exit → Act → World → Prop} {E : Prop} (hgd : o.guard = none) (d x : Operand) (dT sT : TypeId)
    (ho : o.op = .call { callee := .builtin .copy, args := #[d, x], argTypes := #[dT, sT] }) (elem : TypeId) (s : Nat) (hu : P.underlying dT = some (.slice elem)) (hsz : (P.info? elem).map (·.size) = some s)
    (g off dLen dCap : Nat) (ad : Addr) (sLen sCap : Nat) (hd : a.eval d = .slice (some ⟨g, off, none⟩) dLen dCap) (hs : a.eval x = .slice (some ad) sLen sCap)
    (cur : List Value) (t : TypeId) (hg : w.heap[g]? = some (.cells cur.toArray t (0, 0))) (cs : List Value) (k : Nat) (hk : k = Nat.min sLen dLen) (hn : cs.length = k * s)
    (hsrc : ∀ j v, cs[j]? = some v → w.cell? (ad.add j) = some v) (hfit : off + cs.length ≤ cur.length) (h1 : ∀ v ∈ cs, v.oneCell' = true)
    (X : Nat → Prop) (w0 : World) (hc : Chg X w0 w) (hX : X g ∨ w0.heap.size ≤ g)
    (h : ∀ w', Hid (w'.heap[g]? = some (.cells (splice cur off cs).toArray t (0, 0))) → Hid (Chg X w0 w') → Hid (∀ k, k ≠ g → w'.heap[k]? = w.heap[k]?) → K (a.put o.dst (goInt k)) w') :
    if Region.wanted o (yielded ops a.tmps) = true then Oper.wp P o a w K Q else E := by
  have hw : Region.wanted o (yielded ops a.tmps) = true := by simp [Region.wanted, hgd]
  rw [if_pos hw]
  have hrun := run_copy_wide (P := P) w dT sT o.type elem s g off dLen dCap ad sLen sCap cur t cs k hu hsz hg hk hn hsrc hfit h1
  unfold Oper.wp
  simp [execOp, ho, resolve, invoke, builtin, hd, hs, hrun, Result.andThen]
  exact h _ (hide (setRow_heap w g _ _ t _ hg)) (hide (hc.setRow hX _)) (hide fun k hk => setRow_other w g k _ hk)

theorem splice_get {α : Type} (L : List α) (o : Nat) (cs : List α) (h : o + cs.length ≤ L.length) (j : Nat) : (splice L o cs)[j]? = if j < o then L[j]? else if j < o + cs.length then cs[j - o]? else L[j]? := by
  unfold splice
  rw [List.getElem?_append]
  simp only [List.length_take, List.getElem?_take, List.getElem?_append, List.getElem?_drop]
  have : min o L.length = o := by omega
  rw [this]
  split
  · rfl
  · split
    · rename_i h1 h2
      rw [if_pos (by omega)]
    · rename_i h1 h2
      rw [if_neg (by omega)]
      congr 1
      omega

/-- The row behind an insertion in place: what stood from a on goes s cells on, then come the new ones. -/
theorem ins_room {α : Type} (L xs vs : List α) (a N s : Nat) (hx : L.take N = xs) (hl : xs.length = N) (hv : vs.length = s) (ha : a ≤ N) (hN : N + s ≤ L.length) :
    (splice (splice L (a + s) (xs.drop a)) a vs).take (N + s) = xs.take a ++ vs ++ xs.drop a := by
  have hd : (xs.drop a).length = N - a := by rw [List.length_drop, hl]
  have l1 : (splice L (a + s) (xs.drop a)).length = L.length := length_splice _ _ _ (by omega)
  have hxg : ∀ j, j < N → xs[j]? = L[j]? := fun j hj => by rw [← hx, List.getElem?_take, if_pos hj]
  apply List.ext_getElem?
  intro j
  rw [List.getElem?_take, splice_get _ _ _ (by omega), List.append_assoc, List.getElem?_append, List.getElem?_append, List.length_take, hl, hv, Nat.min_eq_left ha]
  by_cases h1 : j < a
  · rw [if_pos (by omega), if_pos h1, if_pos h1, splice_get _ _ _ (by omega), if_pos (by omega), List.getElem?_take, if_pos h1, hxg j (by omega)]
  · rw [if_neg h1, if_neg h1]
    by_cases h2 : j < a + s
    · rw [if_pos (by omega), if_pos (by omega), if_pos (by omega)]
    · by_cases h3 : j < N + s
      · rw [if_pos h3, if_neg (by omega), if_neg (by omega), splice_get _ _ _ (by omega), if_neg (by omega), if_pos (by omega)]
        congr 1
        omega
      · rw [if_neg h3, if_neg (by omega)]
        symm
        rw [List.getElem?_eq_none_iff]
        omega

theorem ins_grow {α : Type} (L xs vs : List α) (a N s : Nat) (hx : L.take a = xs.take a) (hl : xs.length = N) (hv : vs.length = s) (ha : a ≤ N) (hN : N + s ≤ L.length) :
    (splice (splice L a vs) (a + s) (xs.drop a)).take (N + s) = xs.take a ++ vs ++ xs.drop a := by
  have hd : (xs.drop a).length = N - a := by rw [List.length_drop, hl]
  have l1 : (splice L a vs).length = L.length := length_splice _ _ _ (by omega)
  apply List.ext_getElem?
  intro j
  rw [List.getElem?_take, splice_get _ _ _ (by omega), List.append_assoc, List.getElem?_append, List.getElem?_append, List.length_take, hl, hv, Nat.min_eq_left ha]
  by_cases h1 : j < a
  · rw [if_pos (by omega), if_pos (by omega), if_pos h1, splice_get _ _ _ (by omega), if_pos (by omega), ← hx, List.getElem?_take, if_pos h1]
  · rw [if_neg h1]
    by_cases h2 : j < a + s
    · rw [if_pos (by omega), if_pos (by omega), if_pos (by omega), splice_get _ _ _ (by omega), if_neg h1, if_pos (by omega)]
    · by_cases h3 : j < N + s
      · rw [if_pos h3, if_neg h2, if_pos (by omega), if_neg (by omega)]
        congr 1
        omega
      · rw [if_neg h3, if_neg (by omega)]
        symm
        rw [List.getElem?_eq_none_iff]
        omega

theorem cell_in_row {w : World} {g j : Nat} {cur : Array Value} {t : TypeId} {fr : Nat × Nat} {v : Value} (hg : w.heap[g]? = some (.cells cur t fr)) (h : cur.toList[j]? = some v) : w.cell? ⟨g, j, none⟩ = some v := by
  simp only [World.cell?, hg]
  simpa using h

/-- What slices.Insert of one element leaves. -/
def InsPost (e0 : TypeId) (s : Nat) (sv : Value) (n : Nat) (ys : List Value) (w : World) (e : Ending) (w' : World) : Prop :=
  ∃ g cap, e = .returned (.slice (some ⟨g, 0, none⟩) (n + 1) cap) ∧ w'.ownsRow 0 e0 s (.slice (some ⟨g, 0, none⟩) (n + 1) cap) (n + 1) ys ∧ (sv.ownBlock = some g ∨ w.heap.size ≤ g) ∧ Chg (fun b => sv.ownBlock = some b) w w'

end Go.Proofs.YtnjalelblbjfiaaGreatDoor

namespace Go.Proofs.YtnjalelblbjfiaaGreatDoor
open Go.RowKit

theorem infoI : (Tryz.prog.info? 184).map (fun i => (i.zero, i.size, i.bytes)) = some (some (.agg #[.int .i64 0, .pointer none]), 2, 16) := by kernel_rfl
theorem underI : Tryz.prog.underlying 167 = some (.slice 184) := by kernel_rfl
theorem sizeI : (Tryz.prog.info? 184).map (·.size) = some 2 := by kernel_rfl

set_option maxRecDepth 100000 in
set_option maxHeartbeats 1000000 in
theorem insI_end (sv : Value) (n : Nat) (xs : List Value) (vb : Nat) (vs : List Value) (w : World) (h : w.ownsRow 0 184 2 sv n xs) (hn : n ≤ 199) (hvl : vs.length = 2) (hvs : ∀ j u, vs[j]? = some u → w.cell? ⟨vb, j, none⟩ = some u) (h1 : ∀ u ∈ vs, u.oneCell' = true) :
    Calls Tryz.prog 91 #[sv, .int .i64 n, .slice (some ⟨vb, 0, none⟩) 1 1] w (InsPost 184 2 sv n (xs ++ vs) w) := by
  obtain ⟨i0, hi, hz0, hz1, hz2⟩ := info_parts infoI
  have H := hide h
  have HV := hide hvs
  have hnn : (n : Int) ≤ 199 := by omega
  rcases h.2 with ⟨hv, h0⟩ | ⟨g, cap, cur, hv, _, hg, hcap, hmax, hcs, htk⟩
  · subst hv h0
    clear h hvs
    go_enter Tryz.func91, Tryz.ntmps91
    go_wp2_with (first | (at_builtin; refine wpList_append_lies _ rfl _ _ 167 rfl 0 184 i0 (.agg #[.int .i64 0, .pointer none]) 2 16 underI hi hz0 hz1 hz2 rfl (by decide) _ 0 xs rfl H.out ⟨vb, 0, none⟩ 1 1 vs rfl (by rw [hvl]) (fun j u hj => by rw [Addr.add_lit, Nat.zero_add]; exact HV.out j u hj) h1 (by decide) (by unfold maxLen; omega) (by omega) (Nat.zero_le _) _ rfl ?_))
    intro g1 cap1 w1 hown1 hgrow1 hat1 hlt1
    have P1 := hide (show InsPost 184 2 (.slice none 0 0) 0 (xs ++ vs) w (.returned (.slice (some ⟨g1, 0, none⟩) 1 cap1)) w1 from ⟨g1, cap1, rfl, hown1, by rcases hat1 with e | e; exact .inl e; exact .inr (by omega), Chg.grown hgrow1 fun _ e => e⟩)
    clear hown1 hgrow1 hat1
    go_wp2
    go_ret
    exact P1.out
  · subst hv
    clear h hvs htk hcs hg
    have hb : cap ≤ 9223372036854775807 := by unfold maxLen at hmax; omega
    have hcn : (n : Int) ≤ cap := by omega
    go_enter Tryz.func91, Tryz.ntmps91
    go_wp2_with (first | (at_builtin; refine wpList_append_lies _ rfl _ _ 167 rfl 0 184 i0 (.agg #[.int .i64 0, .pointer none]) 2 16 underI hi hz0 hz1 hz2 rfl (by decide) _ n xs rfl H.out ⟨vb, 0, none⟩ 1 1 vs rfl (by rw [hvl]) (fun j u hj => by rw [Addr.add_lit, Nat.zero_add]; exact HV.out j u hj) h1 (by decide) (by unfold maxLen; omega) (by omega) (Nat.zero_le _) _ rfl ?_))
    all_goals
      intro g1 cap1 w1 hown1 hgrow1 hat1 hlt1
      have P1 := hide (show InsPost 184 2 (.slice (some ⟨g, 0, none⟩) n cap) n (xs ++ vs) w (.returned (.slice (some ⟨g1, 0, none⟩) (n + 1) cap1)) w1 from ⟨g1, cap1, rfl, hown1, by rcases hat1 with e | e; exact .inl e; exact .inr (by omega), Chg.grown hgrow1 fun _ e => e⟩)
      clear hown1 hgrow1 hat1
      go_wp2
      go_ret
      exact P1.out

set_option maxRecDepth 100000 in
set_option maxHeartbeats 1000000 in
theorem insI_room (g n cap i : Nat) (cur : Array Value) (xs : List Value) (vb : Nat) (tv : TypeId) (kv : Nat) (vs : List Value) (w : World) (hg : w.heap[g]? = some (.cells cur 184 (0, 0))) (hmax : cap ≤ maxLen) (hcs : cur.size = cap * 2) (hxl : xs.length = n * 2) (htk : cur.toList.take (n * 2) = xs) (hx1 : ∀ u ∈ xs, u.oneCell' = true)
    (hi : i < n) (hroom : n + 1 ≤ cap) (hn : n ≤ 199) (hvl : vs.length = 2) (hvs : ∀ j u, vs[j]? = some u → w.cell? ⟨vb, j, none⟩ = some u) (h1 : ∀ u ∈ vs, u.oneCell' = true) (hvb : vb ≠ g) (hsa : w.shape? vb = some (tv, kv)) (hfv : ∀ j, w.frozen? ⟨vb, j, none⟩ = false) :
    Calls Tryz.prog 91 #[.slice (some ⟨g, 0, none⟩) n cap, .int .i64 i, .slice (some ⟨vb, 0, none⟩) 1 1] w (InsPost 184 2 (.slice (some ⟨g, 0, none⟩) n cap) n (xs.take (i * 2) ++ vs ++ xs.drop (i * 2)) w) := by
  have hsb : w.shape? g = some (184, cur.size) := by simp [World.shape?, hg]
  have hov : ∀ lb cb, (callFunc 156 #[.slice (some ⟨vb, 0, none⟩) 1 1, .slice (some ⟨g, (i + 1) * 2, none⟩) lb cb]).run Tryz.prog w = .ok (.value (.bool false)) w := fun lb cb => by
    rw [run_callFunc_extern Tryz.func156 (by kernel_rfl) (by kernel_rfl) (by kernel_rfl) (e := Extern.SlicesOverlaps.overlaps #[167, 167] #[4]) (by kernel_rfl),
      Lib.run_overlaps_apart w 167 4 184 underI 2 (fun _ => rfl) ⟨vb, 0, none⟩ ⟨g, (i + 1) * 2, none⟩ 1 1 lb cb hvb tv 184 kv cur.size hsa hsb (by omega) (hfv _) (hfv _)]
    rfl
  have hb : cap ≤ 9223372036854775807 := by unfold maxLen at hmax; omega
  have hcn : (n : Int) ≤ cap := by omega
  have hcn1 : (n : Int) + 1 ≤ cap := by omega
  have hz2 : ¬ ((i : Int) = (n : Int)) := by omega
  have hin : (i : Int) < n := by omega
  have hnc : ¬ ((cap : Int) < (n : Int) + 1) := by omega
  have hci : ¬ (cap = i) := by omega
  have hci1 : ¬ (cap = i + 1) := by omega
  have hw1 : IntKind.i64.wrap ((i : Int) + 1) = (i : Int) + 1 := by rw [IntKind.wrap_i64]; omega
  have hw2 : IntKind.i64.wrap ((n : Int) + 1) = (n : Int) + 1 := by rw [IntKind.wrap_i64]; omega
  have htn : ((i : Int) + 1).toNat = i + 1 := by omega
  have htn2 : ((n : Int) + 1).toNat = n + 1 := by omega
  have hb1 : (0 : Int) ≤ (i : Int) + 1 := by omega
  have hb2 : i ≤ n := by omega
  have hb3 : (i : Int) ≤ (n : Int) + 1 := by omega
  have hcl : cur.toList.length = cap * 2 := by rw [Array.length_toList]; exact hcs
  obtain ⟨D, hD⟩ : ∃ D, D = xs.drop (i * 2) := ⟨_, rfl⟩
  have hDl : D.length = (n - i) * 2 := by rw [hD, List.length_drop, hxl]; omega
  have hDc : ∀ j v, D[j]? = some v → w.cell? ⟨g, i * 2 + j, none⟩ = some v := fun j v hj => by
    rw [hD, List.getElem?_drop, ← htk, List.getElem?_take] at hj
    split at hj
    · exact cell_in_row hg hj
    · cases hj
  have hD1 : ∀ u ∈ D, u.oneCell' = true := fun u hu => hx1 u (by rw [hD] at hu; exact List.mem_of_mem_drop hu)
  have hrow : (splice (splice cur.toList ((i + 1) * 2) D) (i * 2) vs).take ((n + 1) * 2) = xs.take (i * 2) ++ vs ++ xs.drop (i * 2) := by
    rw [show (i + 1) * 2 = i * 2 + 2 by omega, show (n + 1) * 2 = n * 2 + 2 by omega, hD]
    exact ins_room cur.toList xs vs (i * 2) (n * 2) 2 htk hxl hvl (by omega) (by rw [hcl]; omega)
  have hrl : (splice (splice cur.toList ((i + 1) * 2) D) (i * 2) vs).length = cap * 2 := by
    rw [length_splice _ _ _ (by rw [length_splice _ _ _ (by omega)]; omega), length_splice _ _ _ (by omega), hcl]
  obtain ⟨ys, hys⟩ : ∃ ys, ys = xs.take (i * 2) ++ vs ++ xs.drop (i * 2) := ⟨_, rfl⟩
  have hyl : ys.length = (n + 1) * 2 := by rw [hys]; simp only [List.length_append, List.length_take, List.length_drop, hxl, hvl]; omega
  rw [← hys] at hrow ⊢
  have HG : Hid (w.heap[g]? = some (.cells cur.toList.toArray 184 (0, 0))) := hide (by rw [hg])
  have HV := hide hvs
  have HC := hide hcl
  have HDl := hide hDl
  have HDc := hide hDc
  have HD1 := hide hD1
  have HR := hide hrow
  have HRl := hide hrl
  have HYl := hide hyl
  clear hg hvs htk hxl hcs hsb hcl hDl hDc hD1 hrow hrl hyl hys hD
  generalize cur.toList = C at *
  have hmx := hide hmax
  clear hmax
  go_enter Tryz.func91, Tryz.ntmps91
  go_wp2_with (simp only [hov])
  go_region_law (refine step_copy_wide rfl _ _ 167 167 rfl 184 2 underI sizeI g ((i + 1) * 2) (n - i) (cap - (i + 1)) ⟨g, i * 2, none⟩ (n + 1 - i) (cap - i) (by simp [Act.eval, Act.put]) (by simp [Act.eval, Act.put]) C 184 HG.out D (n - i) (by simp only [Nat.min_def]; split <;> omega) HDl.out (fun j v hj => by rw [Addr.add_lit]; exact HDc.out j v hj) (by rw [HDl.out, HC.out]; omega) HD1.out (fun b => b = g) w (Chg.refl _ _).drew (.inl rfl) ?_; intro w1 G1 C1 O1)
  have HV1 : Hid (∀ j u, vs[j]? = some u → w1.cell? ⟨vb, j, none⟩ = some u) := hide fun j u hj => (World.cell?_of_block (w := w) (a := ⟨vb, j, none⟩) (O1.out vb hvb)).trans (HV.out j u hj)
  have HL1 : Hid (i * 2 + vs.length ≤ (splice C ((i + 1) * 2) D).length) := hide (by rw [length_splice _ _ _ (by rw [HDl.out, HC.out]; omega), HC.out, hvl]; omega)
  go_wp2_with (refine wpList_copy_wide rfl _ _ 167 167 rfl 184 2 underI sizeI g (i * 2) (n + 1 - i) (cap - i) ⟨vb, 0, none⟩ 1 1 rfl rfl (splice C ((i + 1) * 2) D) 184 G1.out vs 1 (by simp only [Nat.min_def]; split <;> omega) (by rw [hvl]) (fun j v hj => by rw [Addr.add_lit, Nat.zero_add]; exact HV1.out j v hj) HL1.out h1 (fun b => b = g) w C1.out (.inl rfl) ?_)
  intro w2 G2 C2 O2
  go_wp2
  go_ret
  exact ⟨g, cap, rfl, ⟨HYl.out, .inr ⟨g, cap, _, rfl, Nat.zero_le _, G2.out, hroom, hmx.out, by rw [List.size_toArray]; exact HRl.out, HR.out⟩⟩, .inl rfl, C2.out.mono fun x _ hx => by subst hx; rfl⟩

theorem cells_zeroI : (Value.cells (.agg #[.int .i64 0, .pointer none])).size = 2 := rfl

set_option maxRecDepth 100000 in
set_option maxHeartbeats 1000000 in
theorem insI_grow (g n cap i : Nat) (cur : Array Value) (xs : List Value) (vb : Nat) (vs : List Value) (w : World) (hg : w.heap[g]? = some (.cells cur 184 (0, 0))) (hxl : xs.length = n * 2) (htk : cur.toList.take (n * 2) = xs) (hx1 : ∀ u ∈ xs, u.oneCell' = true)
    (hi : i < n) (hnc0 : n ≤ cap) (hroom : cap < n + 1) (hn : n ≤ 199) (hvl : vs.length = 2) (hvs : ∀ j u, vs[j]? = some u → w.cell? ⟨vb, j, none⟩ = some u) (h1 : ∀ u ∈ vs, u.oneCell' = true) :
    Calls Tryz.prog 91 #[.slice (some ⟨g, 0, none⟩) n cap, .int .i64 i, .slice (some ⟨vb, 0, none⟩) 1 1] w (InsPost 184 2 (.slice (some ⟨g, 0, none⟩) n cap) n (xs.take (i * 2) ++ vs ++ xs.drop (i * 2)) w) := by
  obtain rfl : cap = n := by omega
  obtain ⟨i0, hii, hz0, hzs, hzb⟩ := info_parts infoI
  have hglt : g < w.heap.size := (Array.getElem?_eq_some_iff.1 hg).1
  have hvlt : vb < w.heap.size := by
    obtain ⟨u, hu⟩ : ∃ u, vs[0]? = some u := ⟨_, List.getElem?_eq_getElem (by omega)⟩
    exact block_lt_of_cell (hvs 0 u hu)
  obtain ⟨D, hD⟩ : ∃ D, D = xs.drop (i * 2) := ⟨_, rfl⟩
  have hDl : D.length = (cap - i) * 2 := by rw [hD, List.length_drop, hxl]; omega
  have hDc : ∀ j v, D[j]? = some v → w.cell? ⟨g, i * 2 + j, none⟩ = some v := fun j v hj => by
    rw [hD, List.getElem?_drop, ← htk, List.getElem?_take] at hj
    split at hj
    · exact cell_in_row hg hj
    · cases hj
  have hD1 : ∀ u ∈ D, u.oneCell' = true := fun u hu => hx1 u (by rw [hD] at hu; exact List.mem_of_mem_drop hu)
  have hold : (Builtin.firstCells i0.size i (.slice (some ⟨g, 0, none⟩) i cap)).run Tryz.prog w.drew = .ok (xs.take (i * 2)).toArray w.drew := by
    rw [hzs]
    exact run_firstCells_some w.drew 2 i ⟨g, 0, none⟩ i cap (xs.take (i * 2)) (by rw [List.length_take]; omega) (fun j v hj => by
      rw [Addr.add_lit, Nat.zero_add]
      rw [List.getElem?_take] at hj
      split at hj
      · rw [← htk, List.getElem?_take] at hj
        split at hj
        · exact cell_in_row hg hj
        · cases hj
      · cases hj)
  have hik : i + (cap + 1 - i) = cap + 1 := by omega
  have hkk : (cap : Int) + 1 - (i : Int) = ((cap + 1 - i : Nat) : Int) := by omega
  obtain ⟨G, hG⟩ : ∃ G, G = grownCap w (cap + 1) cap 184 := ⟨_, rfl⟩
  obtain ⟨ROW, hROW⟩ : ∃ ROW : Array Value, ROW = (xs.take (i * 2)).toArray ++ Builtin.zeroCells (Value.cells (.agg #[.int .i64 0, .pointer none])) (cap + 1 - i) ++ Builtin.zeroCells (Value.cells (.agg #[.int .i64 0, .pointer none])) (G - (cap + 1)) := ⟨_, rfl⟩
  obtain ⟨W1, hW1⟩ : ∃ W1, W1 = w.drew.alloc (.cells ROW 184) := ⟨_, rfl⟩
  have hrz : ∀ ty, (Builtin.append_ #[167, 3] ty #[.slice (some ⟨g, 0, none⟩) i cap, .int .i64 ((cap : Int) + 1 - (i : Int))]).run Tryz.prog w = .ok (.slice (some ⟨w.heap.size, 0, none⟩) (cap + 1) G) W1 := fun ty => by
    have h := Lib.run_append_grow_zeros w 167 3 ty 184 i0 _ .i64 .i64 underI (by kernel_rfl) hii hz0 (some ⟨g, 0, none⟩) i cap (xs.take (i * 2)) hold (cap + 1 - i) (by omega) (by omega) (by omega) (by omega) (by rw [hzb]; omega) (by rw [hzb, hik]; exact growslice_fits hroom (by omega))
    rw [hik] at h
    rw [hkk, hW1, hROW, hG]
    exact h
  have hGn : cap + 1 ≤ G := by rw [hG]; exact grownCap_ge w _ _ _
  have hGm : G ≤ maxLen := by rw [hG]; exact grownCap_le_maxLen w (cap + 1) cap 184 (by unfold maxLen; omega)
  have hG63 : G ≤ 9223372036854775807 := by unfold maxLen at hGm; omega
  have hRs : ROW.toList.length = G * 2 := by
    rw [hROW]
    simp only [Builtin.zeroCells, cells_zeroI, Array.toList_append, List.length_append, Array.length_toList, Array.size_map, Array.size_range, List.length_take]
    omega
  have hRt : ROW.toList.take (i * 2) = xs.take (i * 2) := by
    rw [hROW, Array.toList_append, Array.toList_append, List.append_assoc, List.take_append_of_le_length (by rw [List.length_take]; omega), List.take_take, Nat.min_self]
  have hrow : (splice (splice ROW.toList (i * 2) vs) ((i + 1) * 2) D).take ((cap + 1) * 2) = xs.take (i * 2) ++ vs ++ xs.drop (i * 2) := by
    rw [show (i + 1) * 2 = i * 2 + 2 by omega, show (cap + 1) * 2 = cap * 2 + 2 by omega, hD]
    exact ins_grow ROW.toList xs vs (i * 2) (cap * 2) 2 hRt hxl hvl (by omega) (by rw [hRs]; omega)
  have hl1 : (splice ROW.toList (i * 2) vs).length = G * 2 := by rw [length_splice _ _ _ (by omega), hRs]
  have hrl : (splice (splice ROW.toList (i * 2) vs) ((i + 1) * 2) D).length = G * 2 := by rw [length_splice _ _ _ (by omega), hl1]
  obtain ⟨ys, hys⟩ : ∃ ys, ys = xs.take (i * 2) ++ vs ++ xs.drop (i * 2) := ⟨_, rfl⟩
  have hyl : ys.length = (cap + 1) * 2 := by rw [hys]; simp only [List.length_append, List.length_take, List.length_drop, hxl, hvl]; omega
  rw [← hys] at hrow ⊢
  obtain ⟨N, hN⟩ : ∃ N, N = w.heap.size := ⟨_, rfl⟩
  have HG : Hid (W1.heap[N]? = some (.cells ROW.toList.toArray 184 (0, 0))) := hide (by rw [hW1, hN]; exact (by simp : (w.heap.push (Obj.cells ROW 184))[w.heap.size]? = some (Obj.cells ROW.toList.toArray 184)))
  have HO : Hid (∀ k, k < N → W1.heap[k]? = w.heap[k]?) := hide fun k hk => by rw [hW1]; exact ((Below.refl w.heap.size w.drew).alloc (Nat.le_refl _) _).block k (by omega)
  have HCh : Hid (Chg (fun b => b = g) w W1) := hide (by rw [hW1]; exact (Chg.refl _ w).drew.alloc _)
  rw [← hN] at hrz hglt hvlt
  have HV1 : Hid (∀ j u, vs[j]? = some u → W1.cell? ⟨vb, j, none⟩ = some u) := hide fun j u hj => (World.cell?_of_block (w := w) (a := ⟨vb, j, none⟩) (HO.out vb hvlt)).trans (hvs j u hj)
  have HD2 : Hid (∀ j v, D[j]? = some v → W1.cell? ⟨g, i * 2 + j, none⟩ = some v) := hide fun j v hj => (World.cell?_of_block (w := w) (a := ⟨g, i * 2 + j, none⟩) (HO.out g hglt)).trans (hDc j v hj)
  have HDl := hide hDl
  have HD1 := hide hD1
  have HR := hide hrow
  have HRl := hide hrl
  have HRs := hide hRs
  have HL1 := hide hl1
  have HYl := hide hyl
  have HGm := hide hGm
  have HN := hide hN
  have hgN : g ≠ N := by omega
  clear hg hvs htk hxl hDl hDc hD1 hrow hrl hyl hys hD hold hik hkk hROW hRs hRt hl1 hW1 hG hGm hN HO hx1
  generalize ROW.toList = C at *
  have hb : cap ≤ 9223372036854775807 := by omega
  have hz2 : ¬ ((i : Int) = (cap : Int)) := by omega
  have hin : (i : Int) < cap := by omega
  have hnc : (cap : Int) < (cap : Int) + 1 := by omega
  have hci : ¬ (cap = i) := by omega
  have hGi : ¬ (G = i) := by omega
  have hGi1 : ¬ (G = i + 1) := by omega
  have hw1 : IntKind.i64.wrap ((i : Int) + 1) = (i : Int) + 1 := by rw [IntKind.wrap_i64]; omega
  have hw2 : IntKind.i64.wrap ((cap : Int) + 1) = (cap : Int) + 1 := by rw [IntKind.wrap_i64]; omega
  have hw3 : IntKind.i64.wrap ((cap : Int) + 1 - (i : Int)) = (cap : Int) + 1 - (i : Int) := by rw [IntKind.wrap_i64]; omega
  have htn : ((i : Int) + 1).toNat = i + 1 := by omega
  have hb1 : (0 : Int) ≤ (i : Int) + 1 := by omega
  have hb2 : i ≤ cap := by omega
  have hb3 : (i : Int) ≤ (cap : Int) + 1 := by omega
  go_enter Tryz.func91, Tryz.ntmps91
  go_wp2_with (first | (at_builtin; refine Lib.wpList_append_run _ rfl _ _ 167 3 rfl _ _ rfl rfl _ _ (hrz _) ?_) | (refine wpList_copy_wide rfl _ _ 167 167 rfl 184 2 underI sizeI N (i * 2) (cap + 1 - i) (G - i) ⟨vb, 0, none⟩ 1 1 rfl rfl C 184 HG.out vs 1 (by simp only [Nat.min_def]; split <;> omega) (by rw [hvl]) (fun j v hj => by rw [Addr.add_lit, Nat.zero_add]; exact HV1.out j v hj) (by rw [HRs.out, hvl]; omega) h1 (fun b => b = g) w HCh.out (.inr (Nat.le_of_eq HN.out.symm)) ?_))
  intro w1 G1 C1 O1
  have HD3 : Hid (∀ j v, D[j]? = some v → w1.cell? ⟨g, i * 2 + j, none⟩ = some v) := hide fun j v hj => (World.cell?_of_block (w := W1) (a := ⟨g, i * 2 + j, none⟩) (O1.out g hgN)).trans (HD2.out j v hj)
  go_wp2
  go_region_law (refine step_copy_wide rfl _ _ 167 167 rfl 184 2 underI sizeI N ((i + 1) * 2) (cap - i) (G - (i + 1)) ⟨g, i * 2, none⟩ (cap - i) (cap - i) (by simp [Act.eval, Act.put]) (by simp [Act.eval, Act.put]) (splice C (i * 2) vs) 184 G1.out D (cap - i) (by simp only [Nat.min_def]; split <;> omega) HDl.out (fun j v hj => by rw [Addr.add_lit]; exact HD3.out j v hj) (by rw [HDl.out, HL1.out]; omega) HD1.out (fun b => b = g) w C1.out.drew (.inr (Nat.le_of_eq HN.out.symm)) ?_; intro w2 G2 C2 O2)
  go_wp2
  go_ret
  exact ⟨N, G, rfl, ⟨HYl.out, .inr ⟨N, G, _, rfl, Nat.zero_le _, G2.out, hGn, HGm.out, by rw [List.size_toArray]; exact HRl.out, HR.out⟩⟩, .inr (Nat.le_of_eq HN.out.symm), C2.out.mono fun x _ hx => by subst hx; rfl⟩

/-- slices.Insert of one element. -/
theorem insI_any (sv : Value) (n i : Nat) (xs : List Value) (vb : Nat) (tv : TypeId) (kv : Nat) (vs : List Value) (w : World) (h : w.ownsRow 0 184 2 sv n xs) (hx1 : ∀ u ∈ xs, u.oneCell' = true) (hi : i ≤ n) (hn : n ≤ 199) (hvl : vs.length = 2)
    (hvs : ∀ j u, vs[j]? = some u → w.cell? ⟨vb, j, none⟩ = some u) (h1 : ∀ u ∈ vs, u.oneCell' = true) (hvb : sv.ownBlock ≠ some vb) (hsa : w.shape? vb = some (tv, kv)) (hfv : ∀ j, w.frozen? ⟨vb, j, none⟩ = false) :
    Calls Tryz.prog 91 #[sv, .int .i64 i, .slice (some ⟨vb, 0, none⟩) 1 1] w (InsPost 184 2 sv n (xs.take (i * 2) ++ vs ++ xs.drop (i * 2)) w) := by
  by_cases hin : i = n
  · subst hin
    have e1 : xs.take (i * 2) = xs := List.take_of_length_le (by rw [h.1]; exact Nat.le_refl _)
    have e2 : xs.drop (i * 2) = [] := List.drop_eq_nil_of_le (by rw [h.1]; exact Nat.le_refl _)
    rw [e1, e2, List.append_nil]
    exact insI_end sv i xs vb vs w h hn hvl hvs h1
  · have h' := h
    rcases h.2 with ⟨hv, h0⟩ | ⟨g, cap, cur, hv, _, hg, hcap, hmax, hcs, htk⟩
    · omega
    · subst hv
      by_cases hr : n + 1 ≤ cap
      · exact insI_room g n cap i cur xs vb tv kv vs w hg hmax hcs h'.1 htk hx1 (by omega) hr hn hvl hvs h1 (fun e => hvb (by rw [e]; rfl)) hsa hfv
      · exact insI_grow g n cap i cur xs vb vs w hg h'.1 htk hx1 (by omega) hcap (by omega) hn hvl hvs h1

end Go.Proofs.YtnjalelblbjfiaaGreatDoor
