import Derived.Test.YtaejpejfmpbinaaGreatDoorP11
import Derived.Laws.CopyOwn
import Derived.Lib.AppendZerosOnto
import Derived.Lib.Overlaps
import Derived.Lib.AppendZeros
namespace Go.Proofs.YtaejpejfmpbinaaGreatDoor
open Go.RowKit
open Go.Sort (grow)

attribute [local go_sem] cell?_regrown

set_option maxRecDepth 100000 in
set_option maxHeartbeats 1000000 in
theorem bsI_any (m g cap n : Nat) (a : Option Addr) (K : Nat → Int) (E : Nat → Nat) (x : Int) (w : World) (hn : n ≤ 200) (hm : w.cell? ⟨m, 0, none⟩ = some (.func (.func 44) #[] #[]))
    (hc : ∀ j, j < n → a = some ⟨g, 0, none⟩ ∧ w.cell? ⟨g, (j) * 2, none⟩ = some (.int .i64 (K (j))) ∧ w.cell? ⟨g, (j) * 2 + 1, none⟩ = some (.pointer (some ⟨E (j), 0, none⟩))) (hmono : ∀ i j, i ≤ j → j < n → cmpI (K j) x < 0 → cmpI (K i) x < 0) :
    Calls Tryz.prog 148 #[.slice a n cap, .int .i64 x, .func (.func 149) #[.pointer (some ⟨m, 0, none⟩)] #[]] w fun e w' => ∃ i : Nat, i ≤ n ∧ (∀ j, j < i → cmpI (K j) x < 0) ∧ (∀ j, i ≤ j → j < n → 0 ≤ cmpI (K j) x) ∧ e = .returned (.tuple #[.int .i64 i, .bool (decide (i < n) && (cmpI (K i) x == 0))]) ∧ Below w.heap.size w w' := by
  have hmlt : m < w.heap.size := block_lt_of_cell hm
  go_enter Tryz.func148, Tryz.ntmps148
  go_wp2
  go_loopw [9, 10] (fun vi vj wr => ∃ i j : Nat, i ≤ j ∧ j ≤ n ∧ vi = .int .i64 i ∧ vj = .int .i64 j ∧ (∀ q, q < i → cmpI (K q) x < 0) ∧ (∀ q, j ≤ q → q < n → 0 ≤ cmpI (K q) x) ∧ Below w.heap.size w wr) (fun vi vj _ => (intOf vj - intOf vi).toNat)
  case atStart => exact ⟨0, n, by omega, by omega, rfl, rfl, by omega, by omega, (by repeat (first | exact Below.refl _ _ | assumption | refine Below.drewN ?_ | refine Below.drew ?_ | refine Below.setCell ?_ (by first | exact Nat.le_refl _ | omega | (simp; done) | (simp; omega)) _ | refine Below.alloc ?_ (by first | exact Nat.le_refl _ | omega | (simp; done) | (simp; omega)) _))⟩
  case round =>
    obtain ⟨i, j, hij, hjn, rfl, rfl, hL, hR, hb⟩ := hrel
    have hm' := (hb.cell (p := ⟨m, 0, none⟩) hmlt).trans hm
    have HL := hide hL
    have HR := hide hR
    clear hL hR
    by_cases hlt : i < j
    · obtain ⟨h, hh⟩ : ∃ h : Nat, h = (i + j) / 2 := ⟨_, rfl⟩
      have hh1 : i ≤ h := by omega
      have hh2 : h < j := by omega
      obtain ⟨rfl, c0, c1⟩ := hc h (by omega)
      have d0 := (hb.cell (p := ⟨g, h * 2, none⟩) (block_lt_of_cell c0)).trans c0
      have d1 := (hb.cell (p := ⟨g, h * 2 + 1, none⟩) (block_lt_of_cell c1)).trans c1
      have hglt : g < wr.heap.size := block_lt_of_cell d0
      have e1 : ((i : Int) + j) / 2 = h := by omega
      have hhn : (h : Int) < n := by omega
      have HM := hide fun q (hq : q ≤ h) (h' : cmpI (K h) x < 0) => hmono q h hq (by omega) h'
      have HM2 := hide fun q (hq : h ≤ q) (hqn : q < n) (h' : cmpI (K q) x < 0) => hmono h q hq hqn h'
      clear hh c0 c1
      go_wp2_with fail
      refine (againstI_any m (K h) (some ⟨E h, 0, none⟩) x _ hm').mono ?_
      rintro e wq ⟨rfl, hwq⟩
      have hbq : Below wr.heap.size wr wq := hwq
      have HBQ := hide (hb.trans (hbq.mono hb.size))
      by_cases hneg : cmpI (K h) x < 0
      · go_wp2
        go_roundw
        case rel => exact ⟨h + 1, j, by omega, by omega, by go_num, rfl, fun q hq => HM.out q (by omega) hneg, HR.out, HBQ.out⟩
        case measure => simp [intOf]; omega
      · have HN := hide hneg
        go_wp2
        go_roundw
        case rel => exact ⟨i, h, by omega, by omega, rfl, rfl, HL.out, fun q hq hqn => Int.not_lt.1 fun h' => absurd (HM2.out q hq hqn h') (by have := HN.out; omega), HBQ.out⟩
        case measure => simp [intOf]; omega
    · obtain rfl : i = j := by omega
      by_cases hin : i < n
      · obtain ⟨rfl, c0, c1⟩ := hc i hin
        have d0 := (hb.cell (p := ⟨g, i * 2, none⟩) (block_lt_of_cell c0)).trans c0
        have d1 := (hb.cell (p := ⟨g, i * 2 + 1, none⟩) (block_lt_of_cell c1)).trans c1
        have hglt : g < wr.heap.size := block_lt_of_cell d0
        have hini : (i : Int) < n := by omega
        clear c0 c1
        go_wp2_with fail
        refine (againstI_any m (K i) (some ⟨E i, 0, none⟩) x _ hm').mono ?_
        rintro e wq ⟨rfl, hwq⟩
        have hbq : Below wr.heap.size wr wq := hwq
        go_wp2
        go_ret2
        exact ⟨i, by omega, HL.out, HR.out, by simp [hin], hb.trans (hbq.mono hb.size)⟩
      · go_wp2
        go_ret2
        exact ⟨i, by omega, HL.out, HR.out, by simp [hin], hb⟩

set_option maxRecDepth 100000 in
set_option maxHeartbeats 1000000 in
theorem bsR_any (m g cap n : Nat) (a : Option Addr) (K K2 : Nat → Int) (E : Nat → Nat) (x x2 : Int) (w : World) (hn : n ≤ 200) (hm : w.cell? ⟨m, 0, none⟩ = some (.func (.func 94) #[] #[]))
    (hc : ∀ j, j < n → a = some ⟨g, 0, none⟩ ∧ w.cell? ⟨g, (j) * 3, none⟩ = some (.int .i64 (K (j))) ∧ w.cell? ⟨g, (j) * 3 + 1, none⟩ = some (.int .i64 (K2 (j))) ∧ w.cell? ⟨g, (j) * 3 + 2, none⟩ = some (.pointer (some ⟨E (j), 0, none⟩))) (hmono : ∀ i j, i ≤ j → j < n → cmpR (K j) (K2 j) x x2 < 0 → cmpR (K i) (K2 i) x x2 < 0) :
    Calls Tryz.prog 153 #[.slice a n cap, .agg #[.int .i64 x, .int .i64 x2], .func (.func 154) #[.pointer (some ⟨m, 0, none⟩)] #[]] w fun e w' => ∃ i : Nat, i ≤ n ∧ (∀ j, j < i → cmpR (K j) (K2 j) x x2 < 0) ∧ (∀ j, i ≤ j → j < n → 0 ≤ cmpR (K j) (K2 j) x x2) ∧ e = .returned (.tuple #[.int .i64 i, .bool (decide (i < n) && (cmpR (K i) (K2 i) x x2 == 0))]) ∧ Below w.heap.size w w' := by
  have hmlt : m < w.heap.size := block_lt_of_cell hm
  go_enter Tryz.func153, Tryz.ntmps153
  go_wp2
  go_loopw [9, 10] (fun vi vj wr => ∃ i j : Nat, i ≤ j ∧ j ≤ n ∧ vi = .int .i64 i ∧ vj = .int .i64 j ∧ (∀ q, q < i → cmpR (K q) (K2 q) x x2 < 0) ∧ (∀ q, j ≤ q → q < n → 0 ≤ cmpR (K q) (K2 q) x x2) ∧ Below w.heap.size w wr ∧ w.heap.size < wr.heap.size ∧ wr.cell? ⟨w.heap.size, 0, none⟩ = some (.int .i64 x) ∧ wr.cell? ⟨w.heap.size, 1, none⟩ = some (.int .i64 x2)) (fun vi vj _ => (intOf vj - intOf vi).toNat)
  case atStart => exact ⟨0, n, by omega, by omega, rfl, rfl, by omega, by omega, (by repeat (first | exact Below.refl _ _ | assumption | refine Below.drewN ?_ | refine Below.drew ?_ | refine Below.setCell ?_ (by first | exact Nat.le_refl _ | omega | (simp; done) | (simp; omega)) _ | refine Below.alloc ?_ (by first | exact Nat.le_refl _ | omega | (simp; done) | (simp; omega)) _)), (by first | exact Nat.le_refl _ | omega | (simp; done) | (simp; omega)), by simp, by simp⟩
  case round =>
    obtain ⟨i, j, hij, hjn, rfl, rfl, hL, hR, hb, hbl, x0, x1⟩ := hrel
    have hm' := (hb.cell (p := ⟨m, 0, none⟩) hmlt).trans hm
    have HL := hide hL
    have HR := hide hR
    clear hL hR
    by_cases hlt : i < j
    · obtain ⟨h, hh⟩ : ∃ h : Nat, h = (i + j) / 2 := ⟨_, rfl⟩
      have hh1 : i ≤ h := by omega
      have hh2 : h < j := by omega
      obtain ⟨rfl, c0, c1, c2⟩ := hc h (by omega)
      have d0 := (hb.cell (p := ⟨g, h * 3, none⟩) (block_lt_of_cell c0)).trans c0
      have d1 := (hb.cell (p := ⟨g, h * 3 + 1, none⟩) (block_lt_of_cell c1)).trans c1
      have d2 := (hb.cell (p := ⟨g, h * 3 + 2, none⟩) (block_lt_of_cell c2)).trans c2
      have hglt : g < wr.heap.size := block_lt_of_cell d0
      have e1 : ((i : Int) + j) / 2 = h := by omega
      have hhn : (h : Int) < n := by omega
      have HM := hide fun q (hq : q ≤ h) (h' : cmpR (K h) (K2 h) x x2 < 0) => hmono q h hq (by omega) h'
      have HM2 := hide fun q (hq : h ≤ q) (hqn : q < n) (h' : cmpR (K q) (K2 q) x x2 < 0) => hmono h q hq hqn h'
      clear hh c0 c1 c2
      have CA := hide fun (d : Nat) (os : Array Obj) => againstR_any m (K h) (K2 h) (some ⟨E h, 0, none⟩) x x2 (grow (redrawn wr d) os) ((below_regrown wr d os).cell (p := ⟨m, 0, none⟩) (block_lt_of_cell hm') |>.trans hm')
      go_wp2_with fail
      refine wp_region_quiet_below (by kernel_rfl) (by kernel_rfl) ?_
      repeat (quiet_step (exact Calls.regrown_of (CA.out _ _)))
      refine wpQuiet_nil ?_; intro wq hwq; replace hwq := below_of_regrown hwq; obtain ⟨hcq, hfq⟩ := bcell hwq; have hzq := hwq.size
      have hbq : Below wr.heap.size wr wq := hwq
      clear hcq hfq hzq CA
      have HBQ := hide (hb.trans (hbq.mono hb.size))
      by_cases hneg : cmpR (K h) (K2 h) x x2 < 0
      · go_wp2
        go_roundw
        case rel => exact ⟨h + 1, j, by omega, by omega, by go_num, rfl, fun q hq => HM.out q (by omega) hneg, HR.out, HBQ.out, Nat.lt_of_lt_of_le hbl hbq.size, cell_later hbq x0, cell_later hbq x1⟩
        case measure => simp [intOf]; omega
      · have HN := hide hneg
        go_wp2
        go_roundw
        case rel => exact ⟨i, h, by omega, by omega, rfl, rfl, HL.out, fun q hq hqn => Int.not_lt.1 fun h' => absurd (HM2.out q hq hqn h') (by have := HN.out; omega), HBQ.out, Nat.lt_of_lt_of_le hbl hbq.size, cell_later hbq x0, cell_later hbq x1⟩
        case measure => simp [intOf]; omega
    · obtain rfl : i = j := by omega
      by_cases hin : i < n
      · obtain ⟨rfl, c0, c1, c2⟩ := hc i hin
        have d0 := (hb.cell (p := ⟨g, i * 3, none⟩) (block_lt_of_cell c0)).trans c0
        have d1 := (hb.cell (p := ⟨g, i * 3 + 1, none⟩) (block_lt_of_cell c1)).trans c1
        have d2 := (hb.cell (p := ⟨g, i * 3 + 2, none⟩) (block_lt_of_cell c2)).trans c2
        have hglt : g < wr.heap.size := block_lt_of_cell d0
        have hini : (i : Int) < n := by omega
        clear c0 c1 c2
        have CA := hide fun (d : Nat) (os : Array Obj) => againstR_any m (K i) (K2 i) (some ⟨E i, 0, none⟩) x x2 (grow (redrawn wr d) os) ((below_regrown wr d os).cell (p := ⟨m, 0, none⟩) (block_lt_of_cell hm') |>.trans hm')
        go_wp2_with fail
        refine wp_region_quiet_below (by kernel_rfl) (by kernel_rfl) ?_
        repeat (first | go_big_quiet_skip | quiet_step (exact Calls.regrown_of (CA.out _ _)))
        refine wpQuiet_nil ?_; intro wq hwq; replace hwq := below_of_regrown hwq; obtain ⟨hcq, hfq⟩ := bcell hwq; have hzq := hwq.size
        have hbq : Below wr.heap.size wr wq := hwq
        clear hcq hfq hzq CA
        go_wp2
        go_ret2
        exact ⟨i, by omega, HL.out, HR.out, by simp [hin], hb.trans (hbq.mono hb.size)⟩
      · go_wp2_with fail
        refine wp_region_quiet_below (by kernel_rfl) (by kernel_rfl) ?_
        repeat (first | go_big_quiet_skip | quiet_step (fail))
        refine wpQuiet_nil ?_; intro wq hwq; replace hwq := below_of_regrown hwq; obtain ⟨hcq, hfq⟩ := bcell hwq; have hzq := hwq.size
        have hbq : Below wr.heap.size wr wq := hwq
        clear hcq hfq hzq
        go_wp2
        go_ret2
        exact ⟨i, by omega, HL.out, HR.out, by simp [hin], hb.trans (hbq.mono hb.size)⟩

end Go.Proofs.YtaejpejfmpbinaaGreatDoor

namespace Go.Proofs.YtaejpejfmpbinaaGreatDoor
open Go.RowKit
open Go.Sort (grow)

/-- The cells of the two maps' arrays. -/
def rowI (L : List Ent) : List Value := L.flatMap fun e => [.int .i64 e.2.id, .pointer (some ⟨e.1, 0, none⟩)]
def rowR (L : List Ent) : List Value := L.flatMap fun e => [.int .i64 e.2.pr, .int .i64 e.2.id, .pointer (some ⟨e.1, 0, none⟩)]
theorem rowI_length (L : List Ent) : (rowI L).length = L.length * 2 := by
  induction L with
  | nil => rfl
  | cons e t ih => simp [rowI] at ih ⊢; omega
theorem rowR_length (L : List Ent) : (rowR L).length = L.length * 3 := by
  induction L with
  | nil => rfl
  | cons e t ih => simp [rowR] at ih ⊢; omega
theorem rowI_get (L : List Ent) : ∀ k (hk : k < L.length), (rowI L)[k * 2]? = some (.int .i64 L[k].2.id) ∧ (rowI L)[k * 2 + 1]? = some (.pointer (some ⟨L[k].1, 0, none⟩)) := by
  induction L with
  | nil => intro k hk; simp at hk
  | cons p t ih =>
    intro k hk
    match k, hk with
    | 0, _ => exact ⟨rfl, rfl⟩
    | k + 1, hk =>
      have := ih k (by simpa using hk)
      have e : (k + 1) * 2 = k * 2 + 2 := by omega
      rw [e]
      exact this
theorem rowR_get (L : List Ent) : ∀ k (hk : k < L.length), (rowR L)[k * 3]? = some (.int .i64 L[k].2.pr) ∧ (rowR L)[k * 3 + 1]? = some (.int .i64 L[k].2.id) ∧ (rowR L)[k * 3 + 2]? = some (.pointer (some ⟨L[k].1, 0, none⟩)) := by
  induction L with
  | nil => intro k hk; simp at hk
  | cons p t ih =>
    intro k hk
    match k, hk with
    | 0, _ => exact ⟨rfl, rfl, rfl⟩
    | k + 1, hk =>
      have := ih k (by simpa using hk)
      have e : (k + 1) * 3 = k * 3 + 3 := by omega
      rw [e]
      exact this

/-- A map's block: the order, the entries. -/
def MapI (w : World) (m : Nat) (sv : Value) (L : List Ent) : Prop :=
  w.cell? ⟨m, 0, none⟩ = some (.func (.func 44) #[] #[]) ∧ w.cell? ⟨m, 1, none⟩ = some sv ∧ w.ownsRow 0 216 2 sv L.length (rowI L) ∧ (∀ j, w.frozen? ⟨m, j, none⟩ = false) ∧ L.length ≤ 200
def MapR (w : World) (m : Nat) (sv : Value) (L : List Ent) : Prop :=
  w.cell? ⟨m, 0, none⟩ = some (.func (.func 94) #[] #[]) ∧ w.cell? ⟨m, 1, none⟩ = some sv ∧ w.ownsRow 0 224 3 sv L.length (rowR L) ∧ (∀ j, w.frozen? ⟨m, j, none⟩ = false) ∧ L.length ≤ 200

theorem rowI_cells {w : World} {sv : Value} {L : List Ent} (h : w.ownsRow 0 216 2 sv L.length (rowI L)) : ∃ a cap g, sv = .slice a L.length cap ∧ ∀ j (hj : j < L.length), a = some ⟨g, 0, none⟩ ∧ w.cell? ⟨g, j * 2, none⟩ = some (.int .i64 L[j].2.id) ∧ w.cell? ⟨g, j * 2 + 1, none⟩ = some (.pointer (some ⟨L[j].1, 0, none⟩)) := by
  rcases h.2 with ⟨hv, h0⟩ | ⟨g, cap, cur, hv, _⟩
  · exact ⟨none, 0, 0, by rw [hv, h0], fun j hj => by omega⟩
  · refine ⟨_, cap, g, hv, fun j hj => ⟨rfl, ?_⟩⟩
    rw [hv] at h
    have := rowI_get L j hj
    exact ⟨(h.cellAt _ (by omega)).trans this.1, (h.cellAt _ (by omega)).trans this.2⟩
theorem rowR_cells {w : World} {sv : Value} {L : List Ent} (h : w.ownsRow 0 224 3 sv L.length (rowR L)) : ∃ a cap g, sv = .slice a L.length cap ∧ ∀ j (hj : j < L.length), a = some ⟨g, 0, none⟩ ∧ w.cell? ⟨g, j * 3, none⟩ = some (.int .i64 L[j].2.pr) ∧ w.cell? ⟨g, j * 3 + 1, none⟩ = some (.int .i64 L[j].2.id) ∧ w.cell? ⟨g, j * 3 + 2, none⟩ = some (.pointer (some ⟨L[j].1, 0, none⟩)) := by
  rcases h.2 with ⟨hv, h0⟩ | ⟨g, cap, cur, hv, _⟩
  · exact ⟨none, 0, 0, by rw [hv, h0], fun j hj => by omega⟩
  · refine ⟨_, cap, g, hv, fun j hj => ⟨rfl, ?_⟩⟩
    rw [hv] at h
    have := rowR_get L j hj
    exact ⟨(h.cellAt _ (by omega)).trans this.1, (h.cellAt _ (by omega)).trans this.2.1, (h.cellAt _ (by omega)).trans this.2.2⟩

/-- Number j's ID, priority, block (0, if there is none). -/
def idAt (L : List Ent) (j : Nat) : Int := (L[j]?.map fun e => e.2.id).getD 0
def prAt (L : List Ent) (j : Nat) : Int := (L[j]?.map fun e => e.2.pr).getD 0
def blAt (L : List Ent) (j : Nat) : Nat := (L[j]?.map fun e => e.1).getD 0
theorem idAt_eq {L : List Ent} {j : Nat} (h : j < L.length) : idAt L j = L[j].2.id := by simp [idAt, h]
theorem prAt_eq {L : List Ent} {j : Nat} (h : j < L.length) : prAt L j = L[j].2.pr := by simp [prAt, h]
theorem blAt_eq {L : List Ent} {j : Nat} (h : j < L.length) : blAt L j = L[j].1 := by simp [blAt, h]

theorem cmpI_lt {a b : Int} : cmpI a b < 0 ↔ a < b := by unfold cmpI; split <;> (try split) <;> omega
theorem cmpI_zero {a b : Int} : cmpI a b = 0 ↔ a = b := by unfold cmpI; split <;> (try split) <;> omega
theorem cmpR_zero {p i q j : Int} : cmpR p i q j = 0 ↔ p = q ∧ i = j := by
  unfold cmpR
  split
  · rw [cmpI_zero]; omega
  · rw [cmpI_zero]; omega

/-- Sorted by rising IDs. -/
abbrev SortedI (L : List Ent) : Prop := L.Pairwise fun a b => a.2.id < b.2.id

set_option maxRecDepth 100000 in
set_option maxHeartbeats 400000 in
theorem placeI_any (m : Nat) (sv : Value) (L : List Ent) (x : Int) (w : World) (hm : MapI w m sv L) (hs : SortedI L) :
    Calls Tryz.prog 124 #[.pointer (some ⟨m, 0, none⟩), .int .i64 x] w fun e w' => ∃ i : Nat, i ≤ L.length ∧ (∀ j, j < i → idAt L j < x) ∧ (∀ j, i ≤ j → j < L.length → x ≤ idAt L j) ∧ e = .returned (.tuple #[.int .i64 i, .bool (decide (i < L.length) && (idAt L i == x))]) ∧ Below w.heap.size w w' := by
  obtain ⟨h0, h1, h2, h3, h4⟩ := hm
  obtain ⟨a, cap, g, rfl, hc⟩ := rowI_cells h2
  have CB := hide (bsI_any m g cap L.length a (idAt L) (blAt L) x w h4 h0 (fun j hj => by rw [idAt_eq hj, blAt_eq hj]; exact hc j hj) (fun i j hij hj h => by
    rw [cmpI_lt] at h ⊢
    rw [idAt_eq (by omega : i < L.length)]
    rw [idAt_eq hj] at h
    rcases Nat.lt_or_eq_of_le hij with hlt | rfl
    · exact Int.lt_trans (List.pairwise_iff_getElem.1 hs i j _ _ hlt) h
    · exact h))
  clear h2 h3 hc hs
  go_enter Tryz.func124, Tryz.ntmps124
  go_wp2_with fail
  refine CB.out.mono ?_
  rintro e w1 ⟨i, hi, hL, hR, rfl, hb⟩
  have HL := hide hL
  have HR := hide hR
  clear hL hR CB
  go_wp2
  go_ret2
  refine ⟨i, hi, fun j hj => cmpI_lt.1 (HL.out j hj), fun j h1 h2 => ?_, ?_, hb⟩
  · have := HR.out j h1 h2
    rcases Int.lt_or_le (idAt L j) x with h | h
    · have := cmpI_lt.2 h; omega
    · exact h
  · have e : (cmpI (idAt L i) x == 0) = (idAt L i == x) := by rw [Bool.eq_iff_iff, beq_iff_eq, beq_iff_eq, cmpI_zero]
    simp only [e]
    exact rfl

end Go.Proofs.YtaejpejfmpbinaaGreatDoor

namespace Go.Proofs.YtaejpejfmpbinaaGreatDoor
open Go.RowKit
open Go.Sort (grow)

theorem cut_exists (n : Nat) (c : Nat → Int) (hmono : ∀ i j, i ≤ j → j < n → c j < 0 → c i < 0) : ∃ i, i ≤ n ∧ (∀ j, j < i → c j < 0) ∧ ∀ j, i ≤ j → j < n → 0 ≤ c j := by
  induction n with
  | zero => exact ⟨0, Nat.le_refl _, fun j h => by omega, fun j _ h => by omega⟩
  | succ n ih =>
    obtain ⟨i, h1, h2, h3⟩ := ih fun i j hij hj h => hmono i j hij (by omega) h
    by_cases hn : c n < 0
    · exact ⟨n + 1, Nat.le_refl _, fun j hj => hmono j n (by omega) (by omega) hn, fun j h h' => by omega⟩
    · refine ⟨i, by omega, h2, fun j hj hj' => ?_⟩
      by_cases hjn : j = n
      · rw [hjn]; omega
      · exact h3 j hj (by omega)
theorem cut_unique {n : Nat} {c : Nat → Int} {i i' : Nat} (h1 : i ≤ n) (h2 : ∀ j, j < i → c j < 0) (h3 : ∀ j, i ≤ j → j < n → 0 ≤ c j) (k1 : i' ≤ n) (k2 : ∀ j, j < i' → c j < 0) (k3 : ∀ j, i' ≤ j → j < n → 0 ≤ c j) : i = i' := by
  rcases Nat.lt_trichotomy i i' with h | h | h
  · have := h3 i (Nat.le_refl _) (by omega); have := k2 i h; omega
  · exact h
  · have := k3 i' (Nat.le_refl _) (by omega); have := h2 i' h; omega

attribute [local go_sem] cell?_regrown

/-- How number j's rank stands to a rank. -/
def cAt (L : List Ent) (p q : Int) (j : Nat) : Int := cmpR (prAt L j) (idAt L j) p q

theorem sorted_mono {L : List Ent} (hs : Sorted L) (p q : Int) : ∀ i j, i ≤ j → j < L.length → cAt L p q j < 0 → cAt L p q i < 0 := by
  intro i j hij hj h
  unfold cAt at h ⊢
  rw [prAt_eq hj, idAt_eq hj] at h
  rw [prAt_eq (by omega : i < L.length), idAt_eq (by omega : i < L.length)]
  rcases Nat.lt_or_eq_of_le hij with hlt | rfl
  · have h1 := List.pairwise_iff_getElem.1 hs i j (by omega) hj hlt
    have h2 : L[j].2.before { L[j].2 with pr := p, id := q } = true := by simp only [Rl.before, decide_eq_true_eq]; exact h
    have h3 := Rl.before_trans h1 h2
    simpa only [Rl.before, decide_eq_true_eq] using h3
  · exact h

set_option maxRecDepth 100000 in
set_option maxHeartbeats 1000000 in
theorem placeR_any (m : Nat) (sv : Value) (L : List Ent) (p q : Int) (w : World) (hm : MapR w m sv L) (hs : Sorted L) :
    Calls Tryz.prog 127 #[.pointer (some ⟨m, 0, none⟩), .agg #[.int .i64 p, .int .i64 q]] w fun e w' => ∃ i : Nat, i ≤ L.length ∧ (∀ j, j < i → cAt L p q j < 0) ∧ (∀ j, i ≤ j → j < L.length → 0 ≤ cAt L p q j) ∧ e = .returned (.tuple #[.int .i64 i, .bool (decide (i < L.length) && (cAt L p q i == 0))]) ∧ Below w.heap.size w w' := by
  obtain ⟨h0, h1, h2, h3, h4⟩ := hm
  have hmlt : m < w.heap.size := block_lt_of_cell h0
  have hlt1 : m < w.heap.size + 1 := by omega
  obtain ⟨i0, a1, a2, a3⟩ := cut_exists L.length (cAt L p q) (sorted_mono hs p q)
  obtain ⟨a, cap, g, rfl, hc⟩ := rowR_cells h2
  have CB := hide fun (W : World) (hb : Below w.heap.size w W) => ((bsR_any m g cap L.length a (prAt L) (idAt L) (blAt L) p q W h4 ((hb.cell (p := ⟨m, 0, none⟩) hmlt).trans h0) (fun j hj => by
      rw [prAt_eq hj, idAt_eq hj, blAt_eq hj]
      obtain ⟨ha, c0, c1, c2⟩ := hc j hj
      exact ⟨ha, (hb.cell (p := ⟨g, j * 3, none⟩) (block_lt_of_cell c0)).trans c0, (hb.cell (p := ⟨g, j * 3 + 1, none⟩) (block_lt_of_cell c1)).trans c1, (hb.cell (p := ⟨g, j * 3 + 2, none⟩) (block_lt_of_cell c2)).trans c2⟩) (sorted_mono hs p q)).mono
    fun e w' ⟨i, b1, b2, b3, he, hb'⟩ => by
      have e1 := cut_unique b1 b2 b3 a1 a2 a3
      subst e1
      exact (⟨he, hb'⟩ : e = .returned (.tuple #[.int .i64 i, .bool (decide (i < L.length) && (cAt L p q i == 0))]) ∧ Below W.heap.size W w'))
  have A2 := hide a2
  have A3 := hide a3
  clear h2 h3 hc hs a2 a3
  go_enter Tryz.func127, Tryz.ntmps127
  go_wp2_with fail
  refine wp_region_quiet_below (by kernel_rfl) (by kernel_rfl) ?_
  repeat (quiet_step (exact Calls.regrown_of (CB.out _ (Below.trans ((Below.refl w.heap.size w).alloc (Nat.le_refl _) _) ((below_regrown _ _ _).mono (by simp))))))
  refine wpQuiet_nil ?_; intro wq hwq; replace hwq := below_of_regrown hwq; obtain ⟨hcq, hfq⟩ := bcell hwq; have hzq := hwq.size
  go_wp2
  go_ret2
  exact ⟨i0, a1, A2.out, A3.out, rfl, Below.trans (by repeat (first | exact Below.refl _ _ | assumption | refine Below.drewN ?_ | refine Below.drew ?_ | refine Below.setCell ?_ (by first | exact Nat.le_refl _ | omega | (simp; done) | (simp; omega)) _ | refine Below.alloc ?_ (by first | exact Nat.le_refl _ | omega | (simp; done) | (simp; omega)) _)) (hwq.mono (by first | exact Nat.le_refl _ | omega | (simp; done) | (simp; omega)))⟩

set_option maxRecDepth 100000 in
set_option maxHeartbeats 400000 in
theorem lenI_any (m : Nat) (a : Option Addr) (n cap : Nat) (w : World) (h1 : w.cell? ⟨m, 1, none⟩ = some (.slice a n cap)) :
    Calls Tryz.prog 82 #[.pointer (some ⟨m, 0, none⟩)] w fun e w' => e = .returned (.int .i64 n) ∧ w' = w := by
  go_enter Tryz.func82, Tryz.ntmps82
  go_wp2
  go_ret
  exact ⟨rfl, rfl⟩

set_option maxRecDepth 100000 in
set_option maxHeartbeats 400000 in
theorem newI_any (w : World) : Calls Tryz.prog 92 #[.func (.func 44) #[] #[]] w fun e w' => e = .returned (.pointer (some ⟨w.heap.size, 0, none⟩)) ∧ w' = w.alloc (.cells #[.func (.func 44) #[] #[], .slice none 0 0] 219) := by
  go_enter Tryz.func92, Tryz.ntmps92
  go_wp2
  go_ret
  exact ⟨rfl, rfl⟩

set_option maxRecDepth 100000 in
set_option maxHeartbeats 400000 in
theorem newR_any (w : World) : Calls Tryz.prog 93 #[.func (.func 94) #[] #[]] w fun e w' => e = .returned (.pointer (some ⟨w.heap.size, 0, none⟩)) ∧ w' = w.alloc (.cells #[.func (.func 94) #[] #[], .slice none 0 0] 227) := by
  go_enter Tryz.func93, Tryz.ntmps93
  go_wp2
  go_ret
  exact ⟨rfl, rfl⟩

/-- Which entry has an ID. -/
def byId (L : List Ent) (x : Int) : Option Ent := L.find? fun e => e.2.id == x

theorem byId_place {L : List Ent} {x : Int} {i : Nat} (hL : ∀ j, j < i → idAt L j < x) (hR : ∀ j, i ≤ j → j < L.length → x ≤ idAt L j) (hs : SortedI L) :
    byId L x = if h : i < L.length ∧ idAt L i = x then some (L[i]'h.1) else none := by
  unfold byId
  split
  · rename_i h
    rw [List.find?_eq_some_iff_getElem]
    refine ⟨by rw [← idAt_eq h.1, h.2]; simp, i, h.1, rfl, fun j hj => ?_⟩
    have := hL j hj
    rw [idAt_eq (by omega)] at this
    simp; omega
  · rename_i h
    rw [List.find?_eq_none]
    intro e he
    obtain ⟨j, hj, rfl⟩ := List.getElem_of_mem he
    intro hx
    have hx' : L[j].2.id = x := by simpa using hx
    rcases Nat.lt_or_ge j i with h1 | h1
    · have := hL j h1; rw [idAt_eq hj] at this; omega
    · rcases Nat.lt_or_eq_of_le h1 with h2 | rfl
      · have a := hR i (Nat.le_refl _) (by omega)
        have b := List.pairwise_iff_getElem.1 hs i j (by omega) hj h2
        rw [idAt_eq (by omega)] at a
        omega
      · exact h ⟨hj, by rw [idAt_eq hj]; exact hx'⟩

set_option maxRecDepth 100000 in
set_option maxHeartbeats 400000 in
theorem getI_any (m : Nat) (sv : Value) (L : List Ent) (x : Int) (w : World) (hm : MapI w m sv L) (hs : SortedI L) :
    Calls Tryz.prog 81 #[.pointer (some ⟨m, 0, none⟩), .int .i64 x] w fun e w' => e = .returned (.tuple #[ptrO (byId L x), .bool (byId L x).isSome]) ∧ Below w.heap.size w w' := by
  have CP := hide (placeI_any m sv L x w hm hs)
  obtain ⟨h0, h1, h2, h3, h4⟩ := hm
  obtain ⟨a, cap, g, rfl, hc⟩ := rowI_cells h2
  have hmlt : m < w.heap.size := block_lt_of_cell h0
  clear h2 h3
  go_enter Tryz.func81, Tryz.ntmps81
  go_wp2_with fail
  refine CP.out.mono ?_
  rintro e w1 ⟨i, hi, hL, hR, rfl, hb⟩
  have HF := hide (byId_place hL hR hs)
  clear CP hL hR hs
  by_cases h : i < L.length ∧ idAt L i = x
  · obtain ⟨ha, c0, c1⟩ := hc i h.1
    subst ha
    have hx : (idAt L i == x) = true := by simp [h.2]
    have hd : decide (i < L.length) = true := by simp [h.1]
    have d1 := cell_later hb c1
    have e1 := cell_later hb h1
    have hil : (i : Int) < L.length := by omega
    have hF : byId L x = some L[i] := by rw [HF.out, dif_pos h]
    have HFF := hide hF
    generalize L[i] = ei at *
    clear hc hF
    go_wp2
    go_ret2
    exact ⟨by rw [HFF.out]; rfl, hb⟩
  · have hx : (decide (i < L.length) && (idAt L i == x)) = false := by
      rw [← Bool.not_eq_true, Bool.and_eq_true, decide_eq_true_eq, beq_iff_eq]; exact h
    have hF : byId L x = none := by rw [HF.out, dif_neg h]
    have HFF := hide hF
    clear hc hF h
    go_wp2
    go_ret2
    exact ⟨by rw [HFF.out]; rfl, hb⟩

end Go.Proofs.YtaejpejfmpbinaaGreatDoor

namespace Go.Proofs.YtaejpejfmpbinaaGreatDoor
open Go.RowKit

theorem Chg.drew {X : Nat → Prop} {a b : World} (h : Chg X a b) : Chg X a b.drew := ⟨h.os, h.tape, h.output, h.size, h.block⟩
theorem Chg.refl (X : Nat → Prop) (w : World) : Chg X w w := ⟨rfl, rfl, rfl, Nat.le_refl _, fun _ _ _ => rfl⟩
theorem Chg.setRow {X : Nat → Prop} {a b : World} {g : Nat} (h : Chg X a b) (hx : X g ∨ a.heap.size ≤ g) (cs : Array Value) : Chg X a (b.setRow g cs) :=
  ⟨h.os, h.tape, h.output, by rw [setRow_size]; exact h.size, fun k hk hX => (setRow_other b g k cs (by rintro rfl; rcases hx with hx | hx; exact hX hx; omega)).trans (h.block k hk hX)⟩
theorem Chg.alloc {X : Nat → Prop} {a b : World} (h : Chg X a b) (o : Obj) : Chg X a (b.alloc o) :=
  h.trans (Chg.of_below ((Below.refl _ b).alloc (Nat.le_refl _) o))
theorem Chg.grown {X : Nat → Prop} {w w' : World} {row : Option Nat} (h : w.grownBy w' row) (hX : ∀ k, row = some k → X k) : Chg X w w' :=
  ⟨h.os, h.tape, h.output, h.size, fun k hk hx => h.block k hk fun e => hx (hX k e.symm)⟩

/-- copy of elements of s cells each. -/
theorem run_copy_wide {P : Program} (w : World) (dT sT ty elem : TypeId) (s g o dLen dCap : Nat) (a : Addr) (sLen sCap : Nat) (cur : List Value) (t : TypeId) (cs : List Value) (k : Nat)
    (hu : P.underlying dT = some (.slice elem)) (hs : (P.info? elem).map (·.size) = some s)
    (hg : w.heap[g]? = some (.cells cur.toArray t (0, 0))) (hk : k = Nat.min sLen dLen) (hn : cs.length = k * s)
    (hsrc : ∀ j v, cs[j]? = some v → w.cell? (a.add j) = some v) (hfit : o + cs.length ≤ cur.length) (h1 : ∀ v ∈ cs, v.oneCell' = true) :
    (Builtin.copy_ #[dT, sT] ty #[.slice (some ⟨g, o, none⟩) dLen dCap, .slice (some a) sLen sCap]).run P w = .ok (goInt k) (w.setRow g (splice cur o cs).toArray) := by
  have hl := run_loadCells_list (P := P) w a cs hsrc
  have hst := run_storeCells_at P g o t cs 0 cur.toArray w hg (by simpa using hfit) h1
  rw [hn] at hl
  cases hq : P.info? elem with
  | none => simp [hq] at hs
  | some i =>
    have hi : i.size = s := by simpa [hq] using hs
    simp [Builtin.copy_, run_underlying hu, Builtin.lenOf, Builtin.firstCells, sizeOf, typeInfo, hq, hi, ← hk, hl, hst, splice]

theorem wpList_copy_wide {P : Program} {w : World} {ops : Array Oper} {rest : List Oper} {o : Oper} {a : Act} {Q : Exit → Act → World → Prop} (hgd : o.guard = none) (d x : Operand) (dT sT : TypeId)
    (ho : o.op = .call { callee := .builtin .copy, args := #[d, x], argTypes := #[dT, sT] }) (elem : TypeId) (s : Nat) (hu : P.underlying dT = some (.slice elem)) (hsz : (P.info? elem).map (·.size) = some s)
    (g off dLen dCap : Nat) (ad : Addr) (sLen sCap : Nat) (hd : a.eval d = .slice (some ⟨g, off, none⟩) dLen dCap) (hs : a.eval x = .slice (some ad) sLen sCap)
    (cur : List Value) (t : TypeId) (hg : w.heap[g]? = some (.cells cur.toArray t (0, 0))) (cs : List Value) (k : Nat) (hk : k = Nat.min sLen dLen) (hn : cs.length = k * s)
    (hsrc : ∀ j v, cs[j]? = some v → w.cell? (ad.add j) = some v) (hfit : off + cs.length ≤ cur.length) (h1 : ∀ v ∈ cs, v.oneCell' = true)
    (X : Nat → Prop) (w0 : World) (hc : Chg X w0 w) (hX : X g ∨ w0.heap.size ≤ g)
    (h : ∀ w', Hid (w'.heap[g]? = some (.cells (splice cur off cs).toArray t (0, 0))) → Hid (Chg X w0 w') → Hid (∀ k, k ≠ g → w'.heap[k]? = w.heap[k]?) → wpList P ops Q rest (a.put o.dst (goInt k)) w') : wpList P ops Q (o :: rest) a w := by
  refine wpList_plain hgd fun K hK => ?_
  have hrun := run_copy_wide (P := P) w dT sT o.type elem s g off dLen dCap ad sLen sCap cur t cs k hu hsz hg hk hn hsrc hfit h1
  unfold Oper.wp
  simp [execOp, ho, resolve, invoke, builtin, hd, hs, hrun, Result.andThen]
  exact hK _ _ (h _ (hide (setRow_heap w g _ _ t _ hg)) (hide (hc.setRow hX _)) (hide fun k hk => setRow_other w g k _ hk))

theorem step_copy_wide {P : Program} {ops : Array Oper} {o : Oper} {a : Act} {w : World} {K : Act → World → Prop} {Q : Exit → Act → World → Prop} {E : Prop} (hgd : o.guard = none) (d x : Operand) (dT sT : TypeId)
    (ho : o.op = .call { callee := .builtin .copy, args := #[d, x], argTypes := #[dT, sT] }) (elem : TypeId) (s : Nat) (hu : P.underlying dT = some (.slice elem)) (hsz : (P.info? elem).map (·.size) = some s)
    (g off dLen dCap : Nat) (ad : Addr) (sLen sCap : Nat) (hd : a.eval d = .slice (some ⟨g, off, none⟩) dLen dCap) (hs : a.eval x = .slice (some ad) sLen sCap)
    (cur : List Value) (t : TypeId) (hg : w.heap[g]? = some (.cells cur.toArray t (0, 0))) (cs : List Value) (k : Nat) (hk : k = Nat.min sLen dLen) (hn : cs.length = k * s)
    (hsrc : ∀ j v, cs[j]? = some v → w.cell? (ad.add j) = some v) (hfit : off + cs.length ≤ cur.length) (h1 : ∀ v ∈ cs, v.oneCell' = true)
    (X : Nat → Prop) (w0 : World) (hc : Chg X w0 w) (hX : X g ∨ w0.heap.size ≤ g)
    (h : ∀ w', Hid (w'.heap[g]? = some (.cells (splice cur off cs).toArray t (0, 0))) → Hid (Chg X w0 w') → Hid (∀ k, k ≠ g → w'.heap[k]? = w.heap[k]?) → K (a.put o.dst (goInt k)) w') :
    if Region.wanted o (yielded ops a.tmps) = true then Oper.wp P o a w K Q else E := by
  have hw : Region.wanted o (yielded ops a.tmps) = true := by simp [Region.wanted, hgd]
  rw [if_pos hw]
  have hrun := run_copy_wide (P := P) w dT sT o.type elem s g off dLen dCap ad sLen sCap cur t cs k hu hsz hg hk hn hsrc hfit h1
  unfold Oper.wp
  simp [execOp, ho, resolve, invoke, builtin, hd, hs, hrun, Result.andThen]
  exact h _ (hide (setRow_heap w g _ _ t _ hg)) (hide (hc.setRow hX _)) (hide fun k hk => setRow_other w g k _ hk)

theorem splice_get {α : Type} (L : List α) (o : Nat) (cs : List α) (h : o + cs.length ≤ L.length) (j : Nat) : (splice L o cs)[j]? = if j < o then L[j]? else if j < o + cs.length then cs[j - o]? else L[j]? := by
  unfold splice
  rw [List.getElem?_append]
  simp only [List.length_take, List.getElem?_take, List.getElem?_append, List.getElem?_drop]
  have : min o L.length = o := by omega
  rw [this]
  split
  · rfl
  · split
    · rename_i h1 h2
      rw [if_pos (by omega)]
    · rename_i h1 h2
      rw [if_neg (by omega)]
      congr 1
      omega

/-- The row behind an insertion in place: what stood from a on goes s cells on, then come the new ones. -/
theorem ins_room {α : Type} (L xs vs : List α) (a N s : Nat) (hx : L.take N = xs) (hl : xs.length = N) (hv : vs.length = s) (ha : a ≤ N) (hN : N + s ≤ L.length) :
    (splice (splice L (a + s) (xs.drop a)) a vs).take (N + s) = xs.take a ++ vs ++ xs.drop a := by
  have hd : (xs.drop a).length = N - a := by rw [List.length_drop, hl]
  have l1 : (splice L (a + s) (xs.drop a)).length = L.length := length_splice _ _ _ (by omega)
  have hxg : ∀ j, j < N → xs[j]? = L[j]? := fun j hj => by rw [← hx, List.getElem?_take, if_pos hj]
  apply List.ext_getElem?
  intro j
  rw [List.getElem?_take, splice_get _ _ _ (by omega), List.append_assoc, List.getElem?_append, List.getElem?_append, List.length_take, hl, hv, Nat.min_eq_left ha]
  by_cases h1 : j < a
  · rw [if_pos (by omega), if_pos h1, if_pos h1, splice_get _ _ _ (by omega), if_pos (by omega), List.getElem?_take, if_pos h1, hxg j (by omega)]
  · rw [if_neg h1, if_neg h1]
    by_cases h2 : j < a + s
    · rw [if_pos (by omega), if_pos (by omega), if_pos (by omega)]
    · by_cases h3 : j < N + s
      · rw [if_pos h3, if_neg (by omega), if_neg (by omega), splice_get _ _ _ (by omega), if_neg (by omega), if_pos (by omega)]
        congr 1
        omega
      · rw [if_neg h3, if_neg (by omega)]
        symm
        rw [List.getElem?_eq_none_iff]
        omega

theorem ins_grow {α : Type} (L xs vs : List α) (a N s : Nat) (hx : L.take a = xs.take a) (hl : xs.length = N) (hv : vs.length = s) (ha : a ≤ N) (hN : N + s ≤ L.length) :
    (splice (splice L a vs) (a + s) (xs.drop a)).take (N + s) = xs.take a ++ vs ++ xs.drop a := by
  have hd : (xs.drop a).length = N - a := by rw [List.length_drop, hl]
  have l1 : (splice L a vs).length = L.length := length_splice _ _ _ (by omega)
  apply List.ext_getElem?
  intro j
  rw [List.getElem?_take, splice_get _ _ _ (by omega), List.append_assoc, List.getElem?_append, List.getElem?_append, List.length_take, hl, hv, Nat.min_eq_left ha]
  by_cases h1 : j < a
  · rw [if_pos (by omega), if_pos (by omega), if_pos h1, splice_get _ _ _ (by omega), if_pos (by omega), ← hx, List.getElem?_take, if_pos h1]
  · rw [if_neg h1]
    by_cases h2 : j < a + s
    · rw [if_pos (by omega), if_pos (by omega), if_pos (by omega), splice_get _ _ _ (by omega), if_neg h1, if_pos (by omega)]
    · by_cases h3 : j < N + s
      · rw [if_pos h3, if_neg h2, if_pos (by omega), if_neg (by omega)]
        congr 1
        omega
      · rw [if_neg h3, if_neg (by omega)]
        symm
        rw [List.getElem?_eq_none_iff]
        omega

theorem cell_in_row {w : World} {g j : Nat} {cur : Array Value} {t : TypeId} {fr : Nat × Nat} {v : Value} (hg : w.heap[g]? = some (.cells cur t fr)) (h : cur.toList[j]? = some v) : w.cell? ⟨g, j, none⟩ = some v := by
  simp only [World.cell?, hg]
  simpa using h

/-- What slices.Insert of one element leaves. -/
def InsPost (e0 : TypeId) (s : Nat) (sv : Value) (n : Nat) (ys : List Value) (w : World) (e : Ending) (w' : World) : Prop :=
  ∃ g cap, e = .returned (.slice (some ⟨g, 0, none⟩) (n + 1) cap) ∧ w'.ownsRow 0 e0 s (.slice (some ⟨g, 0, none⟩) (n + 1) cap) (n + 1) ys ∧ (sv.ownBlock = some g ∨ w.heap.size ≤ g) ∧ Chg (fun b => sv.ownBlock = some b) w w'

end Go.Proofs.YtaejpejfmpbinaaGreatDoor
