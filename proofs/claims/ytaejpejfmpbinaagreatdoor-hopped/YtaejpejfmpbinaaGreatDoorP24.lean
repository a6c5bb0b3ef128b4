import Derived.Test.YtaejpejfmpbinaaGreatDoorP13
import Derived.Test.YtaejpejfmpbinaaGreatDoorP19
import Derived.Test.YtaejpejfmpbinaaGreatDoorP6
import Derived.BigQuiet
import Derived.Test.YtaejpejfmpbinaaGreatDoorP4
import Derived.Test.YtaejpejfmpbinaaGreatDoorP7
import Derived.Deep.QuietTactic
import Derived.Lib.QuietBelow
import Derived.Test.YtaejpejfmpbinaaGreatDoorP12
namespace Go.Proofs.YtaejpejfmpbinaaGreatDoor
open Go.RowKit
open Go.Sort (grow)

attribute [local go_sem] cell?_regrown

/-- How prefixes stand to each other: the longest ahead. -/
def cmpPf (b1 l1 b2 l2 : Int) : Int := if cmpI l2 l1 = 0 then cmpI b1 b2 else cmpI l2 l1
theorem cmpPf_neg {b1 l1 b2 l2 : Int} : cmpPf b1 l1 b2 l2 < 0 ↔ l2 < l1 ∨ (l1 = l2 ∧ b1 < b2) := by
  unfold cmpPf
  by_cases h : cmpI l2 l1 = 0
  · rw [if_pos h, cmpI_lt]
    rw [cmpI_zero] at h
    omega
  · rw [if_neg h, cmpI_lt]
    rw [cmpI_zero] at h
    omega
theorem cmpPf_zero {b1 l1 b2 l2 : Int} : cmpPf b1 l1 b2 l2 = 0 ↔ b1 = b2 ∧ l1 = l2 := by
  unfold cmpPf
  by_cases h : cmpI l2 l1 = 0
  · rw [if_pos h, cmpI_zero]
    rw [cmpI_zero] at h
    omega
  · rw [if_neg h]
    rw [cmpI_zero]
    rw [cmpI_zero] at h
    omega
theorem cmpPf_trans {b1 l1 b2 l2 b3 l3 : Int} (h : cmpPf b1 l1 b2 l2 < 0) (k : cmpPf b2 l2 b3 l3 < 0) : cmpPf b1 l1 b3 l3 < 0 := by
  rw [cmpPf_neg] at *
  omega

set_option maxRecDepth 100000 in
set_option maxHeartbeats 1000000 in
theorem cmpH_any (v1 v2 m1 m2 : Int) (w : World) :
    Calls Tryz.prog 91 #[.agg #[.int .i64 v1, .int .i64 m1], .agg #[.int .i64 v2, .int .i64 m2]] w fun e w' => e = .returned (.int .i64 (cmpPf v1 m1 v2 m2)) ∧ Below w.heap.size w w' := by
  obtain ⟨res, hres⟩ : ∃ res, res = cmpPf v1 m1 v2 m2 := ⟨_, rfl⟩
  rw [← hres]
  have COR : Hid (∀ (g : Nat) (W : World), W.cell? ⟨g, 0, none⟩ = some (.int .i64 (cmpI m2 m1)) → W.cell? ⟨g, 1, none⟩ = some (.int .i64 (cmpI v1 v2)) → Calls Tryz.prog 133 #[.slice (some ⟨g, 0, none⟩) 2 2] W fun e w' => e = .returned (.int .i64 res) ∧ Below W.heap.size W w') := hide fun g W c0 c1 => by
    rw [hres]
    exact cmpOr_any g 2 _ _ W c0 c1
  clear hres
  have hs0 : w.heap.size < w.heap.size + 1 + 1 + 1 := by omega
  have hs1 : w.heap.size < w.heap.size + 1 + 1 := by omega
  go_enter Tryz.func91, Tryz.ntmps91
  go_wp2_with fail
  go_region_held3 (fun w' => w'.cell? ⟨w.heap.size, 0, none⟩ = some (.int .i64 v1) ∧ w'.cell? ⟨w.heap.size, 1, none⟩ = some (.int .i64 m1) ∧ w'.cell? ⟨w.heap.size + 1, 0, none⟩ = some (.int .i64 v2) ∧ w'.cell? ⟨w.heap.size + 1, 1, none⟩ = some (.int .i64 m2)) (go_keep)
    (first | (go_at_call 44; refine (cmpInt_any _ _ _).mono ?_; rintro e w' ⟨rfl, hww⟩; rw [hww]; clear hww) | (go_at_call 133; refine (COR.out _ _ ?_ ?_).mono ?_; (exact (World.cell?_alloc_at _ _ _ _ (by simp)).trans rfl); (exact (World.cell?_alloc_at _ _ _ _ (by simp)).trans rfl); rintro e w3 ⟨rfl, hb3⟩; obtain ⟨hcb, hfb⟩ := bcell hb3))
  all_goals
    go_wp2
    go_ret
    exact ⟨rfl, Below.trans (by repeat (first | exact Below.refl _ _ | assumption | refine Below.drewN ?_ | refine Below.drew ?_ | refine Below.setCell ?_ (by first | exact Nat.le_refl _ | omega | (simp; done) | (simp; omega)) _ | refine Below.alloc ?_ (by first | exact Nat.le_refl _ | omega | (simp; done) | (simp; omega)) _)) (hb3.mono (by first | exact Nat.le_refl _ | omega | (simp; done) | (simp; omega)))⟩

/-- A route: its prefix's bits and length, the VLAN and the MAC of its hop. -/
structure Rt where
  bits : Int
  len : Int
  vlan : Int
  mac : ByteArray
/-- How an entry stands to a key. -/
def cmpRt (e : Rt) (v : Int) (m : Int) : Int := cmpPf e.bits e.len v m

set_option maxRecDepth 100000 in
set_option maxHeartbeats 1000000 in
theorem againstH_any (m : Nat) (e : Rt) (v : Int) (b : Int) (w : World) (hm : w.cell? ⟨m, 0, none⟩ = some (.func (.func 91) #[] #[])) :
    Calls Tryz.prog 146 #[.pointer (some ⟨m, 0, none⟩), .agg #[.int .i64 e.bits, .int .i64 e.len, .int .i64 e.vlan, .string e.mac], .agg #[.int .i64 v, .int .i64 b]] w fun r w' => r = .returned (.int .i64 (cmpRt e v b)) ∧ Below w.heap.size w w' := by
  unfold cmpRt
  have hlt : m < w.heap.size := block_lt_of_cell hm
  have hlt2 : m < w.heap.size + 1 + 1 := by omega
  go_enter Tryz.func146, Tryz.ntmps146
  go_wp2_with fail
  refine wp_region_quiet_below (by kernel_rfl) (by kernel_rfl) ?_
  repeat (quiet_step (exact Calls.regrown_of (cmpH_any _ _ _ _ _)))
  refine wpQuiet_nil ?_; intro wq hwq; replace hwq := below_of_regrown hwq; obtain ⟨hcq, hfq⟩ := bcell hwq; have hzq := hwq.size
  go_wp2
  go_ret
  exact ⟨rfl, Below.trans (by repeat (first | exact Below.refl _ _ | assumption | refine Below.drewN ?_ | refine Below.drew ?_ | refine Below.setCell ?_ (by first | exact Nat.le_refl _ | omega | (simp; done) | (simp; omega)) _ | refine Below.alloc ?_ (by first | exact Nat.le_refl _ | omega | (simp; done) | (simp; omega)) _)) (hwq.mono (by first | exact Nat.le_refl _ | omega | (simp; done) | (simp; omega)))⟩

set_option maxRecDepth 100000 in
set_option maxHeartbeats 1000000 in
theorem bsH_any (m g cap n : Nat) (a : Option Addr) (K : Nat → Rt) (x : Int) (x2 : Int) (w : World) (hn : n ≤ 200) (hm : w.cell? ⟨m, 0, none⟩ = some (.func (.func 91) #[] #[]))
    (hc : ∀ j, j < n → a = some ⟨g, 0, none⟩ ∧ w.cell? ⟨g, j * 4, none⟩ = some (.int .i64 (K j).bits) ∧ w.cell? ⟨g, j * 4 + 1, none⟩ = some (.int .i64 (K j).len) ∧ w.cell? ⟨g, j * 4 + 2, none⟩ = some (.int .i64 (K j).vlan) ∧ w.cell? ⟨g, j * 4 + 3, none⟩ = some (.string (K j).mac)) (hmono : ∀ i j, i ≤ j → j < n → cmpRt (K j) x x2 < 0 → cmpRt (K i) x x2 < 0) :
    Calls Tryz.prog 145 #[.slice a n cap, .agg #[.int .i64 x, .int .i64 x2], .func (.func 146) #[.pointer (some ⟨m, 0, none⟩)] #[]] w fun e w' => ∃ i : Nat, i ≤ n ∧ (∀ j, j < i → cmpRt (K j) x x2 < 0) ∧ (∀ j, i ≤ j → j < n → 0 ≤ cmpRt (K j) x x2) ∧ e = .returned (.tuple #[.int .i64 i, .bool (decide (i < n) && (cmpRt (K i) x x2 == 0))]) ∧ Below w.heap.size w w' := by
  have hmlt : m < w.heap.size := block_lt_of_cell hm
  go_enter Tryz.func145, Tryz.ntmps145
  go_wp2
  go_loopw [9, 10] (fun vi vj wr => ∃ i j : Nat, i ≤ j ∧ j ≤ n ∧ vi = .int .i64 i ∧ vj = .int .i64 j ∧ (∀ q, q < i → cmpRt (K q) x x2 < 0) ∧ (∀ q, j ≤ q → q < n → 0 ≤ cmpRt (K q) x x2) ∧ Below w.heap.size w wr ∧ w.heap.size < wr.heap.size ∧ wr.cell? ⟨w.heap.size, 0, none⟩ = some (.int .i64 x) ∧ wr.cell? ⟨w.heap.size, 1, none⟩ = some (.int .i64 x2)) (fun vi vj _ => (intOf vj - intOf vi).toNat)
  case atStart => exact ⟨0, n, by omega, by omega, rfl, rfl, by omega, by omega, (by repeat (first | exact Below.refl _ _ | assumption | refine Below.drewN ?_ | refine Below.drew ?_ | refine Below.setCell ?_ (by first | exact Nat.le_refl _ | omega | (simp; done) | (simp; omega)) _ | refine Below.alloc ?_ (by first | exact Nat.le_refl _ | omega | (simp; done) | (simp; omega)) _)), (by first | exact Nat.le_refl _ | omega | (simp; done) | (simp; omega)), by simp, by simp⟩
  case round =>
    obtain ⟨i, j, hij, hjn, rfl, rfl, hL, hR, hb, hbl, x0, x1⟩ := hrel
    have hm' := (hb.cell (p := ⟨m, 0, none⟩) hmlt).trans hm
    have HL := hide hL
    have HR := hide hR
    clear hL hR
    by_cases hlt : i < j
    · obtain ⟨h, hh⟩ : ∃ h : Nat, h = (i + j) / 2 := ⟨_, rfl⟩
      have hh1 : i ≤ h := by omega
      have hh2 : h < j := by omega
      obtain ⟨rfl, c0, c1, c2, c3⟩ := hc h (by omega)
      have d0 := (hb.cell (p := ⟨g, h * 4, none⟩) (block_lt_of_cell c0)).trans c0
      have d1 := (hb.cell (p := ⟨g, h * 4 + 1, none⟩) (block_lt_of_cell c1)).trans c1
      have d2 := (hb.cell (p := ⟨g, h * 4 + 2, none⟩) (block_lt_of_cell c2)).trans c2
      have d3 := (hb.cell (p := ⟨g, h * 4 + 3, none⟩) (block_lt_of_cell c3)).trans c3
      have hglt : g < wr.heap.size := block_lt_of_cell d0
      have e1 : ((i : Int) + j) / 2 = h := by omega
      have hhn : (h : Int) < n := by omega
      have HM := hide fun q (hq : q ≤ h) (h' : cmpRt (K h) x x2 < 0) => hmono q h hq (by omega) h'
      have HM2 := hide fun q (hq : h ≤ q) (hqn : q < n) (h' : cmpRt (K q) x x2 < 0) => hmono h q hq hqn h'
      clear hh c0 c1 c2 c3
      have CA := hide fun (d : Nat) (os : Array Obj) => againstH_any m (K h) x x2 (grow (redrawn wr d) os) ((below_regrown wr d os).cell (p := ⟨m, 0, none⟩) (block_lt_of_cell hm') |>.trans hm')
      go_wp2_with fail
      refine wp_region_quiet_below (by kernel_rfl) (by kernel_rfl) ?_
      repeat (quiet_step (exact Calls.regrown_of (CA.out _ _)))
      refine wpQuiet_nil ?_; intro wq hwq; replace hwq := below_of_regrown hwq; obtain ⟨hcq, hfq⟩ := bcell hwq; have hzq := hwq.size
      have hbq : Below wr.heap.size wr wq := hwq
      clear hcq hfq hzq CA
      have HBQ := hide (hb.trans (hbq.mono hb.size))
      by_cases hneg : cmpRt (K h) x x2 < 0
      · go_wp2
        go_roundw
        case rel => exact ⟨h + 1, j, by omega, by omega, by go_num, rfl, fun q hq => HM.out q (by omega) hneg, HR.out, HBQ.out, Nat.lt_of_lt_of_le hbl hbq.size, cell_later hbq x0, cell_later hbq x1⟩
        case measure => simp [intOf]; omega
      · have HN := hide hneg
        go_wp2
        go_roundw
        case rel => exact ⟨i, h, by omega, by omega, rfl, rfl, HL.out, fun q hq hqn => Int.not_lt.1 fun h' => absurd (HM2.out q hq hqn h') (by have := HN.out; omega), HBQ.out, Nat.lt_of_lt_of_le hbl hbq.size, cell_later hbq x0, cell_later hbq x1⟩
        case measure => simp [intOf]; omega
    · obtain rfl : i = j := by omega
      by_cases hin : i < n
      · obtain ⟨rfl, c0, c1, c2, c3⟩ := hc i hin
        have d0 := (hb.cell (p := ⟨g, i * 4, none⟩) (block_lt_of_cell c0)).trans c0
        have d1 := (hb.cell (p := ⟨g, i * 4 + 1, none⟩) (block_lt_of_cell c1)).trans c1
        have d2 := (hb.cell (p := ⟨g, i * 4 + 2, none⟩) (block_lt_of_cell c2)).trans c2
        have d3 := (hb.cell (p := ⟨g, i * 4 + 3, none⟩) (block_lt_of_cell c3)).trans c3
        have hglt : g < wr.heap.size := block_lt_of_cell d0
        have hini : (i : Int) < n := by omega
        clear c0 c1 c2 c3
        have CA := hide fun (d : Nat) (os : Array Obj) => againstH_any m (K i) x x2 (grow (redrawn wr d) os) ((below_regrown wr d os).cell (p := ⟨m, 0, none⟩) (block_lt_of_cell hm') |>.trans hm')
        go_wp2_with fail
        refine wp_region_quiet_below (by kernel_rfl) (by kernel_rfl) ?_
        repeat (first | go_big_quiet_skip | quiet_step (exact Calls.regrown_of (CA.out _ _)))
        refine wpQuiet_nil ?_; intro wq hwq; replace hwq := below_of_regrown hwq; obtain ⟨hcq, hfq⟩ := bcell hwq; have hzq := hwq.size
        have hbq : Below wr.heap.size wr wq := hwq
        clear hcq hfq hzq CA
        go_wp2
        go_ret2
        exact ⟨i, by omega, HL.out, HR.out, by simp [hin], hb.trans (hbq.mono hb.size)⟩
      · go_wp2_with fail
        refine wp_region_quiet_below (by kernel_rfl) (by kernel_rfl) ?_
        repeat (first | go_big_quiet_skip | quiet_step (fail))
        refine wpQuiet_nil ?_; intro wq hwq; replace hwq := below_of_regrown hwq; obtain ⟨hcq, hfq⟩ := bcell hwq; have hzq := hwq.size
        have hbq : Below wr.heap.size wr wq := hwq
        clear hcq hfq hzq
        go_wp2
        go_ret2
        exact ⟨i, by omega, HL.out, HR.out, by simp [hin], hb.trans (hbq.mono hb.size)⟩

/-- The longest ahead. -/
abbrev SortedH (K : List Rt) : Prop := K.Pairwise fun a b => cmpRt a b.bits b.len < 0
def rAt (K : List Rt) (j : Nat) : Rt := (K[j]?).getD ⟨0, 0, 0, ByteArray.empty⟩
theorem rAt_eq {K : List Rt} {j : Nat} (h : j < K.length) : rAt K j = K[j] := by simp [rAt, h]
/-- The cells of the entries. -/
def rowH (K : List Rt) : List Value := K.flatMap fun e => [.int .i64 e.bits, .int .i64 e.len, .int .i64 e.vlan, .string e.mac]
theorem rowH_length (K : List Rt) : (rowH K).length = K.length * 4 := by
  induction K with
  | nil => rfl
  | cons e t ih => simp [rowH] at ih ⊢; omega
theorem rowH_append (a b : List Rt) : rowH (a ++ b) = rowH a ++ rowH b := List.flatMap_append
theorem rowH_get : ∀ (K : List Rt) (k : Nat) (hk : k < K.length), (rowH K)[k * 4]? = some (.int .i64 K[k].bits) ∧ (rowH K)[k * 4 + 1]? = some (.int .i64 K[k].len) ∧ (rowH K)[k * 4 + 2]? = some (.int .i64 K[k].vlan) ∧ (rowH K)[k * 4 + 3]? = some (.string K[k].mac)
  | [], k, hk => absurd hk (by simp)
  | p :: t, 0, _ => ⟨rfl, rfl, rfl, rfl⟩
  | p :: t, k + 1, hk => by
    have := rowH_get t k (by simpa using hk)
    have e : (k + 1) * 4 = k * 4 + 4 := by omega
    rw [e]
    exact this

/-- A map of places: the order, the entries. -/
def MapH (w : World) (m : Nat) (sv : Value) (K : List Rt) : Prop :=
  w.cell? ⟨m, 0, none⟩ = some (.func (.func 91) #[] #[]) ∧ w.cell? ⟨m, 1, none⟩ = some sv ∧ w.ownsRow 0 249 4 sv K.length (rowH K) ∧ (∀ j, w.frozen? ⟨m, j, none⟩ = false) ∧ K.length ≤ 200
theorem rowH_cells {w : World} {sv : Value} {K : List Rt} (h : w.ownsRow 0 249 4 sv K.length (rowH K)) : ∃ a cap g, sv = .slice a K.length cap ∧ ∀ j, j < K.length → a = some ⟨g, 0, none⟩ ∧ w.cell? ⟨g, j * 4, none⟩ = some (.int .i64 (rAt K j).bits) ∧ w.cell? ⟨g, j * 4 + 1, none⟩ = some (.int .i64 (rAt K j).len) ∧ w.cell? ⟨g, j * 4 + 2, none⟩ = some (.int .i64 (rAt K j).vlan) ∧ w.cell? ⟨g, j * 4 + 3, none⟩ = some (.string (rAt K j).mac) := by
  rcases h.2 with ⟨hv, h0⟩ | ⟨g, cap, cur, hv, _⟩
  · exact ⟨none, 0, 0, by rw [hv, h0], fun j hj => by omega⟩
  · refine ⟨_, cap, g, hv, fun j hj => ⟨rfl, ?_⟩⟩
    rw [hv] at h
    have := rowH_get K j hj
    rw [rAt_eq hj]
    exact ⟨(h.cellAt _ (by omega)).trans this.1, (h.cellAt _ (by omega)).trans this.2.1, (h.cellAt _ (by omega)).trans this.2.2.1, (h.cellAt _ (by omega)).trans this.2.2.2⟩

theorem sortedH_mono {K : List Rt} (hs : SortedH K) (x : Int) (b : Int) : ∀ i j, i ≤ j → j < K.length → cmpRt (rAt K j) x b < 0 → cmpRt (rAt K i) x b < 0 := fun i j hij hj h => by
  rcases Nat.lt_or_eq_of_le hij with hlt | rfl
  · rw [rAt_eq hj] at h
    rw [rAt_eq (by omega)]
    exact cmpPf_trans (List.pairwise_iff_getElem.1 hs i j _ _ hlt) h
  · exact h

set_option maxRecDepth 100000 in
set_option maxHeartbeats 1000000 in
theorem placeH_any (m : Nat) (sv : Value) (K : List Rt) (x : Int) (b : Int) (w : World) (hm : MapH w m sv K) (hs : SortedH K) :
    Calls Tryz.prog 119 #[.pointer (some ⟨m, 0, none⟩), .agg #[.int .i64 x, .int .i64 b]] w fun e w' => ∃ i : Nat, i ≤ K.length ∧ (∀ j, j < i → cmpRt (rAt K j) x b < 0) ∧ (∀ j, i ≤ j → j < K.length → 0 ≤ cmpRt (rAt K j) x b) ∧ e = .returned (.tuple #[.int .i64 i, .bool (decide (i < K.length) && (cmpRt (rAt K i) x b == 0))]) ∧ Below w.heap.size w w' := by
  obtain ⟨h0, h1, h2, h3, h4⟩ := hm
  have hmlt : m < w.heap.size := block_lt_of_cell h0
  have hlt1 : m < w.heap.size + 1 := by omega
  obtain ⟨i0, a1, a2, a3⟩ := cut_exists K.length (fun j => cmpRt (rAt K j) x b) (sortedH_mono hs x b)
  obtain ⟨a, cap, g, rfl, hc⟩ := rowH_cells h2
  have CB := hide fun (W : World) (hb : Below w.heap.size w W) => ((bsH_any m g cap K.length a (rAt K) x b W h4 ((hb.cell (p := ⟨m, 0, none⟩) hmlt).trans h0) (fun j hj => by
      obtain ⟨e, c0, c1, c2, c3⟩ := hc j hj
      exact ⟨e, (hb.cell (p := ⟨g, j * 4, none⟩) (block_lt_of_cell c0)).trans c0, (hb.cell (p := ⟨g, j * 4 + 1, none⟩) (block_lt_of_cell c1)).trans c1, (hb.cell (p := ⟨g, j * 4 + 2, none⟩) (block_lt_of_cell c2)).trans c2, (hb.cell (p := ⟨g, j * 4 + 3, none⟩) (block_lt_of_cell c3)).trans c3⟩) (sortedH_mono hs x b)).mono
    fun e w' ⟨i, b1, b2, b3, he, hb'⟩ => by
      have e1 := cut_unique b1 b2 b3 a1 a2 a3
      subst e1
      exact (⟨he, hb'⟩ : e = .returned (.tuple #[.int .i64 i, .bool (decide (i < K.length) && (cmpRt (rAt K i) x b == 0))]) ∧ Below W.heap.size W w'))
  have A2 := hide a2
  have A3 := hide a3
  clear h2 h3 hc hs a2 a3
  go_enter Tryz.func119, Tryz.ntmps119
  go_wp2_with fail
  refine wp_region_quiet_below (by kernel_rfl) (by kernel_rfl) ?_
  repeat (quiet_step (exact Calls.regrown_of (CB.out _ (Below.trans ((Below.refl w.heap.size w).alloc (Nat.le_refl _) _) ((below_regrown _ _ _).mono (by simp))))))
  refine wpQuiet_nil ?_; intro wq hwq; replace hwq := below_of_regrown hwq; obtain ⟨hcq, hfq⟩ := bcell hwq; have hzq := hwq.size
  go_wp2
  go_ret2
  exact ⟨i0, a1, A2.out, A3.out, rfl, Below.trans (by repeat (first | exact Below.refl _ _ | assumption | refine Below.drewN ?_ | refine Below.drew ?_ | refine Below.setCell ?_ (by first | exact Nat.le_refl _ | omega | (simp; done) | (simp; omega)) _ | refine Below.alloc ?_ (by first | exact Nat.le_refl _ | omega | (simp; done) | (simp; omega)) _)) (hwq.mono (by first | exact Nat.le_refl _ | omega | (simp; done) | (simp; omega)))⟩

theorem lenH_any (m : Nat) (a : Option Addr) (n cap : Nat) (w : World) (h1 : w.cell? ⟨m, 1, none⟩ = some (.slice a n cap)) :
    Calls Tryz.prog 120 #[.pointer (some ⟨m, 0, none⟩)] w fun e w' => e = .returned (.int .i64 n) ∧ w' = w := by
  go_enter Tryz.func120, Tryz.ntmps120
  go_wp2
  go_ret
  exact ⟨rfl, rfl⟩

/-- The route of a prefix. -/
def routeAt (K : List Rt) (x : Int) (b : Int) : Option Rt := K.find? fun e => e.bits == x && e.len == b
theorem cmpRt_zero {e : Rt} {x : Int} {b : Int} : cmpRt e x b = 0 ↔ (e.bits == x && e.len == b) = true := by
  unfold cmpRt
  rw [cmpPf_zero]
  simp
theorem after_posH {K : List Rt} {x : Int} {b : Int} {i : Nat} (hR : ∀ j, i ≤ j → j < K.length → 0 ≤ cmpRt (rAt K j) x b) (hs : SortedH K) (h : ¬ (i < K.length ∧ cmpRt (rAt K i) x b = 0)) : ∀ j, i ≤ j → j < K.length → 0 < cmpRt (rAt K j) x b := fun j h1 h2 => by
  have a := hR j h1 h2
  rcases Int.lt_or_eq_of_le a with h' | h'
  · exact h'
  · exfalso
    rcases Nat.lt_or_eq_of_le h1 with h3 | rfl
    · have e := h'.symm
      unfold cmpRt at e
      rw [cmpPf_zero] at e
      have c := List.pairwise_iff_getElem.1 hs i j (by omega) h2 h3
      have d := hR i (Nat.le_refl _) (by omega)
      rw [rAt_eq h2] at e
      rw [rAt_eq (by omega)] at d
      unfold cmpRt at c d
      rw [e.1, e.2] at c
      omega
    · exact h ⟨h2, h'.symm⟩
theorem routeAt_get {K : List Rt} {x : Int} {b : Int} {i : Nat} (hL : ∀ j, j < i → cmpRt (rAt K j) x b < 0) (hR : ∀ j, i ≤ j → j < K.length → 0 ≤ cmpRt (rAt K j) x b) (hs : SortedH K) :
    routeAt K x b = if h : i < K.length ∧ cmpRt (rAt K i) x b = 0 then some (K[i]'h.1) else none := by
  unfold routeAt
  split
  · rename_i h
    rw [List.find?_eq_some_iff_getElem]
    refine ⟨by rw [← rAt_eq h.1]; exact cmpRt_zero.1 h.2, i, h.1, rfl, fun j hj => ?_⟩
    have := hL j hj
    rw [rAt_eq (by omega)] at this
    rw [Bool.not_eq_true', ← Bool.not_eq_true, ← cmpRt_zero]
    omega
  · rename_i h
    have h2 := after_posH hR hs h
    rw [List.find?_eq_none]
    intro e he
    obtain ⟨j, hj, rfl⟩ := List.getElem_of_mem he
    rw [← cmpRt_zero, ← rAt_eq hj]
    rcases Nat.lt_or_ge j i with h1 | h1
    · have := hL j h1; omega
    · have := h2 j h1 hj; omega

theorem MapH.below {w w' : World} {m : Nat} {sv : Value} {K : List Rt} (hm : MapH w m sv K) (hb : Below w.heap.size w w') : MapH w' m sv K :=
  ⟨(hb.cell (p := ⟨m, 0, none⟩) (block_lt_of_cell hm.1)).trans hm.1, (hb.cell (p := ⟨m, 1, none⟩) (block_lt_of_cell hm.2.1)).trans hm.2.1, ownsRow_keep hm.2.2.1 (fun g hg => hb.block g (hm.2.2.1.lt g hg).2), fun j => (hb.frozen (p := ⟨m, j, none⟩) (show m < w.heap.size from block_lt_of_cell hm.1)).trans (hm.2.2.2.1 j), hm.2.2.2.2⟩

end Go.Proofs.YtaejpejfmpbinaaGreatDoor

namespace Go.Proofs.YtaejpejfmpbinaaGreatDoor
open Go.RowKit
open Go.Sort (grow)
attribute [local go_sem] cell?_regrown

/-- What a station's MAC is. -/
def isSt (b : ByteArray) : Bool := (b.size == 6) && !isGrp b
set_option maxRecDepth 100000 in
theorem isStation_any (b : ByteArray) (w : World) : Calls Tryz.prog 36 #[.string b] w fun e w' => e = .returned (.bool (isSt b)) ∧ w' = w := by
  have C := hide fun (W : World) => isGroup_any b W
  by_cases h : b.size = 6
  · have h1 : ((b.size : Int) == 6) = true := by rw [h]; rfl
    have e : isSt b = !isGrp b := by unfold isSt; rw [h]; rfl
    rw [e]
    clear e
    go_enter Tryz.func36, Tryz.ntmps36
    go_wp2_with fail
    refine (C.out _).mono ?_
    rintro e W ⟨rfl, hww⟩
    rw [hww]
    clear hww W
    go_wp2
    go_ret
    exact ⟨rfl, rfl⟩
  · have h1 : ((b.size : Int) == 6) = false := by
      rw [← Bool.not_eq_true, beq_iff_eq]
      omega
    have h2 : ¬ ((b.size : Int) = 6) := by omega
    have e : isSt b = false := by
      unfold isSt
      rw [show (b.size == 6) = false by simpa using h]
      rfl
    rw [e]
    clear e
    go_enter Tryz.func36, Tryz.ntmps36
    go_wp2
    go_ret
    exact ⟨rfl, rfl⟩

/-- How many addresses a prefix has. -/
def pfN (len : Nat) : Nat := 2 ^ (32 - len)
theorem pfN_le (len : Nat) : pfN len ≤ 4294967296 ∧ 0 < pfN len := by
  unfold pfN
  exact ⟨(Nat.pow_le_pow_right (n := 2) (by omega) (by omega) : 2 ^ (32 - len) ≤ 2 ^ 32), Nat.two_pow_pos _⟩
set_option maxRecDepth 100000 in
theorem behind_any (bits : Int) (len : Nat) (w : World) (hl : len ≤ 32) : Calls Tryz.prog 78 #[.agg #[.int .i64 bits, .int .i64 len]] w fun e w' => e = .returned (.int .i64 ((pfN len : Int) - 1)) ∧ Below w.heap.size w w' := by
  obtain ⟨k, hk⟩ : ∃ k, k = 32 - len := ⟨_, rfl⟩
  have e5 : IntKind.i64.wrap (32 - (len : Int)) = (k : Int) := by rw [IntKind.wrap_i64]; omega
  have e6 : (32 : Int) - (len : Int) = (k : Int) := by omega
  obtain ⟨p, hp⟩ : ∃ p, p = pfN len := ⟨_, rfl⟩
  have h2 : (2 : Int) ^ k = (p : Int) := by rw [hp, hk]; simp [pfN]
  have hp1 : p ≤ 4294967296 ∧ 0 < p := by rw [hp]; exact pfN_le len
  rw [← hp]
  clear hp hk
  go_enter Tryz.func78, Tryz.ntmps78
  go_wp2
  go_ret
  exact ⟨by go_num, (by repeat (first | exact Below.refl _ _ | assumption | refine Below.drewN ?_ | refine Below.drew ?_ | refine Below.setCell ?_ (by first | exact Nat.le_refl _ | omega | (simp; done) | (simp; omega)) _ | refine Below.alloc ?_ (by first | exact Nat.le_refl _ | omega | (simp; done) | (simp; omega)) _))⟩
end Go.Proofs.YtaejpejfmpbinaaGreatDoor

namespace Go.Proofs.YtaejpejfmpbinaaGreatDoor
open Go.RowKit
open Go.Sort (grow)
attribute [local go_sem] cell?_regrown

theorem and_pf (a len : Nat) (ha : a < 4294967296) : bits .and .i64 (a : Int) ((pfN len : Int) - 1) = ((a % pfN len : Nat) : Int) := by
  have h := pfN_le len
  have e : (pfN len : Int) - 1 = ((pfN len - 1 : Nat) : Int) := by omega
  rw [e, i64_and_nat _ _ (by omega) (by omega)]
  congr 1
  exact Nat.and_two_pow_sub_one_eq_mod a (32 - len)
theorem andNot_pf (a len : Nat) (ha : a < 4294967296) : bits .andNot .i64 (a : Int) ((pfN len : Int) - 1) = ((a / pfN len * pfN len : Nat) : Int) := by
  have h := pfN_le len
  have e : (pfN len : Int) - 1 = ((pfN len - 1 : Nat) : Int) := by omega
  rw [e, i64_andNot_nat _ _ (by omega) (by omega)]
  congr 1
  apply Nat.eq_of_testBit_eq
  intro i
  have hx : pfN len - 1 < 2 ^ 64 := by omega
  rw [Nat.testBit_and, show (18446744073709551615 - (pfN len - 1) : Nat) = 2 ^ 64 - ((pfN len - 1) + 1) by omega, Nat.testBit_two_pow_sub_succ hx]
  unfold pfN
  rw [Nat.testBit_two_pow_sub_one, ← Nat.shiftLeft_eq, ← Nat.shiftRight_eq_div_pow, Nat.testBit_shiftLeft, Nat.testBit_shiftRight]
  by_cases hi : i < 32 - len
  · simp [hi, Nat.not_le.2 hi]
  · have hj : 32 - len + (i - (32 - len)) = i := by omega
    rw [hj]
    by_cases h64 : i < 64
    · simp [hi, h64, Nat.not_lt.1 hi]
    · have : a.testBit i = false := Nat.testBit_lt_two_pow (Nat.lt_of_lt_of_le ha (Nat.pow_le_pow_right (n := 2) (i := 32) (by omega) (by omega)))
      simp [this]

/-- Whether a prefix has an address. -/
def pfHas (pb : Int) (len a : Nat) : Bool := (((a / pfN len * pfN len : Nat) : Int) == pb)
set_option maxRecDepth 100000 in
set_option maxHeartbeats 1000000 in
theorem prefHas_any (pb : Int) (len a : Nat) (w : World) (hl : len ≤ 32) (ha : a < 4294967296) :
    Calls Tryz.prog 107 #[.agg #[.int .i64 pb, .int .i64 len], .int .i64 a] w fun e w' => e = .returned (.bool (pfHas pb len a)) ∧ Below w.heap.size w w' := by
  have C := hide fun (W : World) => behind_any pb len W hl
  have E := andNot_pf a len ha
  unfold pfHas
  generalize (pfN len : Int) - 1 = q at *
  generalize ((a / pfN len * pfN len : Nat) : Int) = z at *
  go_enter Tryz.func107, Tryz.ntmps107
  go_wp2_with fail
  refine wp_region_quiet_below (by kernel_rfl) (by kernel_rfl) ?_
  repeat (quiet_step (exact Calls.regrown_of (C.out _)))
  refine wpQuiet_nil ?_; intro wq hwq; replace hwq := below_of_regrown hwq; obtain ⟨hcq, hfq⟩ := bcell hwq; have hzq := hwq.size
  go_wp2
  go_ret
  exact ⟨rfl, Below.trans (by repeat (first | exact Below.refl _ _ | assumption | refine Below.drewN ?_ | refine Below.drew ?_ | refine Below.setCell ?_ (by first | exact Nat.le_refl _ | omega | (simp; done) | (simp; omega)) _ | refine Below.alloc ?_ (by first | exact Nat.le_refl _ | omega | (simp; done) | (simp; omega)) _)) (hwq.mono (by first | exact Nat.le_refl _ | omega | (simp; done) | (simp; omega)))⟩

set_option maxRecDepth 100000 in
theorem fieldOf_any (w : World) : Calls Tryz.prog 76 #[.int .i64 32] w fun e w' => e = .returned (.agg #[.int .i64 32, .int .i64 0, .int .i64 4294967295]) ∧ Below w.heap.size w w' := by
  go_enter Tryz.func76, Tryz.ntmps76
  go_wp2
  exact bodyPost_ret (v := .agg #[.int .i64 32, .int .i64 0, .int .i64 4294967295]) (by simp [results, Tryz.results76, go_sem]) rfl ⟨rfl, (by repeat (first | exact Below.refl _ _ | assumption | refine Below.drewN ?_ | refine Below.drew ?_ | refine Below.setCell ?_ (by first | exact Nat.le_refl _ | omega | (simp; done) | (simp; omega)) _ | refine Below.alloc ?_ (by first | exact Nat.le_refl _ | omega | (simp; done) | (simp; omega)) _))⟩

set_option maxRecDepth 100000 in
set_option maxHeartbeats 1000000 in
theorem isRight_any (pb len : Nat) (w : World) (hb : pb < 4294967296) (hl : len ≤ 32) (h0 : pb % pfN len = 0) :
    Calls Tryz.prog 39 #[.agg #[.int .i64 pb, .int .i64 len]] w fun e w' => e = .returned (.bool true) ∧ Below w.heap.size w w' := by
  have CF := hide fun (W : World) => fieldOf_any W
  have CB := hide fun (W : World) => behind_any pb len W hl
  have CS := hide fun (W : World) => sHas_any 0 32 len W
  have CH := hide fun (W : World) => fHas_any 32 0 4294967295 pb W
  rw [show hasB 0 32 len = true from hasB_iff.2 (by omega)] at CS
  rw [show hasB 0 4294967295 pb = true from hasB_iff.2 (by omega)] at CH
  have E := and_pf pb len hb
  rw [h0] at E
  generalize (pfN len : Int) - 1 = q at *
  clear h0
  go_enter Tryz.func39, Tryz.ntmps39
  go_wp2_with fail
  refine (CF.out _).mono ?_
  rintro e W1 ⟨rfl, hb1⟩
  have k0 : W1.cell? ⟨w.heap.size, 0, none⟩ = some (.int .i64 pb) := cell_later hb1 (cellRow (allocN _ _) rfl)
  have k1 : W1.cell? ⟨w.heap.size, 1, none⟩ = some (.int .i64 len) := cell_later hb1 (cellRow (allocN _ _) rfl)
  have hw1 := block_lt_of_cell k0
  have hbw : Below w.heap.size w W1 := ((Below.refl _ w).alloc (Nat.le_refl _) _).trans (hb1.mono (by simp))
  obtain ⟨W2, hW2⟩ : ∃ W2, W2 = (W1.alloc (.cells #[.int .i64 0, .int .i64 32] 137)).alloc (.cells #[.int .i64 32, .int .i64 0, .int .i64 4294967295] 141) := ⟨_, rfl⟩
  have hb2 : Below W1.heap.size W1 W2 := by rw [hW2]; exact ((Below.refl _ W1).alloc (Nat.le_refl _) _).alloc (by simp) _
  have b0 : W2.heap[W1.heap.size]? = some (.cells #[.int .i64 0, .int .i64 32] 137 (0, 0)) := by
    rw [hW2]
    exact (((Below.refl _ (W1.alloc (.cells #[.int .i64 0, .int .i64 32] 137))).alloc (Nat.le_refl _) _).block _ (by simp)).trans (allocN _ _)
  have b1 : W2.heap[W1.heap.size + 1]? = some (.cells #[.int .i64 32, .int .i64 0, .int .i64 4294967295] 141 (0, 0)) := by
    have h := allocN (W1.alloc (.cells #[.int .i64 0, .int .i64 32] 137)) (.cells #[.int .i64 32, .int .i64 0, .int .i64 4294967295] 141)
    rw [show (W1.alloc (.cells #[.int .i64 0, .int .i64 32] 137)).heap.size = W1.heap.size + 1 by simp] at h
    rw [hW2]
    exact h
  have d0 := cell_later hb2 k0
  have d1 := cell_later hb2 k1
  have s0 : W2.cell? ⟨W1.heap.size, 0, none⟩ = some (.int .i64 0) := cellRow b0 rfl
  have s1 : W2.cell? ⟨W1.heap.size, 1, none⟩ = some (.int .i64 32) := cellRow b0 rfl
  have t0 : W2.cell? ⟨W1.heap.size + 1, 0, none⟩ = some (.int .i64 32) := cellRow b1 rfl
  have t1 : W2.cell? ⟨W1.heap.size + 1, 1, none⟩ = some (.int .i64 0) := cellRow b1 rfl
  have t2 : W2.cell? ⟨W1.heap.size + 1, 2, none⟩ = some (.int .i64 4294967295) := cellRow b1 rfl
  have z0 := block_lt_of_cell d0
  have z1 := block_lt_of_cell s0
  have z2 := block_lt_of_cell t0
  have hbw2 : Below w.heap.size w W2 := hbw.trans (hb2.mono hbw.size)
  have HW2 := hide hW2
  clear b0 b1 k0 k1 hb2 hb1 hW2 CF hbw
  go_wp2_with fail
  rw [← HW2.out]
  refine wp_region_quiet_below (by kernel_rfl) (by kernel_rfl) ?_
  repeat (first | go_big_quiet_skip | quiet_step (first | exact Calls.regrown_of (CB.out _) | exact Calls.regrown_of (CS.out _) | exact Calls.regrown_of (CH.out _)))
  refine wpQuiet_nil ?_; intro wq hwq; replace hwq := below_of_regrown hwq; obtain ⟨hcq, hfq⟩ := bcell hwq; have hzq := hwq.size
  have HQ := hide (hbw2.trans (hwq.mono hbw2.size))
  clear hwq hcq hfq
  go_wp2
  go_ret
  exact ⟨rfl, HQ.out⟩
end Go.Proofs.YtaejpejfmpbinaaGreatDoor

namespace Go.Proofs.YtaejpejfmpbinaaGreatDoor
open Go.RowKit
open Go.Sort (grow)

attribute [local go_sem] cell?_regrown

set_option maxRecDepth 100000 in
set_option maxHeartbeats 400000 in
theorem againstFc_any (m : Nat) (k : Int) (p : ByteArray) (x : Int) (w : World) (hm : w.cell? ⟨m, 0, none⟩ = some (.func (.func 44) #[] #[])) :
    Calls Tryz.prog 117 #[.pointer (some ⟨m, 0, none⟩), .agg #[.int .i64 k, .string p], .int .i64 x] w fun e w' => e = .returned (.int .i64 (cmpI k x)) ∧ Below w.heap.size w w' := by
  have hlt : m < w.heap.size := block_lt_of_cell hm
  go_enter Tryz.func117, Tryz.ntmps117
  go_wp2_with fail
  refine wp_region_quiet_below (by kernel_rfl) (by kernel_rfl) ?_
  repeat (quiet_step (exact Calls.regrown_of ((cmpInt_any _ _ _).mono fun e w' h => ⟨h.1, h.2 ▸ Below.refl _ _⟩)))
  refine wpQuiet_nil ?_; intro wq hwq; replace hwq := below_of_regrown hwq; obtain ⟨hcq, hfq⟩ := bcell hwq; have hzq := hwq.size
  go_wp2
  go_ret
  exact ⟨rfl, Below.trans (by repeat (first | exact Below.refl _ _ | assumption | refine Below.drewN ?_ | refine Below.drew ?_ | refine Below.setCell ?_ (by first | exact Nat.le_refl _ | omega | (simp; done) | (simp; omega)) _ | refine Below.alloc ?_ (by first | exact Nat.le_refl _ | omega | (simp; done) | (simp; omega)) _)) (hwq.mono (by first | exact Nat.le_refl _ | omega | (simp; done) | (simp; omega)))⟩

set_option maxRecDepth 100000 in
set_option maxHeartbeats 1000000 in
theorem bsFc_any (m g cap n : Nat) (a : Option Addr) (K : Nat → Int) (E : Nat → ByteArray) (x : Int) (w : World) (hn : n ≤ 200) (hm : w.cell? ⟨m, 0, none⟩ = some (.func (.func 44) #[] #[]))
    (hc : ∀ j, j < n → a = some ⟨g, 0, none⟩ ∧ w.cell? ⟨g, (j) * 2, none⟩ = some (.int .i64 (K (j))) ∧ w.cell? ⟨g, (j) * 2 + 1, none⟩ = some (.string (E (j)))) (hmono : ∀ i j, i ≤ j → j < n → cmpI (K j) x < 0 → cmpI (K i) x < 0) :
    Calls Tryz.prog 116 #[.slice a n cap, .int .i64 x, .func (.func 117) #[.pointer (some ⟨m, 0, none⟩)] #[]] w fun e w' => ∃ i : Nat, i ≤ n ∧ (∀ j, j < i → cmpI (K j) x < 0) ∧ (∀ j, i ≤ j → j < n → 0 ≤ cmpI (K j) x) ∧ e = .returned (.tuple #[.int .i64 i, .bool (decide (i < n) && (cmpI (K i) x == 0))]) ∧ Below w.heap.size w w' := by
  have hmlt : m < w.heap.size := block_lt_of_cell hm
  go_enter Tryz.func116, Tryz.ntmps116
  go_wp2
  go_loopw [9, 10] (fun vi vj wr => ∃ i j : Nat, i ≤ j ∧ j ≤ n ∧ vi = .int .i64 i ∧ vj = .int .i64 j ∧ (∀ q, q < i → cmpI (K q) x < 0) ∧ (∀ q, j ≤ q → q < n → 0 ≤ cmpI (K q) x) ∧ Below w.heap.size w wr) (fun vi vj _ => (intOf vj - intOf vi).toNat)
  case atStart => exact ⟨0, n, by omega, by omega, rfl, rfl, by omega, by omega, (by repeat (first | exact Below.refl _ _ | assumption | refine Below.drewN ?_ | refine Below.drew ?_ | refine Below.setCell ?_ (by first | exact Nat.le_refl _ | omega | (simp; done) | (simp; omega)) _ | refine Below.alloc ?_ (by first | exact Nat.le_refl _ | omega | (simp; done) | (simp; omega)) _))⟩
  case round =>
    obtain ⟨i, j, hij, hjn, rfl, rfl, hL, hR, hb⟩ := hrel
    have hm' := (hb.cell (p := ⟨m, 0, none⟩) hmlt).trans hm
    have HL := hide hL
    have HR := hide hR
    clear hL hR
    by_cases hlt : i < j
    · obtain ⟨h, hh⟩ : ∃ h : Nat, h = (i + j) / 2 := ⟨_, rfl⟩
      have hh1 : i ≤ h := by omega
      have hh2 : h < j := by omega
      obtain ⟨rfl, c0, c1⟩ := hc h (by omega)
      have d0 := (hb.cell (p := ⟨g, h * 2, none⟩) (block_lt_of_cell c0)).trans c0
      have d1 := (hb.cell (p := ⟨g, h * 2 + 1, none⟩) (block_lt_of_cell c1)).trans c1
      have hglt : g < wr.heap.size := block_lt_of_cell d0
      have e1 : ((i : Int) + j) / 2 = h := by omega
      have hhn : (h : Int) < n := by omega
      have HM := hide fun q (hq : q ≤ h) (h' : cmpI (K h) x < 0) => hmono q h hq (by omega) h'
      have HM2 := hide fun q (hq : h ≤ q) (hqn : q < n) (h' : cmpI (K q) x < 0) => hmono h q hq hqn h'
      clear hh c0 c1
      go_wp2_with fail
      refine (againstFc_any m (K h) (E h) x _ hm').mono ?_
      rintro e wq ⟨rfl, hwq⟩
      have hbq : Below wr.heap.size wr wq := hwq
      have HBQ := hide (hb.trans (hbq.mono hb.size))
      by_cases hneg : cmpI (K h) x < 0
      · go_wp2
        go_roundw
        case rel => exact ⟨h + 1, j, by omega, by omega, by go_num, rfl, fun q hq => HM.out q (by omega) hneg, HR.out, HBQ.out⟩
        case measure => simp [intOf]; omega
      · have HN := hide hneg
        go_wp2
        go_roundw
        case rel => exact ⟨i, h, by omega, by omega, rfl, rfl, HL.out, fun q hq hqn => Int.not_lt.1 fun h' => absurd (HM2.out q hq hqn h') (by have := HN.out; omega), HBQ.out⟩
        case measure => simp [intOf]; omega
    · obtain rfl : i = j := by omega
      by_cases hin : i < n
      · obtain ⟨rfl, c0, c1⟩ := hc i hin
        have d0 := (hb.cell (p := ⟨g, i * 2, none⟩) (block_lt_of_cell c0)).trans c0
        have d1 := (hb.cell (p := ⟨g, i * 2 + 1, none⟩) (block_lt_of_cell c1)).trans c1
        have hglt : g < wr.heap.size := block_lt_of_cell d0
        have hini : (i : Int) < n := by omega
        clear c0 c1
        go_wp2_with fail
        refine (againstFc_any m (K i) (E i) x _ hm').mono ?_
        rintro e wq ⟨rfl, hwq⟩
        have hbq : Below wr.heap.size wr wq := hwq
        go_wp2
        go_ret2
        exact ⟨i, by omega, HL.out, HR.out, by simp [hin], hb.trans (hbq.mono hb.size)⟩
      · go_wp2
        go_ret2
        exact ⟨i, by omega, HL.out, HR.out, by simp [hin], hb⟩

/-- A face: its VLAN, its MAC. -/
abbrev Fc := Int × ByteArray
/-- The cells of the map's array. -/
def rowFc (L : List Fc) : List Value := L.flatMap fun e => [.int .i64 e.1, .string e.2]
theorem rowFc_length (L : List Fc) : (rowFc L).length = L.length * 2 := by
  induction L with
  | nil => rfl
  | cons e t ih => simp [rowFc] at ih ⊢; omega
theorem rowFc_get (L : List Fc) : ∀ k (hk : k < L.length), (rowFc L)[k * 2]? = some (.int .i64 L[k].1) ∧ (rowFc L)[k * 2 + 1]? = some (.string L[k].2) := by
  induction L with
  | nil => intro k hk; simp at hk
  | cons p t ih =>
    intro k hk
    match k, hk with
    | 0, _ => exact ⟨rfl, rfl⟩
    | k + 1, hk =>
      have := ih k (by simpa using hk)
      have e : (k + 1) * 2 = k * 2 + 2 := by omega
      rw [e]
      exact this
/-- The faces' map in memory. -/
def MapF (w : World) (m : Nat) (sv : Value) (L : List Fc) : Prop :=
  w.cell? ⟨m, 0, none⟩ = some (.func (.func 44) #[] #[]) ∧ w.cell? ⟨m, 1, none⟩ = some sv ∧ w.ownsRow 0 191 2 sv L.length (rowFc L) ∧ (∀ j, w.frozen? ⟨m, j, none⟩ = false) ∧ L.length ≤ 200
theorem rowFc_cells {w : World} {sv : Value} {L : List Fc} (h : w.ownsRow 0 191 2 sv L.length (rowFc L)) : ∃ a cap g, sv = .slice a L.length cap ∧ ∀ j (hj : j < L.length), a = some ⟨g, 0, none⟩ ∧ w.cell? ⟨g, j * 2, none⟩ = some (.int .i64 L[j].1) ∧ w.cell? ⟨g, j * 2 + 1, none⟩ = some (.string L[j].2) := by
  rcases h.2 with ⟨hv, h0⟩ | ⟨g, cap, cur, hv, _⟩
  · exact ⟨none, 0, 0, by rw [hv, h0], fun j hj => by omega⟩
  · refine ⟨_, cap, g, hv, fun j hj => ⟨rfl, ?_⟩⟩
    rw [hv] at h
    have := rowFc_get L j hj
    exact ⟨(h.cellAt _ (by omega)).trans this.1, (h.cellAt _ (by omega)).trans this.2⟩
/-- Number j's VLAN and face. -/
def fcAt (L : List Fc) (j : Nat) : Int := (L[j]?.map fun e => e.1).getD 0
def fsAt (L : List Fc) (j : Nat) : ByteArray := (L[j]?.map fun e => e.2).getD ⟨#[]⟩
theorem fcAt_eq {L : List Fc} {j : Nat} (h : j < L.length) : fcAt L j = L[j].1 := by simp [fcAt, h]
theorem fsAt_eq {L : List Fc} {j : Nat} (h : j < L.length) : fsAt L j = L[j].2 := by simp [fsAt, h]

/-- Sorted by rising VLANs. -/
abbrev SortedF (L : List Fc) : Prop := L.Pairwise fun a b => a.1 < b.1

set_option maxRecDepth 100000 in
set_option maxHeartbeats 400000 in
theorem placeFc_any (m : Nat) (sv : Value) (L : List Fc) (x : Int) (w : World) (hm : MapF w m sv L) (hs : SortedF L) :
    Calls Tryz.prog 72 #[.pointer (some ⟨m, 0, none⟩), .int .i64 x] w fun e w' => ∃ i : Nat, i ≤ L.length ∧ (∀ j, j < i → fcAt L j < x) ∧ (∀ j, i ≤ j → j < L.length → x ≤ fcAt L j) ∧ e = .returned (.tuple #[.int .i64 i, .bool (decide (i < L.length) && (fcAt L i == x))]) ∧ Below w.heap.size w w' := by
  obtain ⟨h0, h1, h2, h3, h4⟩ := hm
  obtain ⟨a, cap, g, rfl, hc⟩ := rowFc_cells h2
  have CB := hide (bsFc_any m g cap L.length a (fcAt L) (fsAt L) x w h4 h0 (fun j hj => by rw [fcAt_eq hj, fsAt_eq hj]; exact hc j hj) (fun i j hij hj h => by
    rw [cmpI_lt] at h ⊢
    rw [fcAt_eq (by omega : i < L.length)]
    rw [fcAt_eq hj] at h
    rcases Nat.lt_or_eq_of_le hij with hlt | rfl
    · exact Int.lt_trans (List.pairwise_iff_getElem.1 hs i j _ _ hlt) h
    · exact h))
  clear h2 h3 hc hs
  go_enter Tryz.func72, Tryz.ntmps72
  go_wp2_with fail
  refine CB.out.mono ?_
  rintro e w1 ⟨i, hi, hL, hR, rfl, hb⟩
  have HL := hide hL
  have HR := hide hR
  clear hL hR CB
  go_wp2
  go_ret2
  refine ⟨i, hi, fun j hj => cmpI_lt.1 (HL.out j hj), fun j h1 h2 => ?_, ?_, hb⟩
  · have := HR.out j h1 h2
    rcases Int.lt_or_le (fcAt L j) x with h | h
    · have := cmpI_lt.2 h; omega
    · exact h
  · have e : (cmpI (fcAt L i) x == 0) = (fcAt L i == x) := by rw [Bool.eq_iff_iff, beq_iff_eq, beq_iff_eq, cmpI_zero]
    simp only [e]
    exact rfl

/-- Which is a VLAN's face. -/
def faceOf (L : List Fc) (x : Int) : Option Fc := L.find? fun e => e.1 == x

def faceS (L : List Fc) (x : Int) : ByteArray := ((faceOf L x).map (·.2)).getD ⟨#[]⟩
theorem faceOf_place {L : List Fc} {x : Int} {i : Nat} (hL : ∀ j, j < i → fcAt L j < x) (hR : ∀ j, i ≤ j → j < L.length → x ≤ fcAt L j) (hs : SortedF L) :
    faceOf L x = if h : i < L.length ∧ fcAt L i = x then some (L[i]'h.1) else none := by
  unfold faceOf
  split
  · rename_i h
    rw [List.find?_eq_some_iff_getElem]
    refine ⟨by rw [← fcAt_eq h.1, h.2]; simp, i, h.1, rfl, fun j hj => ?_⟩
    have := hL j hj
    rw [fcAt_eq (by omega)] at this
    simp; omega
  · rename_i h
    rw [List.find?_eq_none]
    intro e he
    obtain ⟨j, hj, rfl⟩ := List.getElem_of_mem he
    intro hx
    have hx' : L[j].1 = x := by simpa using hx
    rcases Nat.lt_or_ge j i with h1 | h1
    · have := hL j h1; rw [fcAt_eq hj] at this; omega
    · rcases Nat.lt_or_eq_of_le h1 with h2 | rfl
      · have a := hR i (Nat.le_refl _) (by omega)
        have b := List.pairwise_iff_getElem.1 hs i j (by omega) hj h2
        rw [fcAt_eq (by omega)] at a
        omega
      · exact h ⟨hj, by rw [fcAt_eq hj]; exact hx'⟩

set_option maxRecDepth 100000 in
set_option maxHeartbeats 400000 in
theorem getFc_any (m : Nat) (sv : Value) (L : List Fc) (x : Int) (w : World) (hm : MapF w m sv L) (hs : SortedF L) :
    Calls Tryz.prog 62 #[.pointer (some ⟨m, 0, none⟩), .int .i64 x] w fun e w' => e = .returned (.tuple #[.string (faceS L x), .bool (faceOf L x).isSome]) ∧ Below w.heap.size w w' := by
  have CP := hide (placeFc_any m sv L x w hm hs)
  obtain ⟨h0, h1, h2, h3, h4⟩ := hm
  obtain ⟨a, cap, g, rfl, hc⟩ := rowFc_cells h2
  have hmlt : m < w.heap.size := block_lt_of_cell h0
  clear h2 h3
  go_enter Tryz.func62, Tryz.ntmps62
  go_wp2_with fail
  refine CP.out.mono ?_
  rintro e w1 ⟨i, hi, hL, hR, rfl, hb⟩
  have HF := hide (faceOf_place hL hR hs)
  clear CP hL hR hs
  by_cases h : i < L.length ∧ fcAt L i = x
  · obtain ⟨ha, c0, c1⟩ := hc i h.1
    subst ha
    have hx : (fcAt L i == x) = true := by simp [h.2]
    have hd : decide (i < L.length) = true := by simp [h.1]
    have d1 := cell_later hb c1
    have e1 := cell_later hb h1
    have hil : (i : Int) < L.length := by omega
    have hF : faceOf L x = some L[i] := by rw [HF.out, dif_pos h]
    have HFF := hide hF
    generalize L[i] = ei at *
    clear hc hF
    go_wp2
    go_ret2
    exact ⟨by unfold faceS; rw [HFF.out]; rfl, hb⟩
  · have hx : (decide (i < L.length) && (fcAt L i == x)) = false := by
      rw [← Bool.not_eq_true, Bool.and_eq_true, decide_eq_true_eq, beq_iff_eq]; exact h
    have hF : faceOf L x = none := by rw [HF.out, dif_neg h]
    have HFF := hide hF
    clear hc hF h
    go_wp2
    go_ret2
    exact ⟨by unfold faceS; rw [HFF.out]; rfl, hb⟩

end Go.Proofs.YtaejpejfmpbinaaGreatDoor
