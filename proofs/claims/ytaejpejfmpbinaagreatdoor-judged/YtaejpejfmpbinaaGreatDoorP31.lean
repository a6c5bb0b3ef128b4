import Derived.Test.YtaejpejfmpbinaaGreatDoorP15
import Derived.Test.YtaejpejfmpbinaaGreatDoorP22
import Derived.Deep.QuietTactic
import Derived.BigQuiet
import Derived.Lib.QuietBelow
import Derived.Laws.ResultCell
namespace Go.Proofs.YtaejpejfmpbinaaGreatDoor
open Go.RowKit
open Go.Sort (grow)

attribute [local go_sem] cell?_regrown

set_option maxRecDepth 100000 in
set_option maxHeartbeats 400000 in
theorem againstFc_any (m : Nat) (k : Int) (p : ByteArray) (x : Int) (w : World) (hm : w.cell? ⟨m, 0, none⟩ = some (.func (.func 44) #[] #[])) :
    Calls Tryz.prog 117 #[.pointer (some ⟨m, 0, none⟩), .agg #[.int .i64 k, .string p], .int .i64 x] w fun e w' => e = .returned (.int .i64 (cmpI k x)) ∧ Below w.heap.size w w' := by
  have hlt : m < w.heap.size := block_lt_of_cell hm
  go_enter Tryz.func117, Tryz.ntmps117
  go_wp2_with fail
  refine wp_region_quiet_below (by kernel_rfl) (by kernel_rfl) ?_
  repeat (quiet_step (exact Calls.regrown_of ((cmpInt_any _ _ _).mono fun e w' h => ⟨h.1, h.2 ▸ Below.refl _ _⟩)))
  refine wpQuiet_nil ?_; intro wq hwq; replace hwq := below_of_regrown hwq; obtain ⟨hcq, hfq⟩ := bcell hwq; have hzq := hwq.size
  go_wp2
  go_ret
  exact ⟨rfl, Below.trans (by repeat (first | exact Below.refl _ _ | assumption | refine Below.drewN ?_ | refine Below.drew ?_ | refine Below.setCell ?_ (by first | exact Nat.le_refl _ | omega | (simp; done) | (simp; omega)) _ | refine Below.alloc ?_ (by first | exact Nat.le_refl _ | omega | (simp; done) | (simp; omega)) _)) (hwq.mono (by first | exact Nat.le_refl _ | omega | (simp; done) | (simp; omega)))⟩

set_option maxRecDepth 100000 in
set_option maxHeartbeats 1000000 in
theorem bsFc_any (m g cap n : Nat) (a : Option Addr) (K : Nat → Int) (E : Nat → ByteArray) (x : Int) (w : World) (hn : n ≤ 200) (hm : w.cell? ⟨m, 0, none⟩ = some (.func (.func 44) #[] #[]))
    (hc : ∀ j, j < n → a = some ⟨g, 0, none⟩ ∧ w.cell? ⟨g, (j) * 2, none⟩ = some (.int .i64 (K (j))) ∧ w.cell? ⟨g, (j) * 2 + 1, none⟩ = some (.string (E (j)))) (hmono : ∀ i j, i ≤ j → j < n → cmpI (K j) x < 0 → cmpI (K i) x < 0) :
    Calls Tryz.prog 116 #[.slice a n cap, .int .i64 x, .func (.func 117) #[.pointer (some ⟨m, 0, none⟩)] #[]] w fun e w' => ∃ i : Nat, i ≤ n ∧ (∀ j, j < i → cmpI (K j) x < 0) ∧ (∀ j, i ≤ j → j < n → 0 ≤ cmpI (K j) x) ∧ e = .returned (.tuple #[.int .i64 i, .bool (decide (i < n) && (cmpI (K i) x == 0))]) ∧ Below w.heap.size w w' := by
  have hmlt : m < w.heap.size := block_lt_of_cell hm
  go_enter Tryz.func116, Tryz.ntmps116
  go_wp2
  go_loopw [9, 10] (fun vi vj wr => ∃ i j : Nat, i ≤ j ∧ j ≤ n ∧ vi = .int .i64 i ∧ vj = .int .i64 j ∧ (∀ q, q < i → cmpI (K q) x < 0) ∧ (∀ q, j ≤ q → q < n → 0 ≤ cmpI (K q) x) ∧ Below w.heap.size w wr) (fun vi vj _ => (intOf vj - intOf vi).toNat)
  case atStart => exact ⟨0, n, by omega, by omega, rfl, rfl, by omega, by omega, (by repeat (first | exact Below.refl _ _ | assumption | refine Below.drewN ?_ | refine Below.drew ?_ | refine Below.setCell ?_ (by first | exact Nat.le_refl _ | omega | (simp; done) | (simp; omega)) _ | refine Below.alloc ?_ (by first | exact Nat.le_refl _ | omega | (simp; done) | (simp; omega)) _))⟩
  case round =>
    obtain ⟨i, j, hij, hjn, rfl, rfl, hL, hR, hb⟩ := hrel
    have hm' := (hb.cell (p := ⟨m, 0, none⟩) hmlt).trans hm
    have HL := hide hL
    have HR := hide hR
    clear hL hR
    by_cases hlt : i < j
    · obtain ⟨h, hh⟩ : ∃ h : Nat, h = (i + j) / 2 := ⟨_, rfl⟩
      have hh1 : i ≤ h := by omega
      have hh2 : h < j := by omega
      obtain ⟨rfl, c0, c1⟩ := hc h (by omega)
      have d0 := (hb.cell (p := ⟨g, h * 2, none⟩) (block_lt_of_cell c0)).trans c0
      have d1 := (hb.cell (p := ⟨g, h * 2 + 1, none⟩) (block_lt_of_cell c1)).trans c1
      have hglt : g < wr.heap.size := block_lt_of_cell d0
      have e1 : ((i : Int) + j) / 2 = h := by omega
      have hhn : (h : Int) < n := by omega
      have HM := hide fun q (hq : q ≤ h) (h' : cmpI (K h) x < 0) => hmono q h hq (by omega) h'
      have HM2 := hide fun q (hq : h ≤ q) (hqn : q < n) (h' : cmpI (K q) x < 0) => hmono h q hq hqn h'
      clear hh c0 c1
      go_wp2_with fail
      refine (againstFc_any m (K h) (E h) x _ hm').mono ?_
      rintro e wq ⟨rfl, hwq⟩
      have hbq : Below wr.heap.size wr wq := hwq
      have HBQ := hide (hb.trans (hbq.mono hb.size))
      by_cases hneg : cmpI (K h) x < 0
      · go_wp2
        go_roundw
        case rel => exact ⟨h + 1, j, by omega, by omega, by go_num, rfl, fun q hq => HM.out q (by omega) hneg, HR.out, HBQ.out⟩
        case measure => simp [intOf]; omega
      · have HN := hide hneg
        go_wp2
        go_roundw
        case rel => exact ⟨i, h, by omega, by omega, rfl, rfl, HL.out, fun q hq hqn => Int.not_lt.1 fun h' => absurd (HM2.out q hq hqn h') (by have := HN.out; omega), HBQ.out⟩
        case measure => simp [intOf]; omega
    · obtain rfl : i = j := by omega
      by_cases hin : i < n
      · obtain ⟨rfl, c0, c1⟩ := hc i hin
        have d0 := (hb.cell (p := ⟨g, i * 2, none⟩) (block_lt_of_cell c0)).trans c0
        have d1 := (hb.cell (p := ⟨g, i * 2 + 1, none⟩) (block_lt_of_cell c1)).trans c1
        have hglt : g < wr.heap.size := block_lt_of_cell d0
        have hini : (i : Int) < n := by omega
        clear c0 c1
        go_wp2_with fail
        refine (againstFc_any m (K i) (E i) x _ hm').mono ?_
        rintro e wq ⟨rfl, hwq⟩
        have hbq : Below wr.heap.size wr wq := hwq
        go_wp2
        go_ret2
        exact ⟨i, by omega, HL.out, HR.out, by simp [hin], hb.trans (hbq.mono hb.size)⟩
      · go_wp2
        go_ret2
        exact ⟨i, by omega, HL.out, HR.out, by simp [hin], hb⟩

/-- A face: its VLAN, its MAC. -/
abbrev Fc := Int × ByteArray
/-- The cells of the map's array. -/
def rowFc (L : List Fc) : List Value := L.flatMap fun e => [.int .i64 e.1, .string e.2]
theorem rowFc_length (L : List Fc) : (rowFc L).length = L.length * 2 := by
  induction L with
  | nil => rfl
  | cons e t ih => simp [rowFc] at ih ⊢; omega
theorem rowFc_get (L : List Fc) : ∀ k (hk : k < L.length), (rowFc L)[k * 2]? = some (.int .i64 L[k].1) ∧ (rowFc L)[k * 2 + 1]? = some (.string L[k].2) := by
  induction L with
  | nil => intro k hk; simp at hk
  | cons p t ih =>
    intro k hk
    match k, hk with
    | 0, _ => exact ⟨rfl, rfl⟩
    | k + 1, hk =>
      have := ih k (by simpa using hk)
      have e : (k + 1) * 2 = k * 2 + 2 := by omega
      rw [e]
      exact this
/-- The faces' map in memory. -/
def MapF (w : World) (m : Nat) (sv : Value) (L : List Fc) : Prop :=
  w.cell? ⟨m, 0, none⟩ = some (.func (.func 44) #[] #[]) ∧ w.cell? ⟨m, 1, none⟩ = some sv ∧ w.ownsRow 0 191 2 sv L.length (rowFc L) ∧ (∀ j, w.frozen? ⟨m, j, none⟩ = false) ∧ L.length ≤ 200
theorem rowFc_cells {w : World} {sv : Value} {L : List Fc} (h : w.ownsRow 0 191 2 sv L.length (rowFc L)) : ∃ a cap g, sv = .slice a L.length cap ∧ ∀ j (hj : j < L.length), a = some ⟨g, 0, none⟩ ∧ w.cell? ⟨g, j * 2, none⟩ = some (.int .i64 L[j].1) ∧ w.cell? ⟨g, j * 2 + 1, none⟩ = some (.string L[j].2) := by
  rcases h.2 with ⟨hv, h0⟩ | ⟨g, cap, cur, hv, _⟩
  · exact ⟨none, 0, 0, by rw [hv, h0], fun j hj => by omega⟩
  · refine ⟨_, cap, g, hv, fun j hj => ⟨rfl, ?_⟩⟩
    rw [hv] at h
    have := rowFc_get L j hj
    exact ⟨(h.cellAt _ (by omega)).trans this.1, (h.cellAt _ (by omega)).trans this.2⟩
/-- Number j's VLAN and face. -/
def fcAt (L : List Fc) (j : Nat) : Int := (L[j]?.map fun e => e.1).getD 0
def fsAt (L : List Fc) (j : Nat) : ByteArray := (L[j]?.map fun e => e.2).getD ⟨#[]⟩
theorem fcAt_eq {L : List Fc} {j : Nat} (h : j < L.length) : fcAt L j = L[j].1 := by simp [fcAt, h]
theorem fsAt_eq {L : List Fc} {j : Nat} (h : j < L.length) : fsAt L j = L[j].2 := by simp [fsAt, h]

/-- Sorted by rising VLANs. -/
abbrev SortedF (L : List Fc) : Prop := L.Pairwise fun a b => a.1 < b.1

set_option maxRecDepth 100000 in
set_option maxHeartbeats 400000 in
theorem placeFc_any (m : Nat) (sv : Value) (L : List Fc) (x : Int) (w : World) (hm : MapF w m sv L) (hs : SortedF L) :
    Calls Tryz.prog 72 #[.pointer (some ⟨m, 0, none⟩), .int .i64 x] w fun e w' => ∃ i : Nat, i ≤ L.length ∧ (∀ j, j < i → fcAt L j < x) ∧ (∀ j, i ≤ j → j < L.length → x ≤ fcAt L j) ∧ e = .returned (.tuple #[.int .i64 i, .bool (decide (i < L.length) && (fcAt L i == x))]) ∧ Below w.heap.size w w' := by
  obtain ⟨h0, h1, h2, h3, h4⟩ := hm
  obtain ⟨a, cap, g, rfl, hc⟩ := rowFc_cells h2
  have CB := hide (bsFc_any m g cap L.length a (fcAt L) (fsAt L) x w h4 h0 (fun j hj => by rw [fcAt_eq hj, fsAt_eq hj]; exact hc j hj) (fun i j hij hj h => by
    rw [cmpI_lt] at h ⊢
    rw [fcAt_eq (by omega : i < L.length)]
    rw [fcAt_eq hj] at h
    rcases Nat.lt_or_eq_of_le hij with hlt | rfl
    · exact Int.lt_trans (List.pairwise_iff_getElem.1 hs i j _ _ hlt) h
    · exact h))
  clear h2 h3 hc hs
  go_enter Tryz.func72, Tryz.ntmps72
  go_wp2_with fail
  refine CB.out.mono ?_
  rintro e w1 ⟨i, hi, hL, hR, rfl, hb⟩
  have HL := hide hL
  have HR := hide hR
  clear hL hR CB
  go_wp2
  go_ret2
  refine ⟨i, hi, fun j hj => cmpI_lt.1 (HL.out j hj), fun j h1 h2 => ?_, ?_, hb⟩
  · have := HR.out j h1 h2
    rcases Int.lt_or_le (fcAt L j) x with h | h
    · have := cmpI_lt.2 h; omega
    · exact h
  · have e : (cmpI (fcAt L i) x == 0) = (fcAt L i == x) := by rw [Bool.eq_iff_iff, beq_iff_eq, beq_iff_eq, cmpI_zero]
    simp only [e]
    exact rfl

/-- Which is a VLAN's face. -/
def faceOf (L : List Fc) (x : Int) : Option Fc := L.find? fun e => e.1 == x

def faceS (L : List Fc) (x : Int) : ByteArray := ((faceOf L x).map (·.2)).getD ⟨#[]⟩
theorem faceOf_place {L : List Fc} {x : Int} {i : Nat} (hL : ∀ j, j < i → fcAt L j < x) (hR : ∀ j, i ≤ j → j < L.length → x ≤ fcAt L j) (hs : SortedF L) :
    faceOf L x = if h : i < L.length ∧ fcAt L i = x then some (L[i]'h.1) else none := by
  unfold faceOf
  split
  · rename_i h
    rw [List.find?_eq_some_iff_getElem]
    refine ⟨by rw [← fcAt_eq h.1, h.2]; simp, i, h.1, rfl, fun j hj => ?_⟩
    have := hL j hj
    rw [fcAt_eq (by omega)] at this
    simp; omega
  · rename_i h
    rw [List.find?_eq_none]
    intro e he
    obtain ⟨j, hj, rfl⟩ := List.getElem_of_mem he
    intro hx
    have hx' : L[j].1 = x := by simpa using hx
    rcases Nat.lt_or_ge j i with h1 | h1
    · have := hL j h1; rw [fcAt_eq hj] at this; omega
    · rcases Nat.lt_or_eq_of_le h1 with h2 | rfl
      · have a := hR i (Nat.le_refl _) (by omega)
        have b := List.pairwise_iff_getElem.1 hs i j (by omega) hj h2
        rw [fcAt_eq (by omega)] at a
        omega
      · exact h ⟨hj, by rw [fcAt_eq hj]; exact hx'⟩

set_option maxRecDepth 100000 in
set_option maxHeartbeats 400000 in
theorem getFc_any (m : Nat) (sv : Value) (L : List Fc) (x : Int) (w : World) (hm : MapF w m sv L) (hs : SortedF L) :
    Calls Tryz.prog 62 #[.pointer (some ⟨m, 0, none⟩), .int .i64 x] w fun e w' => e = .returned (.tuple #[.string (faceS L x), .bool (faceOf L x).isSome]) ∧ Below w.heap.size w w' := by
  have CP := hide (placeFc_any m sv L x w hm hs)
  obtain ⟨h0, h1, h2, h3, h4⟩ := hm
  obtain ⟨a, cap, g, rfl, hc⟩ := rowFc_cells h2
  have hmlt : m < w.heap.size := block_lt_of_cell h0
  clear h2 h3
  go_enter Tryz.func62, Tryz.ntmps62
  go_wp2_with fail
  refine CP.out.mono ?_
  rintro e w1 ⟨i, hi, hL, hR, rfl, hb⟩
  have HF := hide (faceOf_place hL hR hs)
  clear CP hL hR hs
  by_cases h : i < L.length ∧ fcAt L i = x
  · obtain ⟨ha, c0, c1⟩ := hc i h.1
    subst ha
    have hx : (fcAt L i == x) = true := by simp [h.2]
    have hd : decide (i < L.length) = true := by simp [h.1]
    have d1 := cell_later hb c1
    have e1 := cell_later hb h1
    have hil : (i : Int) < L.length := by omega
    have hF : faceOf L x = some L[i] := by rw [HF.out, dif_pos h]
    have HFF := hide hF
    generalize L[i] = ei at *
    clear hc hF
    go_wp2
    go_ret2
    exact ⟨by unfold faceS; rw [HFF.out]; rfl, hb⟩
  · have hx : (decide (i < L.length) && (fcAt L i == x)) = false := by
      rw [← Bool.not_eq_true, Bool.and_eq_true, decide_eq_true_eq, beq_iff_eq]; exact h
    have hF : faceOf L x = none := by rw [HF.out, dif_neg h]
    have HFF := hide hF
    clear hc hF h
    go_wp2
    go_ret2
    exact ⟨by unfold faceS; rw [HFF.out]; rfl, hb⟩

end Go.Proofs.YtaejpejfmpbinaaGreatDoor

namespace Go.Proofs.YtaejpejfmpbinaaGreatDoor
open Go.RowKit
open Go.Sort (grow)
attribute [local go_sem] cell?_regrown

/-- The number of two bytes at a place. -/
def w16 (b : ByteArray) (i : Nat) : Nat := if h : i + 1 < b.size then (b[i]'(by omega)).toNat * 256 + (b[i + 1]'h).toNat else 0
theorem w16_lt (b : ByteArray) (i : Nat) : w16 b i < 65536 := by
  unfold w16
  split
  · rename_i h
    have h0 := (b[i]'(by omega)).toNat_lt
    have h1 := (b[i + 1]'h).toNat_lt
    omega
  · omega
theorem or_bytes (x y : Nat) (hx : x < 256) (hy : y < 256) : bits BinOp.or IntKind.i64 ((x : Int) * 256) y = ((x * 256 + y : Nat) : Int) := by
  have e : (x : Int) * 256 = ((x * 256 : Nat) : Int) := by omega
  rw [e, i64_or_nat _ _ (by omega) (by omega)]
  congr 1
  have := Nat.shiftLeft_add_eq_or_of_lt (i := 8) (b := y) (by omega) x
  rw [Nat.shiftLeft_eq] at this
  exact this.symm
theorem retInt {k : IntKind} {a b : Int} (h : a = b) : Ending.returned (.int k a) = .returned (.int k b) := by rw [h]
def pkCells (b : ByteArray) (hd tt : Int) : Array Value := #[.string b, .int .i64 hd, .int .i64 tt]

set_option maxRecDepth 100000 in
set_option maxHeartbeats 1000000 in
theorem pWord_any (b : ByteArray) (hd tt : Int) (i : Nat) (w : World) (h : i + 1 < b.size) (hs : b.size ≤ 1000) :
    Calls Tryz.prog 98 #[.agg #[.string b, .int .i64 hd, .int .i64 tt], .int .i64 i] w fun e w' => e = .returned (.int .i64 (w16 b i)) ∧ Below w.heap.size w w' := by
  have i0 : (i : Int) < b.size := by omega
  have i1 : (i : Int) + 1 < b.size := by omega
  have i2 : (0 : Int) ≤ i := by omega
  have i3 : (0 : Int) ≤ (i : Int) + 1 := by omega
  have hib : (i : Int) ≤ 1000 := by omega
  have j0 : i < b.size := by omega
  have hw : w16 b i = (b[i]'(by omega)).toNat * 256 + (b[i + 1]'h).toNat := dif_pos h
  have h0 := (b[i]'(by omega)).toNat_lt
  have h1 := (b[i + 1]'h).toNat_lt
  have HO : Hid (bits BinOp.or IntKind.i64 (IntKind.i64.wrap (IntKind.i64.wrap ((b[i]'(by omega)).toNat : Int) * 256)) (IntKind.i64.wrap ((b[i + 1]'h).toNat : Int)) = ((((b[i]'(by omega)).toNat * 256 + (b[i + 1]'h).toNat : Nat)) : Int)) := hide (by
    rw [← or_bytes _ _ h0 h1]
    have e1 : IntKind.i64.wrap ((b[i]'(by omega)).toNat : Int) = ((b[i]'(by omega)).toNat : Int) := by rw [IntKind.wrap_i64]; omega
    have e2 : IntKind.i64.wrap (((b[i]'(by omega)).toNat : Int) * 256) = ((b[i]'(by omega)).toNat : Int) * 256 := by rw [IntKind.wrap_i64]; omega
    have e3 : IntKind.i64.wrap ((b[i + 1]'h).toNat : Int) = ((b[i + 1]'h).toNat : Int) := by rw [IntKind.wrap_i64]; omega
    rw [e1, e2, e3])
  have HW := hide hw
  clear hw
  go_enter Tryz.func98, Tryz.ntmps98
  go_wp2
  have hx : ∀ W : World, (Instr.index 9 (.string b) (.int .i64 (IntKind.i64.wrap ((i : Int) + 1)))).run Tryz.prog W = .ok (.int .u8 ((b[i + 1]'h).toNat : Int)) W := fun W => by
    rw [show IntKind.i64.wrap ((i : Int) + 1) = (i : Int) + 1 by rw [IntKind.wrap_i64]; omega]
    simp [go_sem, i1, i3]
  have hx0 : ∀ W : World, (Instr.index 9 (.string b) (.int .i64 (i : Int))).run Tryz.prog W = .ok (.int .u8 ((b[i]'j0).toNat : Int)) W := fun W => by
    simp [go_sem, i0]
  generalize (b[i + 1]'h).toNat = y at *
  generalize (b[i]'j0).toNat = x at *
  clear i1 i3 i0 j0 h hs
  obtain ⟨W0, hW0⟩ : ∃ W0, W0 = w.alloc (.cells #[.string b, .int .i64 hd, .int .i64 tt] 63) := ⟨_, rfl⟩
  have c0 : W0.cell? ⟨w.heap.size, 0, none⟩ = some (.string b) := by rw [hW0]; exact cellRow (allocN _ _) rfl
  have hlt : w.heap.size < W0.heap.size := by rw [hW0]; simp
  have HB : Hid (Below w.heap.size w W0) := hide (by rw [hW0]; exact (Below.refl _ w).alloc (Nat.le_refl _) _)
  rw [← hW0]
  clear hW0
  refine wp_region_quiet_below (by kernel_rfl) (by kernel_rfl) ?_
  repeat (first | go_big_quiet_skip | quiet_step (fail))
  refine wpQuiet_nil ?_; intro wq hwq; replace hwq := below_of_regrown hwq; obtain ⟨hcq, hfq⟩ := bcell hwq; have hzq := hwq.size
  have HQ := hide hwq
  clear hcq hfq hwq
  go_wp2
  go_ret
  exact ⟨retInt (by rw [HO.out, HW.out]), HB.out.trans (HQ.out.mono (Nat.le_of_lt hlt))⟩

/-- The sum of two words in ones' complement. -/
def ones (x y : Nat) : Nat := (x + y) % 65536 + (x + y) / 65536
theorem ones_le {x y : Nat} (hx : x ≤ 65535) (hy : y ≤ 65535) : ones x y ≤ 65535 := by unfold ones; omega
theorem and_word (n : Nat) (h : n < 9223372036854775808) : bits BinOp.and IntKind.i64 (n : Int) 65535 = ((n % 65536 : Nat) : Int) := by
  have := i64_and_nat n 65535 (by omega) (by omega)
  rw [show ((65535 : Nat) : Int) = 65535 from rfl] at this
  rw [this]
  congr 1
  exact Nat.and_two_pow_sub_one_eq_mod n 16
set_option maxRecDepth 100000 in
theorem pAdd_any (x y : Nat) (w : World) (hx : x ≤ 65535) (hy : y ≤ 65535) : Calls Tryz.prog 134 #[.int .i64 x, .int .i64 y] w fun e w' => e = .returned (.int .i64 (ones x y)) ∧ w' = w := by
  have hb := and_word (x + y) (by omega)
  rw [Int.natCast_add] at hb
  have hb2 : (((x + y) % 65536 : Nat) : Int) + ((x : Int) + y) / 65536 = ones x y := by unfold ones; omega
  have hb3 : 0 ≤ bits BinOp.and IntKind.i64 ((x : Int) + y) 65535 ∧ bits BinOp.and IntKind.i64 ((x : Int) + y) 65535 ≤ 65535 := by rw [hb]; omega
  have HB := hide hb
  clear hb
  go_enter Tryz.func134, Tryz.ntmps134
  go_wp2
  go_ret
  exact ⟨retInt (by rw [HB.out, hb2]), rfl⟩
end Go.Proofs.YtaejpejfmpbinaaGreatDoor

namespace Go.Proofs.YtaejpejfmpbinaaGreatDoor
open Go.RowKit
open Go.Sort (grow)

/-- The sum of the first words. -/
def hsum (b : ByteArray) : Nat → Nat
  | 0 => 0
  | k + 1 => ones (hsum b k) (w16 b (2 * k))
theorem hsum_le (b : ByteArray) : ∀ k, hsum b k ≤ 65535
  | 0 => by unfold hsum; omega
  | k + 1 => ones_le (hsum_le b k) (by have := w16_lt b (2 * k); omega)

set_option maxRecDepth 100000 in
set_option maxHeartbeats 1000000 in
theorem pSum_any (b : ByteArray) (n : Nat) (tt : Int) (w : World) (h : 2 * n ≤ b.size) (hs : b.size ≤ 1000) :
    Calls Tryz.prog 99 #[.agg #[.string b, .int .i64 ((2 * n : Nat) : Int), .int .i64 tt]] w fun e w' => e = .returned (.int .i64 (hsum b n)) ∧ Below w.heap.size w w' := by
  obtain ⟨hd, hhd⟩ : ∃ hd : Int, hd = ((2 * n : Nat) : Int) := ⟨_, rfl⟩
  rw [← hhd]
  have CW := hide fun (k : Nat) (W : World) (hk : k < n) => pWord_any b hd tt (2 * k) W (by omega) hs
  have CA := hide fun (k : Nat) (W : World) => pAdd_any (hsum b k) (w16 b (2 * k)) W (hsum_le b k) (by have := w16_lt b (2 * k); omega)
  have HD := hide hhd
  clear hhd
  go_enter Tryz.func99, Tryz.ntmps99
  go_wp2
  obtain ⟨W0, hW0⟩ : ∃ W0, W0 = w.alloc (.cells #[.string b, .int .i64 hd, .int .i64 tt] 63) := ⟨_, rfl⟩
  have c0 : W0.cell? ⟨w.heap.size, 0, none⟩ = some (.string b) := by rw [hW0]; exact cellRow (allocN _ _) rfl
  have c1 : W0.cell? ⟨w.heap.size, 1, none⟩ = some (.int .i64 hd) := by rw [hW0]; exact cellRow (allocN _ _) rfl
  have c2 : W0.cell? ⟨w.heap.size, 2, none⟩ = some (.int .i64 tt) := by rw [hW0]; exact cellRow (allocN _ _) rfl
  have HB : Hid (Below w.heap.size w W0) := hide (by rw [hW0]; exact (Below.refl _ w).alloc (Nat.le_refl _) _)
  rw [← hW0]
  clear hW0
  have hz := HB.out.size
  go_loopw [3, 4] (fun s a wr => ∃ k : Nat, k ≤ n ∧ s = .int .i64 (hsum b k) ∧ a = .int .i64 ((2 * k : Nat) : Int) ∧ Hid (Below W0.heap.size W0 wr)) (fun _ a _ => 2 * n - (intOf a).toNat)
  case atStart => exact ⟨0, Nat.zero_le _, rfl, rfl, hide (Below.refl _ _)⟩
  case round =>
    obtain ⟨k, hk, rfl, rfl, hI⟩ := hrel
    have d0 := cell_later hI.out c0
    have d1 := cell_later hI.out c1
    have d2 := cell_later hI.out c2
    by_cases hlt : k < n
    · have hki : ((2 * k : Nat) : Int) < hd := by rw [HD.out]; omega
      have hkb : ((2 * k : Nat) : Int) ≤ 1000 := by omega
      have C1 := hide (CW.out k wr hlt)
      have C2 := hide (CA.out k)
      have hsk : Hid (hsum b (k + 1) = ones (hsum b k) (w16 b (2 * k))) := hide rfl
      obtain ⟨k2, hk2⟩ : ∃ k2, k2 = 2 * k := ⟨_, rfl⟩
      rw [← hk2] at C1 C2 hsk hki hkb ⊢
      have HK2 := hide hk2
      clear hk2 CW CA
      go_wp2_with fail
      refine C1.out.mono ?_
      rintro e W1 ⟨rfl, hb1⟩
      go_wp2_with fail
      refine (C2.out _).mono ?_
      rintro e W2 ⟨rfl, hww⟩
      rw [hww]
      clear hww W2
      have HN := hide (hI.out.trans (hb1.mono hI.out.size))
      clear hb1 C1 C2
      go_wp2
      go_roundw
      case rel => exact ⟨k + 1, by omega, by rw [hsk.out], by rw [HK2.out]; go_num, HN⟩
      case measure =>
        have h7 := HK2.out
        have h8 := HD.out
        simp [intOf]
        omega
    · obtain rfl : k = n := by omega
      have hki : ¬ ((2 * k : Nat) : Int) < hd := by rw [HD.out]; omega
      obtain ⟨k2, hk2⟩ : ∃ k2, k2 = 2 * k := ⟨_, rfl⟩
      rw [← hk2] at hki ⊢
      clear CW CA hk2
      go_wp2
      go_ret
      exact ⟨rfl, HB.out.trans (hI.out.mono hz)⟩

/-- The header's length, by a packet's first byte. -/
def ihl (b : ByteArray) : Nat := if h : 0 < b.size then (b[0]'h).toNat % 16 * 4 else 0
def ver (b : ByteArray) : Nat := if h : 0 < b.size then (b[0]'h).toNat / 16 else 0
/-- Whether a packet is right. -/
def isRt (b : ByteArray) : Bool := decide (20 ≤ b.size) && (ver b == 4) && (decide (20 ≤ ihl b) && decide (ihl b ≤ w16 b 2) && decide (w16 b 2 ≤ b.size)) && (hsum b (ihl b / 2) == 65535)
theorem ihl_le (b : ByteArray) : ihl b ≤ 60 := by unfold ihl; split <;> omega

theorem ret_pk {tmps : Array Value} {W : World} {b : Nat} {x y z : Value} (hb : W.heap[b]? = some (.cells #[x, y, z] 63 (0, 0))) (hp : tmps.getD 2 undef = .pointer (some ⟨b, 0, none⟩)) :
    (results Tryz.f54 tmps).run Tryz.prog W = .ok (.tuple #[.agg #[x, y, z], tmps.getD 3 undef]) W := by
  rw [results_cell_tmp (fn := Tryz.f54) (p := 2) (u := 3) (ty := 63) rfl, hp]
  have hi : (Tryz.prog.info? 63).map (·.size) = some (#[x, y, z] : Array Value).size := by kernel_rfl
  simp [asAddr, run_loadVar_row W b 63 63 #[x, y, z] (0, 0) _ hb Tryz.underlying63 rfl hi, Result.andThen]
set_option maxRecDepth 10000 in
theorem and_15 : ∀ n, n < 256 → bits BinOp.and IntKind.u8 (n : Nat) 15 = ((n % 16 : Nat) : Int) := by decide +kernel
theorem row3_set {W : World} {b : Nat} {t : TypeId} {x0 x1 x2 v0 v1 v2 : Value} (h : W.heap[b]? = some (.cells #[x0, x1, x2] t (0, 0))) :
    (((W.setCell ⟨b, 0, none⟩ v0).setCell ⟨b, 1, none⟩ v1).setCell ⟨b, 2, none⟩ v2).heap[b]? = some (.cells #[v0, v1, v2] t (0, 0)) := by
  have h0 := heap_setCell_same W b 0 _ _ v0 h
  have h1 := heap_setCell_same _ b 1 _ _ v1 h0
  have h2 := heap_setCell_same _ b 2 _ _ v2 h1
  simpa using h2

/-- A packet as it is read. -/
def pkOf (b : ByteArray) : Array Value := if isRt b then #[.string b, .int .i64 (ihl b), .int .i64 (w16 b 2)] else #[.string ⟨#[]⟩, .int .i64 0, .int .i64 0]
set_option maxRecDepth 100000 in
set_option maxHeartbeats 2000000 in
theorem pRead_any (b : ByteArray) (w : World) (hs : b.size ≤ 1000) :
    Calls Tryz.prog 54 #[.string b] w fun e w' => e = .returned (.tuple #[.agg (pkOf b), .bool (isRt b)]) ∧ Below w.heap.size w w' := by
  have hihl := ihl_le b
  by_cases h20 : b.size < 20
  · have hr : isRt b = false := by
      unfold isRt
      rw [decide_eq_false (by omega)]
      rfl
    have hi : (b.size : Int) < 20 := by omega
    have hpk : pkOf b = #[.string ⟨#[]⟩, .int .i64 0, .int .i64 0] := by unfold pkOf; rw [hr]; rfl
    rw [hr, hpk]
    clear hr hpk
    go_enter Tryz.func54, Tryz.ntmps54
    go_wp2
    refine bodyPost_ret (ret_pk (b := w.heap.size) (allocN w _) rfl) rfl ?_
    exact ⟨rfl, (by repeat (first | exact Below.refl _ _ | assumption | refine Below.drewN ?_ | refine Below.drew ?_ | refine Below.setCell ?_ (by first | exact Nat.le_refl _ | omega | (simp; done) | (simp; omega)) _ | refine Below.alloc ?_ (by first | exact Nat.le_refl _ | omega | (simp; done) | (simp; omega)) _))⟩
  · have hi : ¬ (b.size : Int) < 20 := by omega
    have h0 : 0 < b.size := by omega
    have hv : ver b = (b[0]'h0).toNat / 16 := dif_pos h0
    have hih : ihl b = (b[0]'h0).toNat % 16 * 4 := dif_pos h0
    have hx := (b[0]'h0).toNat_lt
    have han := and_15 _ hx
    have hx0 : ∀ W : World, (Instr.index 9 (.string b) (.int .i64 0)).run Tryz.prog W = .ok (.int .u8 ((b[0]'h0).toNat : Int)) W := fun W => by
      simp [go_sem, h0]
    generalize (b[0]'h0).toNat = x at *
    obtain ⟨rt, hrt⟩ : ∃ rt, rt = isRt b := ⟨_, rfl⟩
    obtain ⟨pc, hpc⟩ : ∃ pc, pc = pkOf b := ⟨_, rfl⟩
    have HPC : Hid (pc = if rt = true then #[.string b, .int .i64 (ihl b), .int .i64 (w16 b 2)] else #[.string ⟨#[]⟩, .int .i64 0, .int .i64 0]) := hide (by rw [hpc, hrt]; rfl)
    rw [← hrt, ← hpc]
    clear hpc
    by_cases h4 : x / 16 = 4
    · have h4i : (x : Int) / 16 = 4 := by omega
      have C2 : Hid (∀ W : World, Calls Tryz.prog 98 #[.agg #[.string b, .int .i64 (ihl b), .int .i64 0], .int .i64 2] W fun e w' => e = .returned (.int .i64 (w16 b 2)) ∧ Below W.heap.size W w') := hide fun W => pWord_any b (ihl b) 0 2 W (by omega) hs
      have hhalf : 2 * (ihl b / 2) = ihl b := by omega
      have CS := hide fun (W : World) (hle : ihl b ≤ b.size) => pSum_any b (ihl b / 2) (w16 b 2) W (by omega) hs
      rw [hhalf] at CS
      have hrt2 : rt = (decide (20 ≤ ihl b) && decide (ihl b ≤ w16 b 2) && decide (w16 b 2 ≤ b.size) && (hsum b (ihl b / 2) == 65535)) := by
        rw [hrt]
        unfold isRt
        rw [decide_eq_true (by omega : 20 ≤ b.size), hv, h4]
        rfl
      have HRT := hide hrt2
      have hw2 := w16_lt b 2
      have hsl := hsum_le b (ihl b / 2)
      have e2 : (x : Int) % 16 * 4 = ihl b := by rw [hih]; omega
      have HE2 := hide e2
      clear hrt hrt2 hih hv hx h4 hhalf e2
      go_enter Tryz.func54, Tryz.ntmps54
      go_wp2_with fail
      rw [HE2.out]
      clear HE2
      obtain ⟨W1, hW1⟩ : ∃ W1, W1 = (w.alloc (.cells #[.string ⟨#[]⟩, .int .i64 0, .int .i64 0] 63)).alloc (.cells #[.string b, .int .i64 (ihl b), .int .i64 0] 63) := ⟨_, rfl⟩
      have A0 : W1.heap[w.heap.size]? = some (.cells #[.string ⟨#[]⟩, .int .i64 0, .int .i64 0] 63 (0, 0)) := by rw [hW1]; exact (((Below.refl _ (w.alloc _)).alloc (Nat.le_refl _) _).block _ (by simp)).trans (allocN _ _)
      have A1 : W1.heap[w.heap.size + 1]? = some (.cells #[.string b, .int .i64 (ihl b), .int .i64 0] 63 (0, 0)) := by
        rw [hW1]
        have := allocN (w.alloc (.cells #[.string ⟨#[]⟩, .int .i64 0, .int .i64 0] 63)) (.cells #[.string b, .int .i64 (ihl b), .int .i64 0] 63)
        rwa [World.size_alloc] at this
      have hB1 : Below w.heap.size w W1 := by rw [hW1]; exact ((Below.refl _ w).alloc (Nat.le_refl _) _).alloc (by simp) _
      rw [← hW1]
      clear hW1
      refine (C2.out W1).mono ?_
      rintro e W2 ⟨rfl, hb2⟩
      have A02 := (hb2.block _ (lt_of_heap A0)).trans A0
      have A12 := (hb2.block _ (lt_of_heap A1)).trans A1
      have hB2 : Below w.heap.size w W2 := hB1.trans (hb2.mono hB1.size)
      have y2 : W2.cell? ⟨w.heap.size + 1, 2, none⟩ = some (.int .i64 0) := cellRow A12 rfl
      have y0 : W2.cell? ⟨w.heap.size + 1, 0, none⟩ = some (.string b) := cellRow A12 rfl
      have y1 : W2.cell? ⟨w.heap.size + 1, 1, none⟩ = some (.int .i64 (ihl b)) := cellRow A12 rfl
      have u0 : W2.cell? ⟨w.heap.size, 0, none⟩ = some (.string ⟨#[]⟩) := cellRow A02 rfl
      have u1 : W2.cell? ⟨w.heap.size, 1, none⟩ = some (.int .i64 0) := cellRow A02 rfl
      have u2 : W2.cell? ⟨w.heap.size, 2, none⟩ = some (.int .i64 0) := cellRow A02 rfl
      have uf : ∀ j, W2.frozen? ⟨w.heap.size, j, none⟩ = false := fun j => frzRow A02 j
      have yf : W2.frozen? ⟨w.heap.size + 1, 2, none⟩ = false := frzRow A12 2
      obtain ⟨W3, hW3⟩ : ∃ W3, W3 = W2.setCell ⟨w.heap.size + 1, 2, none⟩ (.int .i64 (w16 b 2)) := ⟨_, rfl⟩
      have A03 : W3.heap[w.heap.size]? = some (.cells #[.string ⟨#[]⟩, .int .i64 0, .int .i64 0] 63 (0, 0)) := by rw [hW3]; exact (heap_setCell_other _ _ _ _ (by show w.heap.size ≠ w.heap.size + 1; omega)).trans A02
      have A13 : W3.heap[w.heap.size + 1]? = some (.cells #[.string b, .int .i64 (ihl b), .int .i64 (w16 b 2)] 63 (0, 0)) := by rw [hW3]; exact (heap_setCell_same _ _ 2 _ _ _ A12).trans (by simp)
      have HB3 : Hid (Below w.heap.size w W3) := hide (by rw [hW3]; exact hB2.setCell (by simp) _)
      have HW3 := hide hW3
      have d0 : W3.cell? ⟨w.heap.size + 1, 0, none⟩ = some (.string b) := cellRow A13 rfl
      have d1 : W3.cell? ⟨w.heap.size + 1, 1, none⟩ = some (.int .i64 (ihl b)) := cellRow A13 rfl
      have d2 : W3.cell? ⟨w.heap.size + 1, 2, none⟩ = some (.int .i64 (w16 b 2)) := cellRow A13 rfl
      clear hW3 A02 A12 hb2 hB1 hB2 A0 A1 C2
      by_cases a1 : ihl b < 20
      · have a1i : (ihl b : Int) < 20 := by omega
        have HF : Hid (rt = false) := hide (by rw [HRT.out, decide_eq_false (by omega)]; rfl)
        clear HRT CS a1
        have z0 : W3.cell? ⟨w.heap.size, 0, none⟩ = some (.string ⟨#[]⟩) := cellRow A03 rfl
        have z1 : W3.cell? ⟨w.heap.size, 1, none⟩ = some (.int .i64 0) := cellRow A03 rfl
        have z2 : W3.cell? ⟨w.heap.size, 2, none⟩ = some (.int .i64 0) := cellRow A03 rfl
        have zf : ∀ j, W3.frozen? ⟨w.heap.size, j, none⟩ = false := fun j => frzRow A03 j
        have HZ := hide (row3_set (v0 := .string ⟨#[]⟩) (v1 := .int .i64 0) (v2 := .int .i64 0) A03)
        clear A03
        go_wp2
        rw [← HW3.out]
        refine bodyPost_ret (ret_pk HZ.out rfl) rfl ?_
        exact ⟨by rw [HPC.out, HF.out]; rfl, ((HB3.out.setCell (Nat.le_refl _) _).setCell (Nat.le_refl _) _).setCell (Nat.le_refl _) _⟩
      · have a1i : ¬ (ihl b : Int) < 20 := by omega
        by_cases a2 : w16 b 2 < ihl b
        · have a2i : (w16 b 2 : Int) < ihl b := by omega
          have HF : Hid (rt = false) := hide (by rw [HRT.out, decide_eq_false (by omega : ¬ ihl b ≤ w16 b 2)]; simp)
          clear HRT CS a1 a2
          have z0 : W3.cell? ⟨w.heap.size, 0, none⟩ = some (.string ⟨#[]⟩) := cellRow A03 rfl
          have z1 : W3.cell? ⟨w.heap.size, 1, none⟩ = some (.int .i64 0) := cellRow A03 rfl
          have z2 : W3.cell? ⟨w.heap.size, 2, none⟩ = some (.int .i64 0) := cellRow A03 rfl
          have zf : ∀ j, W3.frozen? ⟨w.heap.size, j, none⟩ = false := fun j => frzRow A03 j
          have HZ := hide (row3_set (v0 := .string ⟨#[]⟩) (v1 := .int .i64 0) (v2 := .int .i64 0) A03)
          clear A03
          go_wp2
          rw [← HW3.out]
          refine bodyPost_ret (ret_pk HZ.out rfl) rfl ?_
          exact ⟨by rw [HPC.out, HF.out]; rfl, ((HB3.out.setCell (Nat.le_refl _) _).setCell (Nat.le_refl _) _).setCell (Nat.le_refl _) _⟩
        · have a2i : ¬ (w16 b 2 : Int) < ihl b := by omega
          by_cases a3 : b.size < w16 b 2
          · have a3i : (b.size : Int) < w16 b 2 := by omega
            have HF : Hid (rt = false) := hide (by rw [HRT.out, decide_eq_false (by omega : ¬ w16 b 2 ≤ b.size)]; simp)
            clear HRT CS a1 a2 a3
            have z0 : W3.cell? ⟨w.heap.size, 0, none⟩ = some (.string ⟨#[]⟩) := cellRow A03 rfl
            have z1 : W3.cell? ⟨w.heap.size, 1, none⟩ = some (.int .i64 0) := cellRow A03 rfl
            have z2 : W3.cell? ⟨w.heap.size, 2, none⟩ = some (.int .i64 0) := cellRow A03 rfl
            have zf : ∀ j, W3.frozen? ⟨w.heap.size, j, none⟩ = false := fun j => frzRow A03 j
            have HZ := hide (row3_set (v0 := .string ⟨#[]⟩) (v1 := .int .i64 0) (v2 := .int .i64 0) A03)
            clear A03
            go_wp2
            rw [← HW3.out]
            refine bodyPost_ret (ret_pk HZ.out rfl) rfl ?_
            exact ⟨by rw [HPC.out, HF.out]; rfl, ((HB3.out.setCell (Nat.le_refl _) _).setCell (Nat.le_refl _) _).setCell (Nat.le_refl _) _⟩
          · have a3i : ¬ (b.size : Int) < w16 b 2 := by omega
            have CS3 := hide (CS.out W3 (by omega))
            have HRT3 : Hid (rt = (hsum b (ihl b / 2) == 65535)) := hide (by rw [HRT.out, decide_eq_true (by omega : 20 ≤ ihl b), decide_eq_true (by omega : ihl b ≤ w16 b 2), decide_eq_true (by omega : w16 b 2 ≤ b.size)]; rfl)
            clear HRT CS a1 a2 a3
            go_wp2_with fail
            rw [← HW3.out]
            refine CS3.out.mono ?_
            rintro e W4 ⟨rfl, hb4⟩
            have A04 := (hb4.block _ (lt_of_heap A03)).trans A03
            have A14 := (hb4.block _ (lt_of_heap A13)).trans A13
            have HB4 : Hid (Below w.heap.size w W4) := hide (HB3.out.trans (hb4.mono HB3.out.size))
            clear A03 A13 d0 d1 d2 hb4 CS3 HB3 HW3 yf y2 y0 y1 u0 u1 u2 uf
            by_cases hz : hsum b (ihl b / 2) = 65535
            · have hzi : (hsum b (ihl b / 2) : Int) = 65535 := by omega
              have HF : Hid (rt = true) := hide (by rw [HRT3.out, hz]; rfl)
              have z0 : W4.cell? ⟨w.heap.size, 0, none⟩ = some (.string ⟨#[]⟩) := cellRow A04 rfl
              have z1 : W4.cell? ⟨w.heap.size, 1, none⟩ = some (.int .i64 0) := cellRow A04 rfl
              have z2 : W4.cell? ⟨w.heap.size, 2, none⟩ = some (.int .i64 0) := cellRow A04 rfl
              have zf : ∀ j, W4.frozen? ⟨w.heap.size, j, none⟩ = false := fun j => frzRow A04 j
              have d0 : W4.cell? ⟨w.heap.size + 1, 0, none⟩ = some (.string b) := cellRow A14 rfl
              have d1 : W4.cell? ⟨w.heap.size + 1, 1, none⟩ = some (.int .i64 (ihl b)) := cellRow A14 rfl
              have d2 : W4.cell? ⟨w.heap.size + 1, 2, none⟩ = some (.int .i64 (w16 b 2)) := cellRow A14 rfl
              have HZ := hide (row3_set (v0 := .string b) (v1 := .int .i64 (ihl b)) (v2 := .int .i64 (w16 b 2)) A04)
              generalize hsum b (ihl b / 2) = sm at *
              clear A04 A14 HRT3 hz
              go_wp2
              refine bodyPost_ret (ret_pk HZ.out rfl) rfl ?_
              exact ⟨by rw [HPC.out, HF.out]; rfl, ((HB4.out.setCell (Nat.le_refl _) _).setCell (Nat.le_refl _) _).setCell (Nat.le_refl _) _⟩
            · have hzi : ¬ (hsum b (ihl b / 2) : Int) = 65535 := by omega
              have HF : Hid (rt = false) := hide (by rw [HRT3.out]; simpa using hz)
              generalize hsum b (ihl b / 2) = sm at *
              clear A14 HRT3 hz
              have z0 : W4.cell? ⟨w.heap.size, 0, none⟩ = some (.string ⟨#[]⟩) := cellRow A04 rfl
              have z1 : W4.cell? ⟨w.heap.size, 1, none⟩ = some (.int .i64 0) := cellRow A04 rfl
              have z2 : W4.cell? ⟨w.heap.size, 2, none⟩ = some (.int .i64 0) := cellRow A04 rfl
              have zf : ∀ j, W4.frozen? ⟨w.heap.size, j, none⟩ = false := fun j => frzRow A04 j
              have HZ := hide (row3_set (v0 := .string ⟨#[]⟩) (v1 := .int .i64 0) (v2 := .int .i64 0) A04)
              clear A04
              go_wp2
              skip
              refine bodyPost_ret (ret_pk HZ.out rfl) rfl ?_
              exact ⟨by rw [HPC.out, HF.out]; rfl, ((HB4.out.setCell (Nat.le_refl _) _).setCell (Nat.le_refl _) _).setCell (Nat.le_refl _) _⟩
    · have h4i : ¬ (x : Int) / 16 = 4 := by omega
      have HF : Hid (rt = false) := hide (by
        rw [hrt]
        unfold isRt
        have : (ver b == 4) = false := by rw [hv]; simpa using h4
        rw [this]
        simp)
      clear hrt hih hv hx h4 han
      go_enter Tryz.func54, Tryz.ntmps54
      go_wp2
      refine bodyPost_ret (ret_pk (b := w.heap.size) (allocN w _) rfl) rfl ?_
      exact ⟨by rw [HPC.out, HF.out]; rfl, (by repeat (first | exact Below.refl _ _ | assumption | refine Below.drewN ?_ | refine Below.drew ?_ | refine Below.setCell ?_ (by first | exact Nat.le_refl _ | omega | (simp; done) | (simp; omega)) _ | refine Below.alloc ?_ (by first | exact Nat.le_refl _ | omega | (simp; done) | (simp; omega)) _))⟩
end Go.Proofs.YtaejpejfmpbinaaGreatDoor
