import Derived.Test.YtnjalelblbjfiaaGreatDoorP33
import Derived.Test.YtnjalelblbjfiaaGreatDoorP23
import Derived.Test.YtnjalelblbjfiaaGreatDoorP9
import Derived.Test.YtnjalelblbjfiaaGreatDoorP30
import Derived.Test.YtnjalelblbjfiaaGreatDoorP27
import Derived.Test.YtnjalelblbjfiaaGreatDoorP25
namespace Go.Proofs.YtnjalelblbjfiaaGreatDoor
open Go.RowKit

theorem LearnK.unique {K A B : List Mc} {e0 : Mc} (h : LearnK K e0 A) (h' : LearnK K e0 B) : A = B := by
  obtain ⟨ha, h⟩ := h
  obtain ⟨hb, h'⟩ := h'
  split at h
  · rename_i hc
    rw [if_pos hc] at h'
    exact sortedP_ext ha hb fun q => (h.1 q).trans (h'.1 q).symm
  · rename_i hc
    rw [if_neg hc] at h'
    rw [h, h']
theorem fwdO_like {P : List Prt} {p q : Pg} (hf : p.f = q.f) (hp : p.port = q.port) (hr : p.routed = q.routed) (bh : Int) (kn : Bool) (n : Nat) : fwdO P p bh kn n = fwdO P q bh kn n := by
  unfold fwdO goesTo
  rw [hf, hp, hr]
section
variable {P : List Prt} {K : List Mc} {unp : Pg → Pg} {jud : Pg → Option (Int × List (Int × ByteArray))} {rou : Pg → Int ⊕ Pg} {port : Int} {d : ByteArray}
/-- A frame has one fate. -/
theorem frameR_unique {r r' : Int} {L L' : List (Int × ByteArray)} {A B : List Mc} (h : FrameR P K unp jud rou port d r L A) (h' : FrameR P K unp jud rou port d r' L' B) : r = r' ∧ L = L' ∧ A = B := by
  cases h with
  | unknown hn => cases h' <;> first | exact ⟨rfl, rfl, rfl⟩ | (exact absurd ‹0 ≤ port ∧ port < _› hn)
  | bad hp hr => cases h' <;> first | exact ⟨rfl, rfl, rfl⟩ | (exact absurd hp ‹¬ (0 ≤ port ∧ port < _)›) | (exact absurd ‹fateRead d = -1› hr)
  | barred f hp hr hf hb =>
    cases h' with
    | unknown hn => exact absurd hp hn
    | bad _ hr' => exact absurd hr hr'
    | barred => exact ⟨rfl, rfl, rfl⟩
    | judged f' _ _ _ _ _ hf' hb' => rw [hf] at hf'; cases hf'; rw [hb] at hb'; cases hb'
    | stopped f' _ _ _ _ hf' hb' => rw [hf] at hf'; cases hf'; rw [hb] at hb'; cases hb'
    | out f' _ _ _ _ hf' hb' => rw [hf] at hf'; cases hf'; rw [hb] at hb'; cases hb'
  | judged f _ _ _ hp hr hf hb hl hj =>
    cases h' with
    | unknown hn => exact absurd hp hn
    | bad _ hr' => exact absurd hr hr'
    | barred f' _ _ hf' hb' => rw [hf] at hf'; cases hf'; rw [hb] at hb'; cases hb'
    | judged f' _ _ _ _ _ hf' hb' hl' hj' => rw [hf] at hf'; cases hf'; rw [hj] at hj'; cases hj'; exact ⟨rfl, rfl, hl.unique hl'⟩
    | stopped f' _ _ _ _ hf' hb' hl' hj' => rw [hf] at hf'; cases hf'; rw [hj] at hj'; cases hj'
    | out f' _ _ _ _ hf' hb' hl' hj' => rw [hf] at hf'; cases hf'; rw [hj] at hj'; cases hj'
  | stopped f _ _ hp hr hf hb hl hj ho =>
    cases h' with
    | unknown hn => exact absurd hp hn
    | bad _ hr' => exact absurd hr hr'
    | barred f' _ _ hf' hb' => rw [hf] at hf'; cases hf'; rw [hb] at hb'; cases hb'
    | judged f' _ _ _ _ _ hf' hb' hl' hj' => rw [hf] at hf'; cases hf'; rw [hj] at hj'; cases hj'
    | stopped f' _ _ _ _ hf' hb' hl' hj' ho' => rw [hf] at hf'; cases hf'; rw [ho] at ho'; cases ho'; exact ⟨rfl, rfl, hl.unique hl'⟩
    | out f' _ _ _ _ hf' hb' hl' hj' ho' => rw [hf] at hf'; cases hf'; rw [ho] at ho'; cases ho'
  | out f _ q hp hr hf hb hl hj ho =>
    cases h' with
    | unknown hn => exact absurd hp hn
    | bad _ hr' => exact absurd hr hr'
    | barred f' _ _ hf' hb' => rw [hf] at hf'; cases hf'; rw [hb] at hb'; cases hb'
    | judged f' _ _ _ _ _ hf' hb' hl' hj' => rw [hf] at hf'; cases hf'; rw [hj] at hj'; cases hj'
    | stopped f' _ _ _ _ hf' hb' hl' hj' ho' => rw [hf] at hf'; cases hf'; rw [ho] at ho'; cases ho'
    | out f' _ q' _ _ hf' hb' hl' hj' ho' =>
      rw [hf] at hf'; cases hf'
      rw [ho] at ho'; cases ho'
      obtain rfl := hl.unique hl'
      exact ⟨rfl, rfl, rfl⟩
end
/-- The document's Frame at a switch without faces and rules. -/
theorem xFrame_plain (y : Nat) (x : XSt) (port : Int) (d : ByteArray) (w : World) (h : XSw w y x) (hT : ∀ q ∈ x.Q, q.T.length < 1000000000000) (hQ : x.Q.length ≤ 8) (hK : x.K.length ≤ 64) (hs : SortedP x.K) (hKp : ∀ e ∈ x.K, (0 ≤ e.port ∧ e.port < x.Q.length) ∧ isGrp e.mac = false) (hN : ∀ q ∈ x.Q, 0 ≤ q.nat ∧ q.nat < 4096) (hFl : x.Fl = []) (hrs : x.rs = [])
    (unp : Pg → Pg) (jud : Pg → Option (Int × List (Int × ByteArray))) (rou : Pg → Int ⊕ Pg) (hu : ∀ q, (unp q).f = q.f ∧ (unp q).port = q.port ∧ (unp q).routed = q.routed) (hj : ∀ q, jud q = none) (ho : ∀ q : Pg, q.f.to.size = 6 → rou q = .inr q) :
    Calls Tryz.prog 71 #[.pointer (some ⟨y, 0, none⟩), .int .i64 port, .string d] w (XFramed y x (FrameR x.P x.K unp jud rou port d) w) := by
  have hl : x.P.length = x.Q.length := by unfold XSt.P; rw [List.length_map]
  by_cases hp : 0 ≤ port ∧ port < x.Q.length
  · by_cases hr : fateRead d = -1
    · obtain ⟨k, rfl⟩ : ∃ k : Nat, port = k := ⟨port.toNat, by omega⟩
      have hd := fateRead_size hr
      cases hf : readF d with
      | none => unfold fateRead at hr; rw [if_neg (by omega), hf] at hr; cases hr
      | some f =>
        have hg : isGrp f.fr = false := by
          unfold fateRead at hr
          rw [if_neg (by omega), hf] at hr
          cases hg : isGrp f.fr with
          | false => rfl
          | true => simp only [hg] at hr; cases hr
        refine xFrame_main y x k d f w h (by omega) hT hQ hK hs hKp hN hFl hrs hd hf hg _ (fun hb => .barred f ⟨by omega, by omega⟩ hr hf hb) fun hb kv' K' hlk => ?_
        obtain ⟨u1, u2, u3⟩ := hu (pIn x.P k d f)
        have hz : (unp (pIn x.P k d f)).f.to.size = 6 := by rw [u1]; exact (read_is hf hd).1
        have := FrameR.out (P := x.P) (K := x.K) (unp := unp) (jud := jud) (rou := rou) (port := k) (d := d) f K' _ ⟨by omega, by omega⟩ hr hf hb hlk (hj _) (ho _ hz)
        rw [fwdO_like u1 u2 u3, u1, hl] at this
        exact this
    · exact xFrame_bad y x port d w h _ hp hr (.bad (by omega) hr)
  · exact xFrame_unknown y x port d w h _ hp (.unknown (by omega))
end Go.Proofs.YtnjalelblbjfiaaGreatDoor

namespace Go.Proofs.YtnjalelblbjfiaaGreatDoor
open Go.RowKit
open Go.Sort (grow)

attribute [local go_sem] cell?_regrown

set_option maxRecDepth 100000 in
set_option maxHeartbeats 400000 in
theorem againstFc_any (m : Nat) (k : Int) (p : ByteArray) (x : Int) (w : World) (hm : w.cell? ⟨m, 0, none⟩ = some (.func (.func 33) #[] #[])) :
    Calls Tryz.prog 212 #[.pointer (some ⟨m, 0, none⟩), .agg #[.int .i64 k, .string p], .int .i64 x] w fun e w' => e = .returned (.int .i64 (cmpI k x)) ∧ Below w.heap.size w w' := by
  have hlt : m < w.heap.size := block_lt_of_cell hm
  go_enter Tryz.func212, Tryz.ntmps212
  go_wp2_with fail
  refine wp_region_quiet_below (by kernel_rfl) (by kernel_rfl) ?_
  repeat (quiet_step (exact Calls.regrown_of ((cmpInt_any _ _ _).mono fun e w' h => ⟨h.1, h.2 ▸ Below.refl _ _⟩)))
  refine wpQuiet_nil ?_; intro wq hwq; replace hwq := below_of_regrown hwq; obtain ⟨hcq, hfq⟩ := bcell hwq; have hzq := hwq.size
  go_wp2
  go_ret
  exact ⟨rfl, Below.trans (by repeat (first | exact Below.refl _ _ | assumption | refine Below.drewN ?_ | refine Below.drew ?_ | refine Below.setCell ?_ (by first | exact Nat.le_refl _ | omega | (simp; done) | (simp; omega)) _ | refine Below.alloc ?_ (by first | exact Nat.le_refl _ | omega | (simp; done) | (simp; omega)) _)) (hwq.mono (by first | exact Nat.le_refl _ | omega | (simp; done) | (simp; omega)))⟩

set_option maxRecDepth 100000 in
set_option maxHeartbeats 1000000 in
theorem bsFc_any (m g cap n : Nat) (a : Option Addr) (K : Nat → Int) (E : Nat → ByteArray) (x : Int) (w : World) (hn : n ≤ 200) (hm : w.cell? ⟨m, 0, none⟩ = some (.func (.func 33) #[] #[]))
    (hc : ∀ j, j < n → a = some ⟨g, 0, none⟩ ∧ w.cell? ⟨g, (j) * 2, none⟩ = some (.int .i64 (K (j))) ∧ w.cell? ⟨g, (j) * 2 + 1, none⟩ = some (.string (E (j)))) (hmono : ∀ i j, i ≤ j → j < n → cmpI (K j) x < 0 → cmpI (K i) x < 0) :
    Calls Tryz.prog 211 #[.slice a n cap, .int .i64 x, .func (.func 212) #[.pointer (some ⟨m, 0, none⟩)] #[]] w fun e w' => ∃ i : Nat, i ≤ n ∧ (∀ j, j < i → cmpI (K j) x < 0) ∧ (∀ j, i ≤ j → j < n → 0 ≤ cmpI (K j) x) ∧ e = .returned (.tuple #[.int .i64 i, .bool (decide (i < n) && (cmpI (K i) x == 0))]) ∧ Below w.heap.size w w' := by
  have hmlt : m < w.heap.size := block_lt_of_cell hm
  go_enter Tryz.func211, Tryz.ntmps211
  go_wp2
  go_loopw [9, 10] (fun vi vj wr => ∃ i j : Nat, i ≤ j ∧ j ≤ n ∧ vi = .int .i64 i ∧ vj = .int .i64 j ∧ (∀ q, q < i → cmpI (K q) x < 0) ∧ (∀ q, j ≤ q → q < n → 0 ≤ cmpI (K q) x) ∧ Below w.heap.size w wr) (fun vi vj _ => (intOf vj - intOf vi).toNat)
  case atStart => exact ⟨0, n, by omega, by omega, rfl, rfl, by omega, by omega, (by repeat (first | exact Below.refl _ _ | assumption | refine Below.drewN ?_ | refine Below.drew ?_ | refine Below.setCell ?_ (by first | exact Nat.le_refl _ | omega | (simp; done) | (simp; omega)) _ | refine Below.alloc ?_ (by first | exact Nat.le_refl _ | omega | (simp; done) | (simp; omega)) _))⟩
  case round =>
    obtain ⟨i, j, hij, hjn, rfl, rfl, hL, hR, hb⟩ := hrel
    have hm' := (hb.cell (p := ⟨m, 0, none⟩) hmlt).trans hm
    have HL := hide hL
    have HR := hide hR
    clear hL hR
    by_cases hlt : i < j
    · obtain ⟨h, hh⟩ : ∃ h : Nat, h = (i + j) / 2 := ⟨_, rfl⟩
      have hh1 : i ≤ h := by omega
      have hh2 : h < j := by omega
      obtain ⟨rfl, c0, c1⟩ := hc h (by omega)
      have d0 := (hb.cell (p := ⟨g, h * 2, none⟩) (block_lt_of_cell c0)).trans c0
      have d1 := (hb.cell (p := ⟨g, h * 2 + 1, none⟩) (block_lt_of_cell c1)).trans c1
      have hglt : g < wr.heap.size := block_lt_of_cell d0
      have e1 : ((i : Int) + j) / 2 = h := by omega
      have hhn : (h : Int) < n := by omega
      have HM := hide fun q (hq : q ≤ h) (h' : cmpI (K h) x < 0) => hmono q h hq (by omega) h'
      have HM2 := hide fun q (hq : h ≤ q) (hqn : q < n) (h' : cmpI (K q) x < 0) => hmono h q hq hqn h'
      clear hh c0 c1
      go_wp2_with fail
      refine (againstFc_any m (K h) (E h) x _ hm').mono ?_
      rintro e wq ⟨rfl, hwq⟩
      have hbq : Below wr.heap.size wr wq := hwq
      have HBQ := hide (hb.trans (hbq.mono hb.size))
      by_cases hneg : cmpI (K h) x < 0
      · go_wp2
        go_roundw
        case rel => exact ⟨h + 1, j, by omega, by omega, by go_num, rfl, fun q hq => HM.out q (by omega) hneg, HR.out, HBQ.out⟩
        case measure => simp [intOf]; omega
      · have HN := hide hneg
        go_wp2
        go_roundw
        case rel => exact ⟨i, h, by omega, by omega, rfl, rfl, HL.out, fun q hq hqn => Int.not_lt.1 fun h' => absurd (HM2.out q hq hqn h') (by have := HN.out; omega), HBQ.out⟩
        case measure => simp [intOf]; omega
    · obtain rfl : i = j := by omega
      by_cases hin : i < n
      · obtain ⟨rfl, c0, c1⟩ := hc i hin
        have d0 := (hb.cell (p := ⟨g, i * 2, none⟩) (block_lt_of_cell c0)).trans c0
        have d1 := (hb.cell (p := ⟨g, i * 2 + 1, none⟩) (block_lt_of_cell c1)).trans c1
        have hglt : g < wr.heap.size := block_lt_of_cell d0
        have hini : (i : Int) < n := by omega
        clear c0 c1
        go_wp2_with fail
        refine (againstFc_any m (K i) (E i) x _ hm').mono ?_
        rintro e wq ⟨rfl, hwq⟩
        have hbq : Below wr.heap.size wr wq := hwq
        go_wp2
        go_ret2
        exact ⟨i, by omega, HL.out, HR.out, by simp [hin], hb.trans (hbq.mono hb.size)⟩
      · go_wp2
        go_ret2
        exact ⟨i, by omega, HL.out, HR.out, by simp [hin], hb⟩

/-- A face: its VLAN, its MAC. -/
abbrev Fc := Int × ByteArray
/-- The cells of the map's array. -/
def rowFc (L : List Fc) : List Value := L.flatMap fun e => [.int .i64 e.1, .string e.2]
theorem rowFc_get (L : List Fc) : ∀ k (hk : k < L.length), (rowFc L)[k * 2]? = some (.int .i64 L[k].1) ∧ (rowFc L)[k * 2 + 1]? = some (.string L[k].2) := by
  induction L with
  | nil => intro k hk; simp at hk
  | cons p t ih =>
    intro k hk
    match k, hk with
    | 0, _ => exact ⟨rfl, rfl⟩
    | k + 1, hk =>
      have := ih k (by simpa using hk)
      have e : (k + 1) * 2 = k * 2 + 2 := by omega
      rw [e]
      exact this
/-- The faces' map in memory. -/
def MapF (w : World) (m : Nat) (sv : Value) (L : List Fc) : Prop :=
  w.cell? ⟨m, 0, none⟩ = some (.func (.func 33) #[] #[]) ∧ w.cell? ⟨m, 1, none⟩ = some sv ∧ w.ownsRow 0 300 2 sv L.length (rowFc L) ∧ (∀ j, w.frozen? ⟨m, j, none⟩ = false) ∧ L.length ≤ 200
theorem rowFc_cells {w : World} {sv : Value} {L : List Fc} (h : w.ownsRow 0 300 2 sv L.length (rowFc L)) : ∃ a cap g, sv = .slice a L.length cap ∧ ∀ j (hj : j < L.length), a = some ⟨g, 0, none⟩ ∧ w.cell? ⟨g, j * 2, none⟩ = some (.int .i64 L[j].1) ∧ w.cell? ⟨g, j * 2 + 1, none⟩ = some (.string L[j].2) := by
  rcases h.2 with ⟨hv, h0⟩ | ⟨g, cap, cur, hv, _⟩
  · exact ⟨none, 0, 0, by rw [hv, h0], fun j hj => by omega⟩
  · refine ⟨_, cap, g, hv, fun j hj => ⟨rfl, ?_⟩⟩
    rw [hv] at h
    have := rowFc_get L j hj
    exact ⟨(h.cellAt _ (by omega)).trans this.1, (h.cellAt _ (by omega)).trans this.2⟩
/-- Number j's VLAN and face. -/
def fcAt (L : List Fc) (j : Nat) : Int := (L[j]?.map fun e => e.1).getD 0
def fsAt (L : List Fc) (j : Nat) : ByteArray := (L[j]?.map fun e => e.2).getD ⟨#[]⟩
theorem fcAt_eq {L : List Fc} {j : Nat} (h : j < L.length) : fcAt L j = L[j].1 := by simp [fcAt, h]
theorem fsAt_eq {L : List Fc} {j : Nat} (h : j < L.length) : fsAt L j = L[j].2 := by simp [fsAt, h]

/-- Sorted by rising VLANs. -/
abbrev SortedF (L : List Fc) : Prop := L.Pairwise fun a b => a.1 < b.1

set_option maxRecDepth 100000 in
set_option maxHeartbeats 400000 in
theorem placeFc_any (m : Nat) (sv : Value) (L : List Fc) (x : Int) (w : World) (hm : MapF w m sv L) (hs : SortedF L) :
    Calls Tryz.prog 178 #[.pointer (some ⟨m, 0, none⟩), .int .i64 x] w fun e w' => ∃ i : Nat, i ≤ L.length ∧ (∀ j, j < i → fcAt L j < x) ∧ (∀ j, i ≤ j → j < L.length → x ≤ fcAt L j) ∧ e = .returned (.tuple #[.int .i64 i, .bool (decide (i < L.length) && (fcAt L i == x))]) ∧ Below w.heap.size w w' := by
  obtain ⟨h0, h1, h2, h3, h4⟩ := hm
  obtain ⟨a, cap, g, rfl, hc⟩ := rowFc_cells h2
  have CB := hide (bsFc_any m g cap L.length a (fcAt L) (fsAt L) x w h4 h0 (fun j hj => by rw [fcAt_eq hj, fsAt_eq hj]; exact hc j hj) (fun i j hij hj h => by
    rw [cmpI_lt] at h ⊢
    rw [fcAt_eq (by omega : i < L.length)]
    rw [fcAt_eq hj] at h
    rcases Nat.lt_or_eq_of_le hij with hlt | rfl
    · exact Int.lt_trans (List.pairwise_iff_getElem.1 hs i j _ _ hlt) h
    · exact h))
  clear h2 h3 hc hs
  go_enter Tryz.func178, Tryz.ntmps178
  go_wp2_with fail
  refine CB.out.mono ?_
  rintro e w1 ⟨i, hi, hL, hR, rfl, hb⟩
  have HL := hide hL
  have HR := hide hR
  clear hL hR CB
  go_wp2
  go_ret2
  refine ⟨i, hi, fun j hj => cmpI_lt.1 (HL.out j hj), fun j h1 h2 => ?_, ?_, hb⟩
  · have := HR.out j h1 h2
    rcases Int.lt_or_le (fcAt L j) x with h | h
    · have := cmpI_lt.2 h; omega
    · exact h
  · have e : (cmpI (fcAt L i) x == 0) = (fcAt L i == x) := by rw [Bool.eq_iff_iff, beq_iff_eq, beq_iff_eq, cmpI_zero]
    simp only [e]
    exact rfl

/-- Which is a VLAN's face. -/
def faceOf (L : List Fc) (x : Int) : Option Fc := L.find? fun e => e.1 == x

def faceS (L : List Fc) (x : Int) : ByteArray := ((faceOf L x).map (·.2)).getD ⟨#[]⟩
theorem faceOf_place {L : List Fc} {x : Int} {i : Nat} (hL : ∀ j, j < i → fcAt L j < x) (hR : ∀ j, i ≤ j → j < L.length → x ≤ fcAt L j) (hs : SortedF L) :
    faceOf L x = if h : i < L.length ∧ fcAt L i = x then some (L[i]'h.1) else none := by
  unfold faceOf
  split
  · rename_i h
    rw [List.find?_eq_some_iff_getElem]
    refine ⟨by rw [← fcAt_eq h.1, h.2]; simp, i, h.1, rfl, fun j hj => ?_⟩
    have := hL j hj
    rw [fcAt_eq (by omega)] at this
    simp; omega
  · rename_i h
    rw [List.find?_eq_none]
    intro e he
    obtain ⟨j, hj, rfl⟩ := List.getElem_of_mem he
    intro hx
    have hx' : L[j].1 = x := by simpa using hx
    rcases Nat.lt_or_ge j i with h1 | h1
    · have := hL j h1; rw [fcAt_eq hj] at this; omega
    · rcases Nat.lt_or_eq_of_le h1 with h2 | rfl
      · have a := hR i (Nat.le_refl _) (by omega)
        have b := List.pairwise_iff_getElem.1 hs i j (by omega) hj h2
        rw [fcAt_eq (by omega)] at a
        omega
      · exact h ⟨hj, by rw [fcAt_eq hj]; exact hx'⟩

set_option maxRecDepth 100000 in
set_option maxHeartbeats 400000 in
theorem getFc_any (m : Nat) (sv : Value) (L : List Fc) (x : Int) (w : World) (hm : MapF w m sv L) (hs : SortedF L) :
    Calls Tryz.prog 116 #[.pointer (some ⟨m, 0, none⟩), .int .i64 x] w fun e w' => e = .returned (.tuple #[.string (faceS L x), .bool (faceOf L x).isSome]) ∧ Below w.heap.size w w' := by
  have CP := hide (placeFc_any m sv L x w hm hs)
  obtain ⟨h0, h1, h2, h3, h4⟩ := hm
  obtain ⟨a, cap, g, rfl, hc⟩ := rowFc_cells h2
  have hmlt : m < w.heap.size := block_lt_of_cell h0
  clear h2 h3
  go_enter Tryz.func116, Tryz.ntmps116
  go_wp2_with fail
  refine CP.out.mono ?_
  rintro e w1 ⟨i, hi, hL, hR, rfl, hb⟩
  have HF := hide (faceOf_place hL hR hs)
  clear CP hL hR hs
  by_cases h : i < L.length ∧ fcAt L i = x
  · obtain ⟨ha, c0, c1⟩ := hc i h.1
    subst ha
    have hx : (fcAt L i == x) = true := by simp [h.2]
    have hd : decide (i < L.length) = true := by simp [h.1]
    have d1 := cell_later hb c1
    have e1 := cell_later hb h1
    have hil : (i : Int) < L.length := by omega
    have hF : faceOf L x = some L[i] := by rw [HF.out, dif_pos h]
    have HFF := hide hF
    generalize L[i] = ei at *
    clear hc hF
    go_wp2
    go_ret2
    exact ⟨by unfold faceS; rw [HFF.out]; rfl, hb⟩
  · have hx : (decide (i < L.length) && (fcAt L i == x)) = false := by
      rw [← Bool.not_eq_true, Bool.and_eq_true, decide_eq_true_eq, beq_iff_eq]; exact h
    have hF : faceOf L x = none := by rw [HF.out, dif_neg h]
    have HFF := hide hF
    clear hc hF h
    go_wp2
    go_ret2
    exact ⟨by unfold faceS; rw [HFF.out]; rfl, hb⟩

end Go.Proofs.YtnjalelblbjfiaaGreatDoor

namespace Go.Proofs.YtnjalelblbjfiaaGreatDoor
open Go.RowKit

theorem wd (xs ys : List UInt8) (x y : UInt8) : w16 (ofL (xs ++ x :: y :: ys)) xs.length = x.toNat * 256 + y.toNat := by
  have h : xs.length + 1 < (ofL (xs ++ x :: y :: ys)).size := by rw [ofL_size]; simp
  unfold w16
  rw [dif_pos h, ofL_get, ofL_get]
  simp

end Go.Proofs.YtnjalelblbjfiaaGreatDoor

namespace Go.Proofs.YtnjalelblbjfiaaGreatDoor
open Go.RowKit
open Go.Sort (grow)

/-- A frame on its way with its packet. -/
def unpR (p : Pg) : Pg := if isRt p.f.rest then { p with pb := p.f.rest, ph := ihl p.f.rest, pt := w16 p.f.rest 2, right := true } else { p with pb := ⟨#[]⟩, ph := 0, pt := 0, right := false }
def unpP (p : Pg) : Pg := if kind2 p.f.ty == 2 then unpR p else p
theorem unpP_f (p : Pg) : (unpP p).f = p.f := by unfold unpP unpR; split <;> (try split) <;> rfl

theorem PgAt.setPk {w : World} {g : Nat} {p : Pg} {ov : Value} (h : PgAt w g p ov) (b : ByteArray) (i j : Int) (r : Bool) :
    PgAt ((((w.setCell ⟨g, 9, none⟩ (.string b)).setCell ⟨g, 10, none⟩ (.int .i64 i)).setCell ⟨g, 11, none⟩ (.int .i64 j)).setCell ⟨g, 12, none⟩ (.bool r)) g { p with pb := b, ph := i, pt := j, right := r } ov := by
  unfold PgAt at *
  have h2 := heap_setCell_same w g 9 _ _ (.string b) h
  have h3 := heap_setCell_same _ g 10 _ _ (.int .i64 i) h2
  have h4 := heap_setCell_same _ g 11 _ _ (.int .i64 j) h3
  have h5 := heap_setCell_same _ g 12 _ _ (.bool r) h4
  rw [h5]
  simp [pgCells]

set_option maxRecDepth 100000 in
set_option maxHeartbeats 1000000 in
theorem unpack_any (g : Nat) (p : Pg) (ov : Value) (w : World) (hg : PgAt w g p ov) (hm : Means w) (hs : p.f.rest.size ≤ 1000) :
    Calls Tryz.prog 60 #[.pointer (some ⟨g, 0, none⟩)] w fun e w' => e = .returned (.int .i64 (-1)) ∧ PgAt w' g (unpP p) ov ∧ OnlyG g w w' := by
  have C := isIPv4_any g p ov w hg hm
  cases hk : (kind2 p.f.ty == 2) with
  | false =>
    refine (unpackN_any g p ov w hg hm hk).mono ?_
    rintro e w1 ⟨rfl, hb⟩
    refine ⟨rfl, ?_, OnlyG.of_below hb⟩
    unfold unpP
    rw [hk]
    exact hg.below hb
  | true =>
    rw [hk] at C
    have HC := hide C
    have HG := hide hg
    have CR := hide fun (W : World) => pRead_any p.f.rest W hs
    have HU : Hid (unpP p = unpR p) := hide (by unfold unpP; rw [hk]; rfl)
    clear C hg hm hk
    cases hr : isRt p.f.rest with
    | true =>
      have hpk : pkOf p.f.rest = #[.string p.f.rest, .int .i64 (ihl p.f.rest), .int .i64 (w16 p.f.rest 2)] := by unfold pkOf; rw [hr]; rfl
      rw [hr, hpk] at CR
      have HR : Hid (unpR p = { p with pb := p.f.rest, ph := ihl p.f.rest, pt := w16 p.f.rest 2, right := true }) := hide (by unfold unpR; rw [hr]; rfl)
      clear hpk hr
      go_enter Tryz.func60, Tryz.ntmps60
      go_wp2_with fail
      refine HC.out.mono ?_
      rintro e w1 ⟨rfl, hb⟩
      have P1 := HG.out.below hb
      have g8 : w1.cell? ⟨g, 8, none⟩ = some (.string p.f.rest) := P1.cell rfl
      have HP1 := hide P1
      have HB1 := hide hb
      clear P1 hb HC
      go_wp2_with fail
      refine (CR.out _).mono ?_
      rintro e w2 ⟨rfl, hb⟩
      have P2 := HP1.out.below hb
      have hfz : ∀ i, w2.frozen? ⟨g, i, none⟩ = false := fun i => P2.frozen i
      have t9 : w2.cell? ⟨g, 9, none⟩ = some (.string p.pb) := P2.cell rfl
      have t10 : w2.cell? ⟨g, 10, none⟩ = some (.int .i64 p.ph) := P2.cell rfl
      have t11 : w2.cell? ⟨g, 11, none⟩ = some (.int .i64 p.pt) := P2.cell rfl
      have t12 : w2.cell? ⟨g, 12, none⟩ = some (.bool p.right) := P2.cell rfl
      have HO := hide ((((((OnlyG.of_below (g := g) (HB1.out.trans (hb.mono HB1.out.size))).set 9 (.string p.f.rest)).set 10 (.int .i64 (ihl p.f.rest)))).set 11 (.int .i64 (w16 p.f.rest 2))).set 12 (.bool true))
      have HF := hide (P2.setPk p.f.rest (ihl p.f.rest) (w16 p.f.rest 2) true)
      clear P2 hb CR g8
      go_wp2
      go_ret
      exact ⟨rfl, by rw [HU.out, HR.out]; exact HF.out, HO.out⟩
    | false =>
      have hpk : pkOf p.f.rest = #[.string ⟨#[]⟩, .int .i64 0, .int .i64 0] := by unfold pkOf; rw [hr]; rfl
      rw [hr, hpk] at CR
      have HR : Hid (unpR p = { p with pb := ⟨#[]⟩, ph := 0, pt := 0, right := false }) := hide (by unfold unpR; rw [hr]; rfl)
      clear hpk hr
      go_enter Tryz.func60, Tryz.ntmps60
      go_wp2_with fail
      refine HC.out.mono ?_
      rintro e w1 ⟨rfl, hb⟩
      have P1 := HG.out.below hb
      have g8 : w1.cell? ⟨g, 8, none⟩ = some (.string p.f.rest) := P1.cell rfl
      have HP1 := hide P1
      have HB1 := hide hb
      clear P1 hb HC
      go_wp2_with fail
      refine (CR.out _).mono ?_
      rintro e w2 ⟨rfl, hb⟩
      have P2 := HP1.out.below hb
      have hfz : ∀ i, w2.frozen? ⟨g, i, none⟩ = false := fun i => P2.frozen i
      have t9 : w2.cell? ⟨g, 9, none⟩ = some (.string p.pb) := P2.cell rfl
      have t10 : w2.cell? ⟨g, 10, none⟩ = some (.int .i64 p.ph) := P2.cell rfl
      have t11 : w2.cell? ⟨g, 11, none⟩ = some (.int .i64 p.pt) := P2.cell rfl
      have t12 : w2.cell? ⟨g, 12, none⟩ = some (.bool p.right) := P2.cell rfl
      have HO := hide ((((((OnlyG.of_below (g := g) (HB1.out.trans (hb.mono HB1.out.size))).set 9 (.string ⟨#[]⟩)).set 10 (.int .i64 0))).set 11 (.int .i64 0)).set 12 (.bool false))
      have HF := hide (P2.setPk ⟨#[]⟩ 0 0 false)
      clear P2 hb CR g8
      go_wp2
      go_ret
      exact ⟨rfl, by rw [HU.out, HR.out]; exact HF.out, HO.out⟩
end Go.Proofs.YtnjalelblbjfiaaGreatDoor
