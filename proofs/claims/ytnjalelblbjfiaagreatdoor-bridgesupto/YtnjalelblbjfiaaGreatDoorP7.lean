import Derived.Test.YtnjalelblbjfiaaGreatDoorP5
import Derived.Deep.RegionHeld3
import Derived.Test.YtnjalelblbjfiaaGreatDoorShelf
import Derived.Sort.OwnSortedInts
namespace Go.Proofs.YtnjalelblbjfiaaGreatDoor
open Go.RowKit
open Go.Sort (grow)

attribute [local go_sem] cell?_regrown

/-- By how many bits a span is narrower than the field. -/
def narrow (wd lo hi : Int) : Int := wd - (Lib.bitLen (hi - lo).toNat : Int)

theorem bitLenAux_le : ∀ (f x : Nat), Lib.bitLenAux f x ≤ f
  | 0, _ => Nat.le_refl _
  | f + 1, x => by
    unfold Lib.bitLenAux
    split
    · omega
    · have := bitLenAux_le f (x / 2); omega
theorem bitLen_le (x : Nat) : Lib.bitLen x ≤ 64 := bitLenAux_le 64 x

set_option maxRecDepth 100000 in
set_option maxHeartbeats 400000 in
theorem narrowing_any (wd a b lo hi : Int) (w : World) (h0 : 0 ≤ lo) (h1 : lo ≤ hi) (h2 : hi ≤ 4294967295) (h3 : 0 ≤ wd) (h4 : wd ≤ 32) :
    Calls Tryz.prog 94 #[.agg #[.int .i64 wd, .int .i64 a, .int .i64 b], .agg #[.int .i64 lo, .int .i64 hi]] w fun e w' => e = .returned (.int .i64 (narrow wd lo hi)) ∧ Below w.heap.size w w' := by
  have hbl := bitLen_le (hi - lo).toNat
  have e1 : IntKind.i64.wrap (hi - lo) = hi - lo := by rw [IntKind.wrap_i64]; omega
  have e2 : IntKind.u64.wrap (hi - lo) = hi - lo := by rw [IntKind.wrap_u64]; omega
  have e3 : IntKind.i64.wrap (wd - (Lib.bitLen (hi - lo).toNat : Int)) = wd - (Lib.bitLen (hi - lo).toNat : Int) := by rw [IntKind.wrap_i64]; omega
  have CL := hide fun (d : Nat) (os : Array Obj) W => Tryz.bits_Len64 (hi - lo) (grow (redrawn W d) os) (by omega) (by omega)
  generalize hq : Lib.bitLen (hi - lo).toNat = q at *
  have HQ := hide hq
  clear hq
  go_enter Tryz.func94, Tryz.ntmps94
  go_wp2_with fail
  refine wp_region_quiet_below (by kernel_rfl) (by kernel_rfl) ?_
  repeat (quiet_step (exact Calls.regrown_of ((CL.out _ _ _).mono fun e w' h => ⟨h.1, h.2 ▸ Below.refl _ _⟩)))
  refine wpQuiet_nil ?_; intro wq hwq; replace hwq := below_of_regrown hwq; obtain ⟨hcq, hfq⟩ := bcell hwq; have hzq := hwq.size
  go_wp2
  go_ret
  exact ⟨ret_int (by rw [narrow, HQ.out]), Below.trans (by repeat (first | exact Below.refl _ _ | assumption | refine Below.drewN ?_ | refine Below.drew ?_ | refine Below.setCell ?_ (by first | exact Nat.le_refl _ | omega | (simp; done) | (simp; omega)) _ | refine Below.alloc ?_ (by first | exact Nat.le_refl _ | omega | (simp; done) | (simp; omega)) _)) (hwq.mono (by first | exact Nat.le_refl _ | omega | (simp; done) | (simp; omega)))⟩

/-- The tree that an entry belongs to. -/
def homeStep (h m : Int) (i n : Int) : Int × Int := if m < n then (i, n) else (h, m)
def homeUpTo (r : Rl) : Nat → Int × Int
  | 0 => (5, 0)
  | k + 1 => homeStep (homeUpTo r k).1 (homeUpTo r k).2 k (narrow (match k with | 0 => 32 | 1 => 32 | 2 => 8 | _ => 16) (r.lo k) (r.hi k))
def Rl.home (r : Rl) : Int := (homeUpTo r 5).1

theorem hull_ok_nat (n : Nat) (hn : n ≤ 32) (k v m : Int) (mx : Nat) (hmx : mx = 2 ^ n - 1) (hok : matB k v m 0 mx = true) : 0 ≤ v ∧ v ≤ topB k v m mx ∧ topB k v m mx ≤ mx := by
  simp only [matB, Bool.and_eq_true] at hok
  obtain ⟨h1, h2, h3⟩ := hok
  rw [hasB_iff] at h1 h2
  have hp : (2 : Nat) ^ n ≤ 4294967296 := Nat.le_trans (Nat.pow_le_pow_right (by omega) hn) (by decide)
  have hp0 : 0 < (2 : Nat) ^ n := Nat.pow_pos (by omega)
  by_cases hk1 : k = 1
  · subst hk1
    simp [topB] at h3 ⊢
    omega
  · simp only [topB, if_neg hk1, hullB]
    obtain ⟨V, rfl⟩ := Int.eq_ofNat_of_zero_le h1.1
    obtain ⟨M, rfl⟩ := Int.eq_ofNat_of_zero_le h2.1
    have hl2 : mx &&& (18446744073709551615 - M) ≤ mx := Nat.and_le_left
    rw [i64_andNot_nat mx M (by omega) (by omega), i64_or_nat _ _ (by omega) (by omega)]
    have hl3 : V ≤ V ||| (mx &&& (18446744073709551615 - M)) := Nat.left_le_or
    have hl4 : V ||| (mx &&& (18446744073709551615 - M)) < 2 ^ n := Nat.or_lt_two_pow (by omega) (by omega)
    omega

theorem hull_ok1 {k v m mx : Int} (h : mx = 4294967295 ∨ mx = 255 ∨ mx = 65535) (hok : matB k v m 0 mx = true) : 0 ≤ v ∧ v ≤ topB k v m mx ∧ topB k v m mx ≤ 4294967295 := by
  rcases h with rfl | rfl | rfl
  · exact hull_ok_nat 32 (by omega) k v m 4294967295 (by decide) hok
  · have := hull_ok_nat 8 (by omega) k v m 255 (by decide) hok; exact ⟨this.1, this.2.1, Int.le_trans this.2.2 (by decide)⟩
  · have := hull_ok_nat 16 (by omega) k v m 65535 (by decide) hok; exact ⟨this.1, this.2.1, Int.le_trans this.2.2 (by decide)⟩

theorem hull_ok {r : Rl} (hok : r.ok = true) {f : Nat} (hf : f < 5) : 0 ≤ r.lo f ∧ r.lo f ≤ r.hi f ∧ r.hi f ≤ 4294967295 := by
  simp only [Rl.ok, ruleB, Bool.and_eq_true] at hok
  obtain ⟨_, _, _, b0, b1, b2, b3, b4, _⟩ := hok
  match f, hf with
  | 0, _ => exact hull_ok1 (by simp) b0
  | 1, _ => exact hull_ok1 (by simp) b1
  | 2, _ => exact hull_ok1 (by simp) b2
  | 3, _ => exact hull_ok1 (by simp) b3
  | 4, _ => exact hull_ok1 (by simp) b4

theorem underField5 : ∃ d, Tryz.prog.underlying 179 = some d ∧ d.isRow = true := isRow_of (by kernel_rfl)
theorem sizeField5 : (Tryz.prog.info? 179).map (·.size) = some 15 := by kernel_rfl
theorem Laid.range {w : World} (h : Laid w) : w.rangeAt 0 0 [.int .i64 32, .int .i64 0, .int .i64 4294967295, .int .i64 32, .int .i64 0, .int .i64 4294967295, .int .i64 8, .int .i64 0, .int .i64 255, .int .i64 16, .int .i64 0, .int .i64 65535, .int .i64 16, .int .i64 0, .int .i64 65535] := by
  obtain ⟨g0, g1, g2, g3, g4, g5, g6, g7, g8, g9, g10, g11, g12, g13, g14⟩ := h
  intro j v hv
  rw [Nat.zero_add]
  match j, hv with
  | 0, hv => cases hv; exact g0
  | 1, hv => cases hv; exact g1
  | 2, hv => cases hv; exact g2
  | 3, hv => cases hv; exact g3
  | 4, hv => cases hv; exact g4
  | 5, hv => cases hv; exact g5
  | 6, hv => cases hv; exact g6
  | 7, hv => cases hv; exact g7
  | 8, hv => cases hv; exact g8
  | 9, hv => cases hv; exact g9
  | 10, hv => cases hv; exact g10
  | 11, hv => cases hv; exact g11
  | 12, hv => cases hv; exact g12
  | 13, hv => cases hv; exact g13
  | 14, hv => cases hv; exact g14
  | n + 15, hv => simp at hv

attribute [local go_sem] ixF0 ixF1 ixF2 ixF3 ixF4

set_option maxRecDepth 100000 in
set_option maxHeartbeats 400000 in
theorem home_any (b : Nat) (r : Rl) (w : World) (hl : Laid w) (he : EntAt w b r) (hok : r.ok = true) :
    Calls Tryz.prog 44 #[.pointer (some ⟨b, 0, none⟩)] w fun e w' => e = .returned (.int .i64 r.home) ∧ Below w.heap.size w w' := by
  obtain ⟨df, huf, hdf⟩ := underField5
  have HL := hide hl.range
  have hlt := he.lt
  go_enter Tryz.func44, Tryz.ntmps44
  go_wp2_with (first | (refine wpList_load_mid rfl 179 _ rfl 0 0 rfl [.int .i64 32, .int .i64 0, .int .i64 4294967295, .int .i64 32, .int .i64 0, .int .i64 4294967295, .int .i64 8, .int .i64 0, .int .i64 255, .int .i64 16, .int .i64 0, .int .i64 65535, .int .i64 16, .int .i64 0, .int .i64 65535] df HL.out huf hdf sizeField5 ?_))
  go_loopw [3, 4, 9] (fun h m i wr => ∃ k : Nat, k ≤ 5 ∧ i = .int .i64 k ∧ h = .int .i64 (homeUpTo r k).1 ∧ m = .int .i64 (homeUpTo r k).2 ∧ Below w.heap.size w wr) (fun _ _ i _ => 5 - (intOf i).toNat)
  case atStart => exact ⟨0, by omega, rfl, rfl, rfl, Below.refl _ _⟩
  case round =>
    obtain ⟨k, hk, rfl, rfl, rfl, hb⟩ := hrel
    have he' := he.below hb hlt
    have hlt' := he'.lt
    have H0 := hide hl
    clear huf hdf HL hl he
    match k, hk with
    | 0, _ =>
      have hlo : wr.cell? ⟨b, 19, none⟩ = some (.int .i64 (r.lo 0)) := he'.lo (f := 0) (by omega)
      have hhi : wr.cell? ⟨b, 20, none⟩ = some (.int .i64 (r.hi 0)) := he'.hi (f := 0) (by omega)
      obtain ⟨b0, b1, b2⟩ := hull_ok hok (f := 0) (by omega)
      have CL := hide fun (d : Nat) (os : Array Obj) W => narrowing_any 32 0 4294967295 (r.lo 0) (r.hi 0) (grow (redrawn W d) os) b0 b1 b2 (by omega) (by omega)
      generalize hq : narrow 32 (r.lo 0) (r.hi 0) = q at *
      have HQ : Hid (homeUpTo r 1 = homeStep (homeUpTo r 0).1 (homeUpTo r 0).2 0 q) := by rw [← hq]; exact rfl
      generalize homeUpTo r 0 = hm at *
      clear hq he' b0 b1 b2
      go_wp2_with fail
      refine wp_region_quiet_below (by kernel_rfl) (by kernel_rfl) ?_
      repeat (quiet_step (exact Calls.regrown_of (CL.out _ _ _)))
      refine wpQuiet_nil ?_; intro wq hwq; replace hwq := below_of_regrown hwq; obtain ⟨hcq, hfq⟩ := bcell hwq; have hzq := hwq.size
      have hbq : Below w.heap.size w wq := hb.trans (Below.trans ((Below.refl _ _).alloc hb.size _) (hwq.mono (by have := hb.size; simp; omega)))
      clear hcq hfq hwq hzq CL
      by_cases hlt' : hm.2 < q
      all_goals
        go_wp2
        go_roundw
        case rel => exact ⟨1, by omega, rfl, by rw [HQ.out]; simp [homeStep, hlt'], by rw [HQ.out]; simp [homeStep, hlt'], hbq⟩
        case measure => simp [intOf]
    | 1, _ =>
      have hlo : wr.cell? ⟨b, 21, none⟩ = some (.int .i64 (r.lo 1)) := he'.lo (f := 1) (by omega)
      have hhi : wr.cell? ⟨b, 22, none⟩ = some (.int .i64 (r.hi 1)) := he'.hi (f := 1) (by omega)
      obtain ⟨b0, b1, b2⟩ := hull_ok hok (f := 1) (by omega)
      have CL := hide fun (d : Nat) (os : Array Obj) W => narrowing_any 32 0 4294967295 (r.lo 1) (r.hi 1) (grow (redrawn W d) os) b0 b1 b2 (by omega) (by omega)
      generalize hq : narrow 32 (r.lo 1) (r.hi 1) = q at *
      have HQ : Hid (homeUpTo r 2 = homeStep (homeUpTo r 1).1 (homeUpTo r 1).2 1 q) := by rw [← hq]; exact rfl
      generalize homeUpTo r 1 = hm at *
      clear hq he' b0 b1 b2
      go_wp2_with fail
      refine wp_region_quiet_below (by kernel_rfl) (by kernel_rfl) ?_
      repeat (quiet_step (exact Calls.regrown_of (CL.out _ _ _)))
      refine wpQuiet_nil ?_; intro wq hwq; replace hwq := below_of_regrown hwq; obtain ⟨hcq, hfq⟩ := bcell hwq; have hzq := hwq.size
      have hbq : Below w.heap.size w wq := hb.trans (Below.trans ((Below.refl _ _).alloc hb.size _) (hwq.mono (by have := hb.size; simp; omega)))
      clear hcq hfq hwq hzq CL
      by_cases hlt' : hm.2 < q
      all_goals
        go_wp2
        go_roundw
        case rel => exact ⟨2, by omega, rfl, by rw [HQ.out]; simp [homeStep, hlt'], by rw [HQ.out]; simp [homeStep, hlt'], hbq⟩
        case measure => simp [intOf]
    | 2, _ =>
      have hlo : wr.cell? ⟨b, 23, none⟩ = some (.int .i64 (r.lo 2)) := he'.lo (f := 2) (by omega)
      have hhi : wr.cell? ⟨b, 24, none⟩ = some (.int .i64 (r.hi 2)) := he'.hi (f := 2) (by omega)
      obtain ⟨b0, b1, b2⟩ := hull_ok hok (f := 2) (by omega)
      have CL := hide fun (d : Nat) (os : Array Obj) W => narrowing_any 8 0 255 (r.lo 2) (r.hi 2) (grow (redrawn W d) os) b0 b1 b2 (by omega) (by omega)
      generalize hq : narrow 8 (r.lo 2) (r.hi 2) = q at *
      have HQ : Hid (homeUpTo r 3 = homeStep (homeUpTo r 2).1 (homeUpTo r 2).2 2 q) := by rw [← hq]; exact rfl
      generalize homeUpTo r 2 = hm at *
      clear hq he' b0 b1 b2
      go_wp2_with fail
      refine wp_region_quiet_below (by kernel_rfl) (by kernel_rfl) ?_
      repeat (quiet_step (exact Calls.regrown_of (CL.out _ _ _)))
      refine wpQuiet_nil ?_; intro wq hwq; replace hwq := below_of_regrown hwq; obtain ⟨hcq, hfq⟩ := bcell hwq; have hzq := hwq.size
      have hbq : Below w.heap.size w wq := hb.trans (Below.trans ((Below.refl _ _).alloc hb.size _) (hwq.mono (by have := hb.size; simp; omega)))
      clear hcq hfq hwq hzq CL
      by_cases hlt' : hm.2 < q
      all_goals
        go_wp2
        go_roundw
        case rel => exact ⟨3, by omega, rfl, by rw [HQ.out]; simp [homeStep, hlt'], by rw [HQ.out]; simp [homeStep, hlt'], hbq⟩
        case measure => simp [intOf]
    | 3, _ =>
      have hlo : wr.cell? ⟨b, 25, none⟩ = some (.int .i64 (r.lo 3)) := he'.lo (f := 3) (by omega)
      have hhi : wr.cell? ⟨b, 26, none⟩ = some (.int .i64 (r.hi 3)) := he'.hi (f := 3) (by omega)
      obtain ⟨b0, b1, b2⟩ := hull_ok hok (f := 3) (by omega)
      have CL := hide fun (d : Nat) (os : Array Obj) W => narrowing_any 16 0 65535 (r.lo 3) (r.hi 3) (grow (redrawn W d) os) b0 b1 b2 (by omega) (by omega)
      generalize hq : narrow 16 (r.lo 3) (r.hi 3) = q at *
      have HQ : Hid (homeUpTo r 4 = homeStep (homeUpTo r 3).1 (homeUpTo r 3).2 3 q) := by rw [← hq]; exact rfl
      generalize homeUpTo r 3 = hm at *
      clear hq he' b0 b1 b2
      go_wp2_with fail
      refine wp_region_quiet_below (by kernel_rfl) (by kernel_rfl) ?_
      repeat (quiet_step (exact Calls.regrown_of (CL.out _ _ _)))
      refine wpQuiet_nil ?_; intro wq hwq; replace hwq := below_of_regrown hwq; obtain ⟨hcq, hfq⟩ := bcell hwq; have hzq := hwq.size
      have hbq : Below w.heap.size w wq := hb.trans (Below.trans ((Below.refl _ _).alloc hb.size _) (hwq.mono (by have := hb.size; simp; omega)))
      clear hcq hfq hwq hzq CL
      by_cases hlt' : hm.2 < q
      all_goals
        go_wp2
        go_roundw
        case rel => exact ⟨4, by omega, rfl, by rw [HQ.out]; simp [homeStep, hlt'], by rw [HQ.out]; simp [homeStep, hlt'], hbq⟩
        case measure => simp [intOf]
    | 4, _ =>
      have hlo : wr.cell? ⟨b, 27, none⟩ = some (.int .i64 (r.lo 4)) := he'.lo (f := 4) (by omega)
      have hhi : wr.cell? ⟨b, 28, none⟩ = some (.int .i64 (r.hi 4)) := he'.hi (f := 4) (by omega)
      obtain ⟨b0, b1, b2⟩ := hull_ok hok (f := 4) (by omega)
      have CL := hide fun (d : Nat) (os : Array Obj) W => narrowing_any 16 0 65535 (r.lo 4) (r.hi 4) (grow (redrawn W d) os) b0 b1 b2 (by omega) (by omega)
      generalize hq : narrow 16 (r.lo 4) (r.hi 4) = q at *
      have HQ : Hid (homeUpTo r 5 = homeStep (homeUpTo r 4).1 (homeUpTo r 4).2 4 q) := by rw [← hq]; exact rfl
      generalize homeUpTo r 4 = hm at *
      clear hq he' b0 b1 b2
      go_wp2_with fail
      refine wp_region_quiet_below (by kernel_rfl) (by kernel_rfl) ?_
      repeat (quiet_step (exact Calls.regrown_of (CL.out _ _ _)))
      refine wpQuiet_nil ?_; intro wq hwq; replace hwq := below_of_regrown hwq; obtain ⟨hcq, hfq⟩ := bcell hwq; have hzq := hwq.size
      have hbq : Below w.heap.size w wq := hb.trans (Below.trans ((Below.refl _ _).alloc hb.size _) (hwq.mono (by have := hb.size; simp; omega)))
      clear hcq hfq hwq hzq CL
      by_cases hlt' : hm.2 < q
      all_goals
        go_wp2
        go_roundw
        case rel => exact ⟨5, by omega, rfl, by rw [HQ.out]; simp [homeStep, hlt'], by rw [HQ.out]; simp [homeStep, hlt'], hbq⟩
        case measure => simp [intOf]
    | 5, _ =>
      clear he'
      go_wp2
      go_ret
      exact ⟨rfl, hb⟩

end Go.Proofs.YtnjalelblbjfiaaGreatDoor

namespace Go.Proofs.YtnjalelblbjfiaaGreatDoor
open Go.RowKit
open Go.Sort (grow)

theorem infoSpan : (Tryz.prog.info? 122).map (fun i => (i.zero, i.size, i.bytes)) = some (some (.agg #[.int .i64 0, .int .i64 0]), 2, 16) := by kernel_rfl
theorem underSpans : Tryz.prog.underlying 320 = some (.slice 122) := by kernel_rfl

/-- The cells of a list of pairs. -/
def pairs (l : List (Int × Int)) : List Value := l.flatMap fun p => [.int .i64 p.1, .int .i64 p.2]
theorem pairs_length (l : List (Int × Int)) : (pairs l).length = l.length * 2 := by
  induction l with
  | nil => rfl
  | cons p t ih => simp [pairs] at ih ⊢; omega
def spansOf (f : Nat) (es : List Ent) : List (Int × Int) := es.map fun e => (e.2.lo f, e.2.hi f)

set_option maxRecDepth 100000 in
set_option maxHeartbeats 400000 in
theorem hulls_any (v : Value) (es : List Ent) (f : Nat) (w : World) (hes : BunchAt w v es) (hn : es.length ≤ 200) (hf : f < 5) :
    Calls Tryz.prog 201 #[v, .int .i64 f] w fun e w' => ∃ g cap, e = .returned (.slice (some ⟨g, 0, none⟩) es.length cap) ∧ w'.ownsRow w.heap.size 122 2 (.slice (some ⟨g, 0, none⟩) es.length cap) es.length (pairs (spansOf f es)) ∧ Below w.heap.size w w' := by
  obtain ⟨a, cap, rfl, hc, he⟩ := hes
  obtain ⟨i0, hi, hz0, hz1, hz2⟩ := info_parts infoSpan
  go_enter Tryz.func201, Tryz.ntmps201
  go_wp2_with (first | (at_make; refine wpList_make_own _ rfl _ _ 320 rfl w.heap.size 122 i0 (.agg #[.int .i64 0, .int .i64 0]) 2 underSpans hi hz0 hz1 .i64 .i64 _ es.length rfl rfl rfl (by rw [hz2]; omega) (by unfold maxLen; omega) (Nat.le_refl _) ?_; intro w0 hown0 hgrow0))
  have HO := hide hown0
  have HG := hide ((Below.refl w.heap.size w).grown hgrow0 (Nat.le_refl _) (fun k h => by cases h))
  clear hown0 hgrow0
  go_loopw [5, 13] (fun vr i wr => ∃ (k g cp : Nat), k ≤ es.length ∧ i = .int .i64 k ∧ vr = .slice (some ⟨g, 0, none⟩) k cp ∧ wr.ownsRow w.heap.size 122 2 (.slice (some ⟨g, 0, none⟩) k cp) k (pairs (spansOf f (es.take k))) ∧ Below w.heap.size w wr) (fun _ i _ => es.length - (intOf i).toNat)
  case atStart => exact ⟨0, w.heap.size, es.length, by omega, rfl, rfl, HO.out, HG.out⟩
  case round =>
    obtain ⟨k, g, cp, hk, rfl, rfl, ho, hb⟩ := hrel
    have O1 := hide ho
    clear ho HO HG
    by_cases hkl : k < es.length
    · obtain ⟨ab, off, ⟨rfl, hz00⟩, hcell⟩ := hc k hkl
      clear hz00
      have hcell' : wr.cell? ⟨ab, off + k, none⟩ = some (.pointer (some ⟨es[k].1, 0, none⟩)) := (hb.cell (p := ⟨ab, off + k, none⟩) (block_lt_of_cell hcell)).trans hcell
      have hek := (he es[k] (List.getElem_mem hkl)).below hb (he es[k] (List.getElem_mem hkl)).lt
      have hlo := hek.lo hf
      have hhi := hek.hi hf
      have heklt := hek.lt
      have hfi : (f : Int) < 5 := by omega
      generalize hee : es[k] = ek at *
      have HT : Hid (es.take (k + 1) = es.take k ++ [ek]) := by rw [List.take_succ_eq_append_getElem hkl, hee]; exact rfl
      clear hcell hc he hee hek
      have hbs := hb.size
      go_wp2_with (first | (at_builtin; refine wpList_append_lies _ rfl _ _ 320 rfl w.heap.size 122 i0 (.agg #[.int .i64 0, .int .i64 0]) 2 16 underSpans hi hz0 hz1 hz2 rfl (by decide) _ _ _ rfl (O1.out.alloc _) ⟨wr.heap.size, 0, none⟩ 1 1 [.int .i64 (ek.2.lo f), .int .i64 (ek.2.hi f)] rfl rfl (cell_two_new _ _ _ _) (by simp [Value.oneCell']) (by decide) (by unfold maxLen; omega) (by omega) (by simp; omega) _ rfl ?_))
      intro g1 cap1 w1 hown1 hgrow1 hat1 hlt1
      have B1 := hide (below_append hb hbs O1.out (Nat.le_refl _) hgrow1)
      have H1 := hide hown1
      clear hown1 hgrow1 hat1
      go_wp2
      go_roundw
      case rel => exact ⟨k + 1, g1, cap1, by omega, by go_num, rfl, by rw [HT.out]; simpa [spansOf, pairs] using H1.out, B1.out⟩
      case measure => simp [intOf]; omega
    · have hke : k = es.length := by omega
      have o1 := O1.out
      rw [hke, List.take_length] at o1
      have HO1 := hide o1
      clear hc he o1 O1
      subst hke
      go_wp2
      go_ret
      exact ⟨g, cp, rfl, HO1.out, hb⟩

end Go.Proofs.YtnjalelblbjfiaaGreatDoor

namespace Go.Proofs.YtnjalelblbjfiaaGreatDoor
open Go.RowKit
open Go.Sort (grow)

theorem infoInt : (Tryz.prog.info? 3).map (fun i => (i.zero, i.size, i.bytes)) = some (some (.int .i64 0), 1, 8) := by kernel_rfl
theorem underInts : Tryz.prog.underlying 32 = some (.slice 3) := by kernel_rfl

theorem sort_own (base g cap n : Nat) (ss : List Int) (w : World) (hn : n ≤ 200) (h : w.ownsRow base 3 1 (.slice (some ⟨g, 0, none⟩) n cap) n (ss.map (Value.int .i64))) :
    Calls Tryz.prog 235 #[.slice (some ⟨g, 0, none⟩) n cap] w fun e w' => e = .returned (.tuple #[]) ∧ ∃ ts : List Int, w'.ownsRow base 3 1 (.slice (some ⟨g, 0, none⟩) n cap) n (ts.map (Value.int .i64)) ∧ w.grownBy w' (some g) := by
  rcases h.2 with ⟨h0, _⟩ | ⟨g', cap', cur, hv, hb, hg, h1, h2, h3, h4⟩
  · cases h0
  cases hv
  have hlen : ss.length = n := by have := h.1; simpa using this
  subst hlen
  have hlt : g < w.heap.size := (Array.getElem?_eq_some_iff.1 hg).1
  have := Tryz.slices_Sort_int g 0 cap ss w (holds_of_blockI hg (by simpa using h4)) hlt (by omega)
  refine this.mono ?_
  rintro e w' ⟨rfl, m, os, rfl⟩
  exact ⟨rfl, _, ownsRow_sortedI (by simp) hb hg h1 h2 h3, grownBy_sortedI _⟩

theorem ownsRow_start1 (w : World) (n : Nat) (hn : n ≤ maxLen) : (((w.alloc (.cells (madeCells #[.int .i64 0] n) 3)).alloc (.cells (madeCells #[.int .i64 0] n) 3))).ownsRow w.heap.size 3 1 (.slice (some ⟨w.heap.size, 0, none⟩) 0 n) 0 (([] : List Int).map (Value.int .i64)) :=
  (World.ownsRow_made w _ n (Nat.le_refl _) hn (by rw [size_madeCells]; omega)).alloc _
theorem ownsRow_start2 (w : World) (n : Nat) (hn : n ≤ maxLen) : (((w.alloc (.cells (madeCells #[.int .i64 0] n) 3)).alloc (.cells (madeCells #[.int .i64 0] n) 3))).ownsRow w.heap.size 3 1 (.slice (some ⟨w.heap.size + 1, 0, none⟩) 0 n) 0 (([] : List Int).map (Value.int .i64)) := by
  have := World.ownsRow_made (base := w.heap.size) (e := 3) (size := 1) (w.alloc (.cells (madeCells #[.int .i64 0] n) 3)) (madeCells #[.int .i64 0] n) n (by simp) hn (by rw [size_madeCells]; omega)
  simpa using this
theorem pairs_get (l : List (Int × Int)) : ∀ k (hk : k < l.length), (pairs l)[k * 2]? = some (.int .i64 l[k].1) ∧ (pairs l)[k * 2 + 1]? = some (.int .i64 l[k].2) := by
  induction l with
  | nil => intro k hk; simp at hk
  | cons p t ih =>
    intro k hk
    match k, hk with
    | 0, _ => exact ⟨rfl, rfl⟩
    | k + 1, hk =>
      have := ih k (by simpa using hk)
      have e : (k + 1) * 2 = k * 2 + 2 := by omega
      rw [e]
      exact this
theorem pairs_cells {w : World} {B g cap n : Nat} {l : List (Int × Int)} (h : w.ownsRow B 122 2 (.slice (some ⟨g, 0, none⟩) n cap) n (pairs l)) (k : Nat) (hk : k < l.length) : w.cell? ⟨g, k * 2, none⟩ = some (.int .i64 l[k].1) ∧ w.cell? ⟨g, k * 2 + 1, none⟩ = some (.int .i64 l[k].2) := by
  have hl := h.1
  rw [pairs_length] at hl
  have := pairs_get l k hk
  exact ⟨(h.cellAt _ (by omega)).trans this.1, (h.cellAt _ (by omega)).trans this.2⟩
theorem own_eq' {g1 g2 g n1 n2 c1 c2 : Nat} (h1 : (Value.slice (some ⟨g1, 0, none⟩) n1 c1).ownBlock = some g) (h2 : (Value.slice (some ⟨g2, 0, none⟩) n2 c2).ownBlock = some g) : g1 = g2 := by
  have e1 : g1 = g := by simpa [Value.ownBlock] using h1
  have e2 : g2 = g := by simpa [Value.ownBlock] using h2
  rw [e1, e2]
theorem cell_one_new' {w : World} {H : Nat} (hH : w.heap.size = H) (x : Value) (t : TypeId) : ∀ j u, [x][j]? = some u → (w.alloc (.cells #[x] t)).cell? ((⟨H, 0, none⟩ : Addr).add j) = some u := by
  subst hH
  exact cell_one_new w x t

set_option maxRecDepth 100000 in
set_option maxHeartbeats 400000 in
theorem ends_any (g cap n : Nat) (l : List (Int × Int)) (B : Nat) (w : World) (h : w.ownsRow B 122 2 (.slice (some ⟨g, 0, none⟩) n cap) n (pairs l)) (hn : n ≤ 200) :
    Calls Tryz.prog 222 #[.slice (some ⟨g, 0, none⟩) n cap] w fun e w' => ∃ (g1 c1 g2 c2 : Nat) (ls hs : List Int), e = .returned (.tuple #[.slice (some ⟨g1, 0, none⟩) n c1, .slice (some ⟨g2, 0, none⟩) n c2]) ∧
      w'.ownsRow w.heap.size 3 1 (.slice (some ⟨g1, 0, none⟩) n c1) n (ls.map (Value.int .i64)) ∧ w'.ownsRow w.heap.size 3 1 (.slice (some ⟨g2, 0, none⟩) n c2) n (hs.map (Value.int .i64)) ∧ Below w.heap.size w w' := by
  obtain ⟨i0, hi, hz0, hz1, hz2⟩ := info_parts infoInt
  have hmk : ∀ W : World, (Instr.makeSlice 32 (.int .i64 0) (.int .i64 n)).run Tryz.prog W = .ok (.slice (some ⟨W.heap.size, 0, none⟩) 0 n) (W.alloc (.cells (madeCells #[.int .i64 0] n) 3)) := by
    intro W
    have := run_make (P := Tryz.prog) W 32 3 i0 (.int .i64 0) underInts hi hz0 .i64 .i64 0 n (by omega) (by omega) (by rw [hz2]; omega) (by omega)
    simpa [hz1, Value.cells] using this
  go_enter Tryz.func222, Tryz.ntmps222
  go_wp2
  have R1 := hide (ownsRow_start1 w n (by unfold maxLen; omega))
  have R2 := hide (ownsRow_start2 w n (by unfold maxLen; omega))
  have hll : l.length = n := by have := h.1; rw [pairs_length] at this; omega
  have hg : g < w.heap.size := (h.lt g rfl).2
  have HC := hide (fun k (hk : k < l.length) => pairs_cells h k hk)
  clear h
  go_region
  all_goals
    go_wp2
    go_loopw [2, 3, 14] (fun v1 v2 i wr => ∃ (k g1 c1 g2 c2 : Nat) (ls hs : List Int), k ≤ n ∧ i = .int .i64 k ∧ v1 = .slice (some ⟨g1, 0, none⟩) k c1 ∧ v2 = .slice (some ⟨g2, 0, none⟩) k c2 ∧ wr.ownsRow w.heap.size 3 1 (.slice (some ⟨g1, 0, none⟩) k c1) k (ls.map (Value.int .i64)) ∧ wr.ownsRow w.heap.size 3 1 (.slice (some ⟨g2, 0, none⟩) k c2) k (hs.map (Value.int .i64)) ∧ g1 ≠ g2 ∧ Below w.heap.size w wr) (fun _ _ i _ => n - (intOf i).toNat)
    case atStart => first | exact ⟨0, _, _, _, _, [], [], by omega, rfl, rfl, rfl, R1.out, R2.out, by omega, (by repeat (first | exact Below.refl _ _ | assumption | refine Below.drewN ?_ | refine Below.drew ?_ | refine Below.setCell ?_ (by first | exact Nat.le_refl _ | omega | (simp; done) | (simp; omega)) _ | refine Below.alloc ?_ (by first | exact Nat.le_refl _ | omega | (simp; done) | (simp; omega)) _))⟩ | exact ⟨0, _, _, _, _, [], [], by omega, rfl, rfl, rfl, R2.out, R1.out, by omega, (by repeat (first | exact Below.refl _ _ | assumption | refine Below.drewN ?_ | refine Below.drew ?_ | refine Below.setCell ?_ (by first | exact Nat.le_refl _ | omega | (simp; done) | (simp; omega)) _ | refine Below.alloc ?_ (by first | exact Nat.le_refl _ | omega | (simp; done) | (simp; omega)) _))⟩
    case round =>
      obtain ⟨k, g1, c1, g2, c2, ls, hs, hk, rfl, rfl, rfl, ho1, ho2, hne, hb⟩ := hrel
      have O1 := hide ho1
      have O2 := hide ho2
      clear ho1 ho2 R1 R2 hmk
      have hbs := hb.size
      by_cases hkl : k < n
      · obtain ⟨e1, e2⟩ := HC.out k (by omega)
        have e1' := (hb.cell (p := ⟨g, k * 2, none⟩) hg).trans e1
        have e2' := (hb.cell (p := ⟨g, k * 2 + 1, none⟩) hg).trans e2
        generalize (l[k]'(by omega)).1 = lo at *
        generalize (l[k]'(by omega)).2 = hi' at *
        clear e1 e2
        have hgr : g < wr.heap.size := by omega
        have hki : (k : Int) < n := by omega
        go_wp2_with (first | (at_builtin; refine wpList_append_lies _ rfl _ _ 32 rfl w.heap.size 3 i0 (.int .i64 0) 1 8 underInts hi hz0 hz1 hz2 rfl (by decide) _ _ _ rfl ((O1.out.alloc _).alloc _) ⟨(wr.heap.size + 1), 0, none⟩ 1 1 [.int .i64 lo] rfl rfl ?c1 (by simp [Value.oneCell']) (by decide) (by unfold maxLen; omega) (by omega) (by simp; omega) _ rfl ?_))
        case c1 => exact cell_one_new' (by simp) _ _
        intro g1' c1' w1 hown1 hgrow1 hat1 hlt1
        have hg1 := (O1.out.lt g1 rfl)
        have hbx : w1.cell? ⟨wr.heap.size, 1, none⟩ = some (.int .i64 hi') := hgrow1.cell (cellA (by simp) (by simp)) (by simp [Value.ownBlock]; omega)
        have P1 := hide (other_row (wq := wr.alloc _) (O2.out.alloc _) (fun g h1 h2 => hne (own_eq' h1 h2)) hgrow1 (by simpa using hat1))
        have B1 := hide (below_append (wq := wr.alloc _) (hb.alloc hbs _) (by simp; omega) (O1.out.alloc _) (Nat.le_refl _) hgrow1)
        have hbs1 := B1.out.size
        have hlw : wr.heap.size < w1.heap.size := by have := hgrow1.size; simp at this; omega
        have H1 := hide hown1
        clear hown1 hgrow1 hat1
        go_wp2_with (first | (at_builtin; refine wpList_append_lies _ rfl _ _ 32 rfl w.heap.size 3 i0 (.int .i64 0) 1 8 underInts hi hz0 hz1 hz2 rfl (by decide) _ _ _ rfl (P1.out.1.alloc _) ⟨w1.heap.size, 0, none⟩ 1 1 [.int .i64 hi'] rfl rfl ?c1 (by simp [Value.oneCell']) (by decide) (by unfold maxLen; omega) (by omega) (by simp; omega) _ rfl ?_))
        case c1 => exact cell_one_new' rfl _ _
        intro g2' c2' w2 hown2 hgrow2 hat2 hlt2
        have P2 := hide (other_row (v1 := .slice (some ⟨g2, 0, none⟩) k c2) H1.out (fun g h5 h1 => P1.out.2 (own_eq h1 h5)) hgrow2 hat2)
        have B2 := hide (below_append B1.out hbs1 P1.out.1 (Nat.le_refl _) hgrow2)
        have H2 := hide hown2
        clear hown2 hgrow2 hat2 hbx
        go_wp2
        go_roundw
        case rel => exact ⟨k + 1, g1', c1', g2', c2', ls ++ [lo], hs ++ [hi'], by omega, by go_num, rfl, rfl, by simpa using P2.out.1, by simpa using H2.out, fun e => P2.out.2 (by rw [e]; rfl), B2.out⟩
        case measure => simp [intOf]; omega
      · have hke : k = n := by omega
        subst hke
        have hg1 := O1.out.lt g1 rfl
        go_wp2_with fail
        refine (sort_own w.heap.size g1 c1 k ls _ hn O1.out).mono ?_
        rintro e w1 ⟨rfl, ls', ho1, hgr1⟩
        have P2 := hide (O2.out.kept hgr1 (.inr (by simp [Value.ownBlock]; omega)))
        have H1 := hide ho1
        have B1 := hide (hb.grown hgr1 hbs (fun k h => by cases h; exact hg1.1))
        have hbs1 := B1.out.size
        clear ho1 hgr1
        have hg2 := P2.out.lt g2 rfl
        go_wp2_with fail
        refine (sort_own w.heap.size g2 c2 k hs _ hn P2.out).mono ?_
        rintro e w2 ⟨rfl, hs', ho2, hgr2⟩
        have P1 := hide (H1.out.kept hgr2 (.inr (by simp [Value.ownBlock]; omega)))
        have H2 := hide ho2
        have B2 := hide (B1.out.grown hgr2 hbs1 (fun k h => by cases h; exact hg2.1))
        clear ho2 hgr2
        go_wp2
        go_ret2
        exact ⟨g1, c1, g2, c2, ls', hs', rfl, P1.out, H2.out, B2.out⟩

end Go.Proofs.YtnjalelblbjfiaaGreatDoor

namespace Go.Proofs.YtnjalelblbjfiaaGreatDoor
open Go.RowKit
open Go.Sort (grow)

theorem ints_cells {w : World} {B g cap n : Nat} {ls : List Int} (h : w.ownsRow B 3 1 (.slice (some ⟨g, 0, none⟩) n cap) n (ls.map (Value.int .i64))) : ∀ k, k < n → ∃ z, w.cell? ⟨g, k, none⟩ = some (.int .i64 z) := by
  intro k hk
  have hl : ls.length = n := by have := h.1; simpa using this
  refine ⟨ls[k]'(by omega), ?_⟩
  rw [h.cellAt k (by omega)]
  simp [hl, hk]

theorem frozenA {w : World} {o : Obj} {b i : Nat} (h : b < w.heap.size) : (w.alloc o).frozen? ⟨b, i, none⟩ = w.frozen? ⟨b, i, none⟩ :=
  ((Below.refl w.heap.size w).alloc (Nat.le_refl _) o).frozen (p := ⟨b, i, none⟩) h
theorem set3_0 {w : World} {b : Nat} {u v0 v1 v2 : Value} (h : w.cell? ⟨b, 0, none⟩ = some u) : (((w.setCell ⟨b, 0, none⟩ v0).setCell ⟨b, 1, none⟩ v1).setCell ⟨b, 2, none⟩ v2).cell? ⟨b, 0, none⟩ = some v0 := by
  rw [set_other (.inr (by omega)), set_other (.inr (by omega))]
  exact set_same h
theorem set3_1 {w : World} {b : Nat} {u v0 v1 v2 : Value} (h : w.cell? ⟨b, 1, none⟩ = some u) : (((w.setCell ⟨b, 0, none⟩ v0).setCell ⟨b, 1, none⟩ v1).setCell ⟨b, 2, none⟩ v2).cell? ⟨b, 1, none⟩ = some v1 := by
  rw [set_other (.inr (by omega))]
  exact set_same (u := u) (by rw [set_other (.inr (by omega))]; exact h)
theorem set3_2 {w : World} {b : Nat} {u v0 v1 v2 : Value} (h : w.cell? ⟨b, 2, none⟩ = some u) : (((w.setCell ⟨b, 0, none⟩ v0).setCell ⟨b, 1, none⟩ v1).setCell ⟨b, 2, none⟩ v2).cell? ⟨b, 2, none⟩ = some v2 :=
  set_same (u := u) (by rw [set_other (.inr (by omega)), set_other (.inr (by omega))]; exact h)

attribute [local go_sem] cell?_regrown

set_option maxRecDepth 100000 in
set_option maxHeartbeats 1000000 in
theorem part_any (g cap n : Nat) (l : List (Int × Int)) (B : Nat) (w : World) (h : w.ownsRow B 122 2 (.slice (some ⟨g, 0, none⟩) n cap) n (pairs l)) (hn : n ≤ 200) :
    Calls Tryz.prog 200 #[.slice (some ⟨g, 0, none⟩) n cap] w fun e w' => ∃ last lo hi : Int, e = .returned (.agg #[.int .i64 last, .int .i64 lo, .int .i64 hi]) ∧ 0 ≤ lo ∧ lo ≤ n ∧ 0 ≤ hi ∧ hi ≤ n ∧ Below w.heap.size w w' := by
  have HE := hide fun (o : Obj) => ends_any g cap n l B (w.alloc o) (h.alloc o) hn
  have hg : g < w.heap.size := (h.lt g rfl).2
  clear h
  go_enter Tryz.func200, Tryz.ntmps200
  go_wp2_with fail
  refine (HE.out _).mono ?_
  rintro e w1 ⟨g1, c1, g2, c2, ls, hs, rfl, ho1, ho2, hb1⟩
  have hL := ints_cells ho1
  have hH := ints_cells ho2
  have hg1 := (ho1.lt g1 rfl).2
  have hg2 := (ho2.lt g2 rfl).2
  have hz1 : w.heap.size < w1.heap.size := by have := hb1.size; simp at this; omega
  have HB1 := hide hb1
  have HL := hide hL
  have HH := hide hH
  clear ho1 ho2 hb1 HE hL hH
  go_wp2
  go_loopw [6, 22] (fun bg i wr => ∃ (k b : Nat) (la lo hi : Int), k ≤ n ∧ i = .int .i64 k ∧ b ≤ n ∧ bg = .int .i64 b ∧ Below w1.heap.size w1 wr ∧ w1.heap.size < wr.heap.size ∧ (∀ j, wr.frozen? ⟨w1.heap.size, j, none⟩ = false) ∧ wr.cell? ⟨w1.heap.size, 0, none⟩ = some (.int .i64 la) ∧ wr.cell? ⟨w1.heap.size, 1, none⟩ = some (.int .i64 lo) ∧ wr.cell? ⟨w1.heap.size, 2, none⟩ = some (.int .i64 hi) ∧ 0 ≤ lo ∧ lo ≤ n ∧ 0 ≤ hi ∧ hi ≤ n) (fun _ i _ => n - (intOf i).toNat)
  case atStart => exact ⟨0, 0, 0, n, n, by omega, rfl, by omega, rfl, (by repeat (first | exact Below.refl _ _ | assumption | refine Below.drewN ?_ | refine Below.drew ?_ | refine Below.setCell ?_ (by first | exact Nat.le_refl _ | omega | (simp; done) | (simp; omega)) _ | refine Below.alloc ?_ (by first | exact Nat.le_refl _ | omega | (simp; done) | (simp; omega)) _)), (by first | exact Nat.le_refl _ | omega | (simp; done) | (simp; omega)), fun j => World.frozen?_alloc_at _ _ _ _ rfl, by simp, by simp, by simp, by omega, by omega, by omega, by omega⟩
  case round =>
    obtain ⟨k, b, la, lo, hi, hk, rfl, hbn, rfl, hb, hlt, hfz, q0, q1, q2, hlo0, hlon, hhi0, hhin⟩ := hrel
    have hfz0 := hfz 0
    have hfz1 := hfz 1
    have hfz2 := hfz 2
    have HF := hide hfz
    clear hfz
    by_cases hkl : k < n
    · obtain ⟨z, hz⟩ := HH.out k hkl
      have hz' := (hb.cell (p := ⟨g2, k, none⟩) hg2).trans hz
      have hki : (k : Int) < n := by omega
      clear hz
      by_cases hk1 : k + 1 < n
      · obtain ⟨y, hy⟩ := HH.out (k + 1) hk1
        have hy' := (hb.cell (p := ⟨g2, k + 1, none⟩) hg2).trans hy
        clear hy
        have hk1i : (k : Int) + 1 < n := by omega
        by_cases hyz : y = z
        · have hbq : (y == z) = true := by simp [hyz]
          go_wp2
          go_roundw
          case rel => exact ⟨k + 1, b, la, lo, hi, by omega, by go_num, hbn, rfl, hb, hlt, HF.out, q0, q1, q2, hlo0, hlon, hhi0, hhin⟩
          case measure => simp [intOf]; omega
        · have hbq : (y == z) = false := by simp [hyz]
          go_wp2
          clear hy' hyz
          go_loop [6] (fun bg => ∃ b' : Nat, b' ≤ n ∧ bg = .int .i64 b') (fun bg => n - (intOf bg).toNat)
          case atStart => exact ⟨b, hbn, rfl⟩
          case round =>
            obtain ⟨b', hbn', rfl⟩ := hrel
            by_cases hbl : b' < n
            · obtain ⟨x, hx⟩ := HL.out b' hbl
              have hx' := (hb.cell (p := ⟨g1, b', none⟩) hg1).trans hx
              clear hx
              have hbi : (b' : Int) < n := by omega
              by_cases hxz : x ≤ z
              · go_wp2
                go_round
                case rel => exact ⟨b' + 1, by omega, by go_num⟩
                case measure => simp [intOf]; omega
              · go_wp2_with fail
                refine wp_region_quiet_below (by kernel_rfl) (by kernel_rfl) ?_
                repeat (quiet_step (exact Calls.regrown_of (most_any _ _ _ _)))
                refine wpQuiet_nil ?_; intro wq hwq; replace hwq := below_of_regrown hwq; obtain ⟨hcq, hfq⟩ := bcell hwq; have hzq := hwq.size
                have hbq : Below w1.heap.size w1 wq := hb.trans (Below.trans ((Below.refl _ _).alloc hb.size _) (hwq.mono (by have := hb.size; simp; omega)))
                have hltq : w1.heap.size < wq.heap.size := by simp at hzq; omega
                have d0 := cell_later hwq (cellA hlt q0)
                have d1 := cell_later hwq (cellA hlt q1)
                have d2 := cell_later hwq (cellA hlt q2)
                have hfz' : ∀ j, wq.frozen? ⟨w1.heap.size, j, none⟩ = false := fun j => (hfq w1.heap.size j (by simp; omega)).trans ((frozenA hlt).trans (HF.out j))
                have f0 := hfz' 0
                have f1 := hfz' 1
                have f2 := hfz' 2
                have n0 : wq.cell? ⟨wr.heap.size, 0, none⟩ = some (.int .i64 z) := cell_later hwq (by simp)
                have n1 : wq.cell? ⟨wr.heap.size, 1, none⟩ = some (.int .i64 b') := cell_later hwq (by simp)
                have n2 : wq.cell? ⟨wr.heap.size, 2, none⟩ = some (.int .i64 ((n : Int) - k - 1)) := cell_later hwq (by simp)
                have HBQ := hide hbq
                have HFQ := hide hfz'
                clear hcq hfq hwq hzq q0 q1 q2 hfz0 hfz1 hfz2 hfz' hbq hz'
                have hnk0 : (0 : Int) ≤ (n : Int) - k - 1 := by omega
                have hnk1 : (n : Int) - k - 1 ≤ n := by omega
                by_cases hmm : maxI b' ((n : Int) - k - 1) < maxI lo hi
                · go_wp2
                  go_roundw
                  case rel => exact ⟨k + 1, b', z, b', (n : Int) - k - 1, by omega, by go_num, by omega, rfl, Below.setCell (Below.setCell (Below.setCell HBQ.out (Nat.le_refl _) _) (Nat.le_refl _) _) (Nat.le_refl _) _, by simpa using hltq, fun j => by simpa using HFQ.out j, set3_0 d0, set3_1 d1, set3_2 d2, by omega, by omega, by omega, by omega⟩
                  case measure => simp [intOf]; omega
                · go_wp2
                  go_roundw
                  case rel => exact ⟨k + 1, b', la, lo, hi, by omega, by go_num, by omega, rfl, HBQ.out, hltq, HFQ.out, d0, d1, d2, hlo0, hlon, hhi0, hhin⟩
                  case measure => simp [intOf]; omega
            · go_wp2_with fail
              refine wp_region_quiet_below (by kernel_rfl) (by kernel_rfl) ?_
              repeat (quiet_step (exact Calls.regrown_of (most_any _ _ _ _)))
              refine wpQuiet_nil ?_; intro wq hwq; replace hwq := below_of_regrown hwq; obtain ⟨hcq, hfq⟩ := bcell hwq; have hzq := hwq.size
              have hbq : Below w1.heap.size w1 wq := hb.trans (Below.trans ((Below.refl _ _).alloc hb.size _) (hwq.mono (by have := hb.size; simp; omega)))
              have hltq : w1.heap.size < wq.heap.size := by simp at hzq; omega
              have d0 := cell_later hwq (cellA hlt q0)
              have d1 := cell_later hwq (cellA hlt q1)
              have d2 := cell_later hwq (cellA hlt q2)
              have hfz' : ∀ j, wq.frozen? ⟨w1.heap.size, j, none⟩ = false := fun j => (hfq w1.heap.size j (by simp; omega)).trans ((frozenA hlt).trans (HF.out j))
              have f0 := hfz' 0
              have f1 := hfz' 1
              have f2 := hfz' 2
              have n0 : wq.cell? ⟨wr.heap.size, 0, none⟩ = some (.int .i64 z) := cell_later hwq (by simp)
              have n1 : wq.cell? ⟨wr.heap.size, 1, none⟩ = some (.int .i64 b') := cell_later hwq (by simp)
              have n2 : wq.cell? ⟨wr.heap.size, 2, none⟩ = some (.int .i64 ((n : Int) - k - 1)) := cell_later hwq (by simp)
              have HBQ := hide hbq
              have HFQ := hide hfz'
              clear hcq hfq hwq hzq q0 q1 q2 hfz0 hfz1 hfz2 hfz' hbq hz'
              have hnk0 : (0 : Int) ≤ (n : Int) - k - 1 := by omega
              have hnk1 : (n : Int) - k - 1 ≤ n := by omega
              by_cases hmm : maxI b' ((n : Int) - k - 1) < maxI lo hi
              · go_wp2
                go_roundw
                case rel => exact ⟨k + 1, b', z, b', (n : Int) - k - 1, by omega, by go_num, by omega, rfl, Below.setCell (Below.setCell (Below.setCell HBQ.out (Nat.le_refl _) _) (Nat.le_refl _) _) (Nat.le_refl _) _, by simpa using hltq, fun j => by simpa using HFQ.out j, set3_0 d0, set3_1 d1, set3_2 d2, by omega, by omega, by omega, by omega⟩
                case measure => simp [intOf]; omega
              · go_wp2
                go_roundw
                case rel => exact ⟨k + 1, b', la, lo, hi, by omega, by go_num, by omega, rfl, HBQ.out, hltq, HFQ.out, d0, d1, d2, hlo0, hlon, hhi0, hhin⟩
                case measure => simp [intOf]; omega
      · go_wp2
        go_loop [6] (fun bg => ∃ b' : Nat, b' ≤ n ∧ bg = .int .i64 b') (fun bg => n - (intOf bg).toNat)
        case atStart => exact ⟨b, hbn, rfl⟩
        case round =>
          obtain ⟨b', hbn', rfl⟩ := hrel
          by_cases hbl : b' < n
          · obtain ⟨x, hx⟩ := HL.out b' hbl
            have hx' := (hb.cell (p := ⟨g1, b', none⟩) hg1).trans hx
            clear hx
            have hbi : (b' : Int) < n := by omega
            by_cases hxz : x ≤ z
            · go_wp2
              go_round
              case rel => exact ⟨b' + 1, by omega, by go_num⟩
              case measure => simp [intOf]; omega
            · go_wp2_with fail
              refine wp_region_quiet_below (by kernel_rfl) (by kernel_rfl) ?_
              repeat (quiet_step (exact Calls.regrown_of (most_any _ _ _ _)))
              refine wpQuiet_nil ?_; intro wq hwq; replace hwq := below_of_regrown hwq; obtain ⟨hcq, hfq⟩ := bcell hwq; have hzq := hwq.size
              have hbq : Below w1.heap.size w1 wq := hb.trans (Below.trans ((Below.refl _ _).alloc hb.size _) (hwq.mono (by have := hb.size; simp; omega)))
              have hltq : w1.heap.size < wq.heap.size := by simp at hzq; omega
              have d0 := cell_later hwq (cellA hlt q0)
              have d1 := cell_later hwq (cellA hlt q1)
              have d2 := cell_later hwq (cellA hlt q2)
              have hfz' : ∀ j, wq.frozen? ⟨w1.heap.size, j, none⟩ = false := fun j => (hfq w1.heap.size j (by simp; omega)).trans ((frozenA hlt).trans (HF.out j))
              have f0 := hfz' 0
              have f1 := hfz' 1
              have f2 := hfz' 2
              have n0 : wq.cell? ⟨wr.heap.size, 0, none⟩ = some (.int .i64 z) := cell_later hwq (by simp)
              have n1 : wq.cell? ⟨wr.heap.size, 1, none⟩ = some (.int .i64 b') := cell_later hwq (by simp)
              have n2 : wq.cell? ⟨wr.heap.size, 2, none⟩ = some (.int .i64 ((n : Int) - k - 1)) := cell_later hwq (by simp)
              have HBQ := hide hbq
              have HFQ := hide hfz'
              clear hcq hfq hwq hzq q0 q1 q2 hfz0 hfz1 hfz2 hfz' hbq hz'
              have hnk0 : (0 : Int) ≤ (n : Int) - k - 1 := by omega
              have hnk1 : (n : Int) - k - 1 ≤ n := by omega
              by_cases hmm : maxI b' ((n : Int) - k - 1) < maxI lo hi
              · go_wp2
                go_roundw
                case rel => exact ⟨k + 1, b', z, b', (n : Int) - k - 1, by omega, by go_num, by omega, rfl, Below.setCell (Below.setCell (Below.setCell HBQ.out (Nat.le_refl _) _) (Nat.le_refl _) _) (Nat.le_refl _) _, by simpa using hltq, fun j => by simpa using HFQ.out j, set3_0 d0, set3_1 d1, set3_2 d2, by omega, by omega, by omega, by omega⟩
                case measure => simp [intOf]; omega
              · go_wp2
                go_roundw
                case rel => exact ⟨k + 1, b', la, lo, hi, by omega, by go_num, by omega, rfl, HBQ.out, hltq, HFQ.out, d0, d1, d2, hlo0, hlon, hhi0, hhin⟩
                case measure => simp [intOf]; omega
          · go_wp2_with fail
            refine wp_region_quiet_below (by kernel_rfl) (by kernel_rfl) ?_
            repeat (quiet_step (exact Calls.regrown_of (most_any _ _ _ _)))
            refine wpQuiet_nil ?_; intro wq hwq; replace hwq := below_of_regrown hwq; obtain ⟨hcq, hfq⟩ := bcell hwq; have hzq := hwq.size
            have hbq : Below w1.heap.size w1 wq := hb.trans (Below.trans ((Below.refl _ _).alloc hb.size _) (hwq.mono (by have := hb.size; simp; omega)))
            have hltq : w1.heap.size < wq.heap.size := by simp at hzq; omega
            have d0 := cell_later hwq (cellA hlt q0)
            have d1 := cell_later hwq (cellA hlt q1)
            have d2 := cell_later hwq (cellA hlt q2)
            have hfz' : ∀ j, wq.frozen? ⟨w1.heap.size, j, none⟩ = false := fun j => (hfq w1.heap.size j (by simp; omega)).trans ((frozenA hlt).trans (HF.out j))
            have f0 := hfz' 0
            have f1 := hfz' 1
            have f2 := hfz' 2
            have n0 : wq.cell? ⟨wr.heap.size, 0, none⟩ = some (.int .i64 z) := cell_later hwq (by simp)
            have n1 : wq.cell? ⟨wr.heap.size, 1, none⟩ = some (.int .i64 b') := cell_later hwq (by simp)
            have n2 : wq.cell? ⟨wr.heap.size, 2, none⟩ = some (.int .i64 ((n : Int) - k - 1)) := cell_later hwq (by simp)
            have HBQ := hide hbq
            have HFQ := hide hfz'
            clear hcq hfq hwq hzq q0 q1 q2 hfz0 hfz1 hfz2 hfz' hbq hz'
            have hnk0 : (0 : Int) ≤ (n : Int) - k - 1 := by omega
            have hnk1 : (n : Int) - k - 1 ≤ n := by omega
            by_cases hmm : maxI b' ((n : Int) - k - 1) < maxI lo hi
            · go_wp2
              go_roundw
              case rel => exact ⟨k + 1, b', z, b', (n : Int) - k - 1, by omega, by go_num, by omega, rfl, Below.setCell (Below.setCell (Below.setCell HBQ.out (Nat.le_refl _) _) (Nat.le_refl _) _) (Nat.le_refl _) _, by simpa using hltq, fun j => by simpa using HFQ.out j, set3_0 d0, set3_1 d1, set3_2 d2, by omega, by omega, by omega, by omega⟩
              case measure => simp [intOf]; omega
            · go_wp2
              go_roundw
              case rel => exact ⟨k + 1, b', la, lo, hi, by omega, by go_num, by omega, rfl, HBQ.out, hltq, HFQ.out, d0, d1, d2, hlo0, hlon, hhi0, hhin⟩
              case measure => simp [intOf]; omega
    · have hb0 : Below (w.heap.size + 1) (w.alloc (.cells #[.int .i64 0, .int .i64 0, .int .i64 0] 318)) wr := (HB1.out.mono (by simp)).trans (hb.mono (by omega))
      have r0 : wr.cell? ⟨w.heap.size, 0, none⟩ = some (.int .i64 0) := (hb0.cell (p := ⟨w.heap.size, 0, none⟩) (Nat.lt_succ_self _)).trans (by simp)
      have r1 : wr.cell? ⟨w.heap.size, 1, none⟩ = some (.int .i64 0) := (hb0.cell (p := ⟨w.heap.size, 1, none⟩) (Nat.lt_succ_self _)).trans (by simp)
      have r2 : wr.cell? ⟨w.heap.size, 2, none⟩ = some (.int .i64 0) := (hb0.cell (p := ⟨w.heap.size, 2, none⟩) (Nat.lt_succ_self _)).trans (by simp)
      have rf : ∀ j, wr.frozen? ⟨w.heap.size, j, none⟩ = false := fun j => (hb0.frozen (p := ⟨w.heap.size, j, none⟩) (Nat.lt_succ_self _)).trans (World.frozen?_alloc_at _ _ _ _ rfl)
      have rf0 := rf 0
      have rf1 := rf 1
      have rf2 := rf 2
      have HB0 := hide hb0
      clear hb0 rf
      go_wp2
      refine bodyPost_ret (v := .agg #[.int .i64 la, .int .i64 lo, .int .i64 hi]) ?_ rfl ⟨la, lo, hi, rfl, hlo0, hlon, hhi0, hhin, ?_⟩
      · have s0 := set3_0 (v0 := .int .i64 la) (v1 := .int .i64 lo) (v2 := .int .i64 hi) r0
        have s1 := set3_1 (v0 := .int .i64 la) (v1 := .int .i64 lo) (v2 := .int .i64 hi) r1
        have s2 := set3_2 (v0 := .int .i64 la) (v1 := .int .i64 lo) (v2 := .int .i64 hi) r2
        simp [results, Tryz.results200, go_sem, s0, s1, s2]
      · exact Below.setCell (Below.setCell (Below.setCell (Below.trans ((Below.refl w.heap.size w).alloc (Nat.le_refl _) _) (HB0.out.mono (by omega))) (Nat.le_refl _) _) (Nat.le_refl _) _) (Nat.le_refl _) _

end Go.Proofs.YtnjalelblbjfiaaGreatDoor
