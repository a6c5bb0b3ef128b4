import Derived.Test.YtaejpejfmpbinaaGreatDoorP20
import Derived.Test.YtaejpejfmpbinaaGreatDoorP21
import Derived.Test.YtaejpejfmpbinaaGreatDoorP17
import Derived.Test.YtaejpejfmpbinaaGreatDoorP19
import Derived.Test.YtaejpejfmpbinaaGreatDoorP18
namespace Go.Proofs.YtaejpejfmpbinaaGreatDoor
open Go.RowKit Go.Maps

theorem newFc_any (w : World) : Calls Tryz.prog 43 #[.func (.func 44) #[] #[]] w fun e w' => e = .returned (.pointer (some ⟨w.heap.size, 0, none⟩)) ∧ w' = w.alloc (.cells #[.func (.func 44) #[] #[], .slice none 0 0] 164) := by
  go_enter Tryz.func43, Tryz.ntmps43
  go_wp2
  go_ret
  exact ⟨rfl, rfl⟩
theorem newH_any (w : World) : Calls Tryz.prog 90 #[.func (.func 91) #[] #[]] w fun e w' => e = .returned (.pointer (some ⟨w.heap.size, 0, none⟩)) ∧ w' = w.alloc (.cells #[.func (.func 91) #[] #[], .slice none 0 0] 238) := by
  go_enter Tryz.func90, Tryz.ntmps90
  go_wp2
  go_ret
  exact ⟨rfl, rfl⟩
theorem rNew_any (w : World) : Calls Tryz.prog 45 #[] w fun e w' => e = .returned (.pointer (some ⟨w.heap.size + 1, 0, none⟩)) ∧ w' = (w.alloc (.cells #[.func (.func 91) #[] #[], .slice none 0 0] 238)).alloc (.cells #[.pointer (some ⟨w.heap.size, 0, none⟩)] 145) := by
  have C := hide (newH_any w)
  go_enter Tryz.func45, Tryz.ntmps45
  go_wp2_with fail
  refine C.out.mono ?_
  rintro e w1 ⟨rfl, rfl⟩
  go_wp2
  go_ret
  exact ⟨rfl, rfl⟩

/-- The cells of a switch. -/
def swCells (pv : Value) (fb rb t vb k : Nat) : Array Value := #[pv, .pointer (some ⟨fb, 0, none⟩), .pointer (some ⟨rb, 0, none⟩), .pointer (some ⟨t, 0, none⟩), .map (some vb), .pointer (some ⟨k, 0, none⟩)]

/-- All that a new switch has but its ports. -/
structure NewAt (w : World) (fb rb hb t vb k m : Nat) (F : Nat → Prop) (W : World) : Prop where
  nf : W.heap[fb]? = some (.cells #[.func (.func 44) #[] #[], .slice none 0 0] 164 (0, 0))
  nr : W.heap[rb]? = some (.cells #[.pointer (some ⟨hb, 0, none⟩)] 145 (0, 0))
  nh : W.heap[hb]? = some (.cells #[.func (.func 91) #[] #[], .slice none 0 0] 238 (0, 0))
  nt : TabIs W t F []
  nv : W.heap[vb]? = some (.map #[] 0)
  nk : KnownAt W k m (.slice none 0 0) []
  lo : Below w.heap.size w W
  lf : w.heap.size ≤ fb
  lr : w.heap.size ≤ rb
  lh : w.heap.size ≤ hb
  lt : ∀ x, F x → w.heap.size ≤ x
  lv : w.heap.size ≤ vb
  lk : w.heap.size ≤ k
  lm : w.heap.size ≤ m
  tw : ∃ W0, TabIs W0 t F [] ∧ Below W0.heap.size W0 W ∧ W0.heap.size ≤ k ∧ W0.heap.size ≤ m
  lg : ∀ x, F x → fb < x
theorem NewAt.below {w W W' : World} {fb rb hb t vb k m : Nat} {F : Nat → Prop} (h : NewAt w fb rb hb t vb k m F W) (hq : Below W.heap.size W W') : NewAt w fb rb hb t vb k m F W' :=
  ⟨(hq.block _ (lt_of_heap h.nf)).trans h.nf, (hq.block _ (lt_of_heap h.nr)).trans h.nr, (hq.block _ (lt_of_heap h.nh)).trans h.nh, h.nt.still hq, (hq.block _ (lt_of_heap h.nv)).trans h.nv, h.nk.below hq, h.lo.trans (hq.mono h.lo.size), h.lf, h.lr, h.lh, h.lt, h.lv, h.lk, h.lm, h.tw.imp (fun _ ⟨a, b, c⟩ => ⟨a, b.trans (hq.mono b.size), c⟩), h.lg⟩

/-- While the ports are made. -/
structure NewI (w : World) (fb rb hb t vb k m : Nat) (F : Nat → Prop) (Wb : World) (j : Nat) (W : World) : Prop where
  n : NewAt w fb rb hb t vb k m F Wb
  s : ∃ pv, W.heap[Wb.heap.size]? = some (.cells (swCells pv fb rb t vb k) 76 (0, 0)) ∧ W.ownsRow (Wb.heap.size + 1) 81 2 pv j (rowQ (List.replicate j (1, .map none)))
  lo : Below Wb.heap.size Wb W

theorem infoPort : (Tryz.prog.info? 81).map (fun i => (i.zero, i.size, i.bytes)) = some (some (.agg #[.int .i64 0, .map none]), 2, 16) := by kernel_rfl

set_option maxRecDepth 100000 in
set_option maxHeartbeats 2000000 in
theorem sNew_any (n : Nat) (w : World) (hn : 1 ≤ n) (hn8 : n ≤ 8) (hl : Laid w) :
    Calls Tryz.prog 20 #[.int .i64 n] w fun e w' => ∃ fb rb hb t vb k m F Wb, e = .returned (.tuple #[.pointer (some ⟨Wb.heap.size, 0, none⟩), .int .i64 0]) ∧ NewI w fb rb hb t vb k m F Wb n w' := by
  have CF := hide newFc_any
  have CR := hide rNew_any
  have CT := hide tnew_any
  have CM := hide mNew_any
  obtain ⟨i0, hi, hz0, hz1, hz2⟩ := info_parts infoPort
  have hmm := @run_makeMap Tryz.prog
  have a1 : ¬ (n : Int) < 1 := by omega
  have a2 : ¬ (8 : Int) < n := by omega
  have HL := hide hl
  clear hl
  go_enter Tryz.func20, Tryz.ntmps20
  go_wp2_with fail
  refine (CF.out _).mono ?_
  rintro e w1 ⟨rfl, rfl⟩
  go_wp2_with fail
  refine (CR.out _).mono ?_
  rintro e w1 ⟨rfl, rfl⟩
  go_wp2_with fail
  obtain ⟨W2, hW2⟩ : ∃ W2, W2 = ((w.alloc (.cells #[.func (.func 44) #[] #[], .slice none 0 0] 164)).alloc (.cells #[.func (.func 91) #[] #[], .slice none 0 0] 238)).alloc (.cells #[.pointer (some ⟨w.heap.size + 1, 0, none⟩)] 145) := ⟨_, rfl⟩
  have hB2 : Below w.heap.size w W2 := by rw [hW2]; exact (((Below.refl _ w).alloc (Nat.le_refl _) _).alloc (by simp) _).alloc (by simp; omega) _
  have hs2 : W2.heap.size = w.heap.size + 3 := by rw [hW2]; simp
  have bf : W2.heap[w.heap.size]? = some (.cells #[.func (.func 44) #[] #[], .slice none 0 0] 164 (0, 0)) := by
    rw [hW2]
    exact ((((Below.refl _ (w.alloc _)).alloc (Nat.le_refl _) _).alloc (by simp) _).block _ (by simp)).trans (World.alloc_heap_new w _)
  have bh : W2.heap[w.heap.size + 1]? = some (.cells #[.func (.func 91) #[] #[], .slice none 0 0] 238 (0, 0)) := by
    rw [hW2]
    have := World.alloc_heap_new (w.alloc (.cells #[.func (.func 44) #[] #[], .slice none 0 0] 164)) (.cells #[.func (.func 91) #[] #[], .slice none 0 0] 238)
    rw [World.size_alloc] at this
    exact (((Below.refl _ ((w.alloc _).alloc _)).alloc (Nat.le_refl _) _).block _ (by simp)).trans this
  have br : W2.heap[w.heap.size + 2]? = some (.cells #[.pointer (some ⟨w.heap.size + 1, 0, none⟩)] 145 (0, 0)) := by
    rw [hW2]
    have := World.alloc_heap_new ((w.alloc (.cells #[.func (.func 44) #[] #[], .slice none 0 0] 164)).alloc (.cells #[.func (.func 91) #[] #[], .slice none 0 0] 238)) (.cells #[.pointer (some ⟨w.heap.size + 1, 0, none⟩)] 145)
    rwa [World.size_alloc, World.size_alloc] at this
  rw [← hW2]
  refine (CT.out W2 (HL.out.below hB2 HL.out.pos)).mono ?_
  rintro e w3 ⟨t, F, rfl, hT, hF, hb3⟩
  have HW2 := hide hW2
  clear hW2 CT CF CR
  go_wp2_with fail
  refine (CM.out _).mono ?_
  rintro e w4 ⟨k, m, rfl, hk, hm, hK, hb4⟩
  have hs3 := hb3.size
  have hb34 : Below w3.heap.size w3 w4 := ((Below.refl _ w3).alloc (Nat.le_refl _) _).trans (hb4.mono (by simp))
  have hb24 : Below W2.heap.size W2 w4 := hb3.trans (hb34.mono hs3)
  simp only [World.size_alloc] at hk hm
  have HN : Hid (NewAt w w.heap.size (w.heap.size + 2) (w.heap.size + 1) t w3.heap.size k m F w4) := hide
    ⟨(hb24.block _ (by omega)).trans bf, (hb24.block _ (by omega)).trans br, (hb24.block _ (by omega)).trans bh, hT.still hb34, (hb4.block _ (by simp)).trans (World.alloc_heap_new w3 _), hK, hB2.trans (hb24.mono (by omega)), Nat.le_refl _, by omega, by omega, fun x hx => by have := hF x hx; omega, by omega, by omega, by omega, ⟨w3, hT, hb34, by omega, by omega⟩, fun x hx => by have := hF x hx; omega⟩
  have HI : Hid (NewI w w.heap.size (w.heap.size + 2) (w.heap.size + 1) t w3.heap.size k m F w4 0 (w4.alloc (.cells (swCells (.slice none 0 0) w.heap.size (w.heap.size + 2) t w3.heap.size k) 76))) := hide
    ⟨HN.out, ⟨_, World.alloc_heap_new w4 _, World.ownsRow_nil _ _ _ _⟩, (Below.refl _ w4).alloc (Nat.le_refl _) _⟩
  clear CM HL hb24 hb34 hb4 hb3 hT hF hK bf bh br hB2 HN HW2
  go_wp2
  go_loopw [19] (fun i wr => ∃ j : Nat, j ≤ n ∧ i = .int .i64 j ∧ Hid (NewI w w.heap.size (w.heap.size + 2) (w.heap.size + 1) t w3.heap.size k m F w4 j wr)) (fun i _ => n - (intOf i).toNat)
  case atStart => exact ⟨0, Nat.zero_le _, rfl, HI⟩
  case round =>
    obtain ⟨j, hj, rfl, hI⟩ := hrel
    clear HI
    obtain ⟨pv, hS, hO⟩ := hI.out.s
    have s0 : wr.cell? ⟨w4.heap.size, 0, none⟩ = some pv := by simp [World.cell?, hS, swCells]
    have hsz := hI.out.lo.size
    have hslt : w4.heap.size < wr.heap.size := lt_of_heap hS
    by_cases hlt : j < n
    · have hji : (j : Int) < n := by omega
      have HS := hide hS
      have HO := hide hO
      clear hS hO
      go_wp2_with (at_builtin; refine wpList_append_own _ rfl _ _ 69 rfl (w4.heap.size + 1) 81 i0 _ 2 16 Tryz.underlying69 hi hz0 hz1 hz2 rfl (by decide) _ _ _ rfl (HO.out.alloc _) ⟨wr.heap.size, 0, none⟩ 1 1 [.int .i64 1, .map none] rfl rfl (World.news_of_block (cs := #[.int .i64 1, .map none]) (t := 81) (fr := (0, 0)) (World.alloc_heap_new wr _)) (by simp [Value.oneCell']) (by unfold maxLen; omega) (by omega) (by simp; omega) ?_; intro v' w2 hown' hgrow _; obtain ⟨g', cap', rfl⟩ := ownsRow_succ hown'; have hb2 : w2.heap[w4.heap.size]? = some (.cells (swCells pv w.heap.size (w.heap.size + 2) t w3.heap.size k) 76 (0, 0)) := (hgrow.block _ (by simp; omega) (fun e => by have := (ownsRow_lt HO.out e.symm).1; omega)).trans (((Below.refl _ wr).alloc (Nat.le_refl _) _).block _ hslt |>.trans HS.out); have c2 : w2.cell? ⟨w4.heap.size, 0, none⟩ = some pv := (by simp [World.cell?, hb2, swCells]); have f2 : w2.frozen? ⟨w4.heap.size, 0, none⟩ = false := (by simp [World.frozen?, hb2]))
      have hrow : rowQ (List.replicate j (1, .map none)) ++ [.int .i64 1, .map none] = rowQ (List.replicate (j + 1) (1, .map none)) := by rw [List.replicate_succ', rowQ_append]; rfl
      rw [hrow] at hown'
      have hlo : Below w4.heap.size w4 w2 := (hI.out.lo.alloc hsz _).grown hgrow (by simp; omega) (fun x hx => by have := (ownsRow_lt HO.out hx).1; omega)
      have HN : Hid (NewI w w.heap.size (w.heap.size + 2) (w.heap.size + 1) t w3.heap.size k m F w4 (j + 1) (w2.setCell ⟨w4.heap.size, 0, none⟩ (.slice (some ⟨g', 0, none⟩) (j + 1) cap'))) := hide
        ⟨hI.out.n, ⟨_, (heap_setCell_same _ _ 0 _ _ _ hb2).trans (by simp [swCells]), ownsRow_blk hown' fun b hb => heap_setCell_other _ _ _ _ (fun (e : b = w4.heap.size) => by have := (ownsRow_lt hown' hb).1; omega)⟩, hlo.setCell (Nat.le_refl _) _⟩
      clear hown' hgrow hlo hb2
      go_roundw
      case rel => exact ⟨j + 1, by omega, by go_num, HN⟩
      case measure => simp [intOf]; omega
    · obtain rfl : j = n := by omega
      go_wp2
      go_ret2
      exact ⟨_, _, _, _, _, _, _, _, _, rfl, hI.out⟩
end Go.Proofs.YtaejpejfmpbinaaGreatDoor

namespace Go.Proofs.YtaejpejfmpbinaaGreatDoor
open Go.RowKit Go.Maps

set_option maxRecDepth 100000 in
theorem sTick_any (s k m : Nat) (sv : Value) (K : List Mc) (sec : Int) (w : World) (h5 : w.cell? ⟨s, 5, none⟩ = some (.pointer (some ⟨k, 0, none⟩))) (h : KnownAt w k m sv K) (hn : K.length ≤ 199) (hsec : 0 ≤ sec ∧ sec ≤ 1000000) (hy : ∀ e ∈ K, Young e) :
    Calls Tryz.prog 11 #[.pointer (some ⟨s, 0, none⟩), .int .i64 sec] w fun e w' => e = .returned (.int .i64 0) ∧ ∃ m' sv', KnownAt w' k m' sv' (tickL sec K) ∧ w.heap.size ≤ m' ∧ (∀ b, sv'.ownBlock = some b → w.heap.size ≤ b) ∧ Chg (fun b => b = k) w w' := by
  have C := hide (mTick_any k m sv K sec w h hn hsec hy)
  have a1 : ¬ sec < 0 := by omega
  have a2 : ¬ (1000000 : Int) < sec := by omega
  clear h hy hsec
  go_enter Tryz.func11, Tryz.ntmps11
  go_wp2_with fail
  refine C.out.mono ?_
  rintro e w1 ⟨rfl, h1⟩
  have H1 := hide h1
  clear h1 C
  go_wp2
  go_ret
  exact ⟨rfl, H1.out⟩

set_option maxRecDepth 100000 in
theorem sTick_no (s : Nat) (sec : Int) (w : World) (hsec : ¬ (0 ≤ sec ∧ sec ≤ 1000000)) :
    Calls Tryz.prog 11 #[.pointer (some ⟨s, 0, none⟩), .int .i64 sec] w fun e w' => e = .returned (.int .i64 9) ∧ w' = w := by
  by_cases a1 : sec < 0
  · clear hsec
    go_enter Tryz.func11, Tryz.ntmps11
    go_wp2
    go_ret
    exact ⟨rfl, rfl⟩
  · have a2 : (1000000 : Int) < sec := by omega
    clear hsec
    go_enter Tryz.func11, Tryz.ntmps11
    go_wp2
    go_ret
    exact ⟨rfl, rfl⟩

set_option maxRecDepth 100000 in
theorem sMacs_any (s k m : Nat) (sv : Value) (K : List Mc) (w : World) (h5 : w.cell? ⟨s, 5, none⟩ = some (.pointer (some ⟨k, 0, none⟩))) (h : KnownAt w k m sv K) :
    Calls Tryz.prog 12 #[.pointer (some ⟨s, 0, none⟩)] w fun e w' => ∃ g cap, e = .returned (.slice (some ⟨g, 0, none⟩) K.length cap) ∧ w'.ownsRow w.heap.size 134 4 (.slice (some ⟨g, 0, none⟩) K.length cap) K.length (rowP K) ∧ Below w.heap.size w w' := by
  have C := hide (mAll_any k m sv K w h)
  clear h
  go_enter Tryz.func12, Tryz.ntmps12
  go_wp2_with fail
  refine C.out.mono ?_
  rintro e w1 ⟨g, cap, rfl, h1, h2⟩
  have H1 := hide h1
  have H2 := hide h2
  clear h1 h2 C
  go_wp2
  go_ret
  exact ⟨g, cap, rfl, H1.out, H2.out⟩
end Go.Proofs.YtaejpejfmpbinaaGreatDoor

namespace Go.Proofs.YtaejpejfmpbinaaGreatDoor
open Go.RowKit

/-- What pick answers. -/
def pickV (c n : Int) : Int := (if c < 0 then -(c + 1) else c).tmod n
theorem pickV_range (c : Int) {n : Int} (hn : 0 < n) : 0 ≤ pickV c n ∧ pickV c n < n := by
  unfold pickV
  have h : 0 ≤ (if c < 0 then -(c + 1) else c) := by split <;> omega
  generalize (if c < 0 then -(c + 1) else c) = d at h
  rw [Int.tmod_eq_emod_of_nonneg h]
  exact ⟨Int.emod_nonneg _ (by omega), Int.emod_lt_of_pos _ hn⟩

set_option maxHeartbeats 1000000 in
theorem pick_any (c n : Int) (w : World) (h1 : -9223372036854775808 ≤ c) (h2 : c ≤ 9223372036854775807) (hn : 0 < n) (hn2 : n ≤ 9223372036854775807) :
    Calls Tryz.prog 8 #[.int .i64 c, .int .i64 n] w fun e w' => e = .returned (.int .i64 (pickV c n)) ∧ w' = w := by
  have hn0 : ¬ (n = 0) := by omega
  have hr := pickV_range c hn
  unfold pickV at hr ⊢
  by_cases hc : c < 0
  · rw [if_pos hc] at hr ⊢
    have e1 : IntKind.i64.wrap (c + 1) = c + 1 := by rw [IntKind.wrap_i64]; omega
    have e2 : IntKind.i64.wrap (-(c + 1)) = -(c + 1) := by rw [IntKind.wrap_i64]; omega
    have e3 : IntKind.i64.wrap ((-(c + 1)).tmod n) = (-(c + 1)).tmod n := by rw [IntKind.wrap_i64]; omega
    obtain ⟨d, hd⟩ : ∃ d, d = -(c + 1) := ⟨_, rfl⟩
    rw [← hd] at e2 e3 hr ⊢
    go_enter Tryz.func8, Tryz.ntmps8
    go_wp2
    go_ret
    simp [← hd]
    rw [hd, Int.neg_tmod]
  · rw [if_neg hc] at hr ⊢
    have e3 : IntKind.i64.wrap (c.tmod n) = c.tmod n := by rw [IntKind.wrap_i64]; omega
    go_enter Tryz.func8, Tryz.ntmps8
    go_wp2
    go_ret
    simp
    exact (Int.tmod_eq_emod_of_nonneg hc).symm

end Go.Proofs.YtaejpejfmpbinaaGreatDoor

namespace Go.Proofs.YtaejpejfmpbinaaGreatDoor
open Go.RowKit

/-- A MAC of a number. -/
def macL (n : Int) : List UInt8 := [2, 109, 97, 99, UInt8.ofNat (n / 256 % 256).toNat, UInt8.ofNat (n % 256).toNat]
theorem macL_length (n : Int) : (macL n).length = 6 := rfl
theorem macL_inj {a b : Int} (ha : 0 ≤ a ∧ a < 65536) (hb : 0 ≤ b ∧ b < 65536) (h : macL a = macL b) : a = b := by
  simp only [macL, List.cons.injEq, true_and, and_true] at h
  have h1 := congrArg UInt8.toNat h.1
  have h2 := congrArg UInt8.toNat h.2
  simp only [UInt8.toNat_ofNat'] at h1 h2
  omega
theorem mac_grp (n : Int) : isGrp (ofL (macL n)) = false := by
  unfold isGrp
  rw [dif_pos (by rw [ofL_size, macL_length]; omega)]
  rw [ofL_get]
  show (((2 : UInt8).toNat % 2 == 1) = false)
  decide

set_option maxRecDepth 100000 in
set_option maxHeartbeats 1000000 in
theorem kmac_any (n : Int) (w : World) (h0 : 0 ≤ n) (h1 : n ≤ 9223372036854775807) : Calls Tryz.prog 10 #[.int .i64 n] w fun e w' => e = .returned (.string (ofL (macL n))) ∧ Below w.heap.size w w' := by
  have hcv := conv2 (w.alloc (.cells #[.int .u8 (n / 256 % 256), .int .u8 (n % 256)] 5)) w.heap.size (n / 256 % 256) (n % 256) (by omega) (by omega) (cellRow (allocN _ _) rfl) (cellRow (allocN _ _) rfl)
  have hd : (ofL (macL n)) = ⟨#[2, 109, 97, 99]⟩ ++ ⟨#[UInt8.ofNat (n / 256 % 256).toNat, UInt8.ofNat (n % 256).toNat]⟩ := by
    show _ = ofL [2, 109, 97, 99] ++ ofL [UInt8.ofNat (n / 256 % 256).toNat, UInt8.ofNat (n % 256).toNat]
    rw [ofL_append]; rfl
  rw [hd]
  have HD := hide hd
  clear hd
  go_enter Tryz.func10, Tryz.ntmps10
  go_wp2
  all_goals go_ret
  all_goals exact ⟨rfl, (Below.refl _ w).alloc (Nat.le_refl _) _⟩

theorem frame_plain {P : List Prt} {K K' : List Mc} {port r : Int} {d : ByteArray} {L : List (Int × ByteArray)} (h : FrameR P K id (fun _ => none) .inr port d r L K') (hp : 0 ≤ port ∧ port < P.length) (hr : fateRead d = -1) {f : Fr} (hf : readF d = some f) (hb : barredAt (pAt P port.toNat) f = false) :
    LearnK K ⟨(pIn P port d f).f.vlan, f.fr, port, 0⟩ K' ∧ L = fwdO P (pIn P port d f) (portOf (known K' (pIn P port d f).f.vlan f.to)) (known K' (pIn P port d f).f.vlan f.to).isSome P.length ∧ r = if L.length = 0 then 8 else 0 := by
  cases h with
  | unknown h => exact absurd hp h
  | bad _ h => exact absurd hr h
  | barred f' _ _ hf' hb' =>
    rw [hf] at hf'
    cases hf'
    rw [hb] at hb'
    cases hb'
  | judged f' K2 r2 L2 _ _ _ _ _ hj => cases hj
  | stopped f' K2 r2 _ _ _ _ _ _ ho => cases ho
  | out f' K2 q _ _ hf' _ hl _ ho =>
    rw [hf] at hf'
    cases hf'
    cases ho
    exact ⟨hl, rfl, rfl⟩

theorem fate_plain (to fr rest : List UInt8) (a b : UInt8) (ht : to.length = 6) (hf : fr.length = 6) (hk : ¬ (a = 129 ∧ b = 0)) (hl : rest.length ≤ 500) (hg : isGrp (ofL fr) = false) : fateRead (ofL (to ++ fr ++ [a, b] ++ rest)) = -1 := by
  unfold fateRead
  rw [if_neg (by rw [ofL_size]; simp; omega), read_plain to fr rest a b ht hf hk]
  show (if isGrp (ofL fr) = true then (2 : Int) else -1) = -1
  rw [hg]; rfl
theorem kind_plain (to fr rest : List UInt8) (a b : UInt8) (ht : to.length = 6) (hf : fr.length = 6) (hk : ¬ (a = 129 ∧ b = 0)) (hk2 : ¬ (a = 8 ∧ b = 0)) : ∀ f, readF (ofL (to ++ fr ++ [a, b] ++ rest)) = some f → (kind2 f.ty == 2) = false := by
  intro f h
  rw [read_plain to fr rest a b ht hf hk] at h
  cases h
  show (kind2 (ofL [a, b]) == 2) = false
  have h1 : ((⟨#[8, 0]⟩ : ByteArray).toList == [a, b]) = false := by
    rw [show (⟨#[8, 0]⟩ : ByteArray) = ofL [8, 0] from rfl, ofL_toList]
    simp only [beq_eq_false_iff_ne, ne_eq, List.cons.injEq, and_true]
    rintro ⟨rfl, rfl⟩
    exact hk2 ⟨rfl, rfl⟩
  unfold kind2 kindN
  rw [ofL_toList, h1]
  simp only [Bool.false_eq_true, if_false]
  split <;> rfl

/-- Four ports of one VLAN. -/
def P4 : List Prt := List.replicate 4 ⟨1, fun _ => false⟩
theorem pAt_P4 {j : Nat} (h : j < 4) : pAt P4 j = ⟨1, fun _ => false⟩ := by
  rw [pAt_eq (show j < P4.length from h)]
  exact List.getElem_replicate _
/-- Where a frame goes out of four. -/
def to4 (port bh : Int) (kn : Bool) : List Nat := (List.range 4).filter fun j => ((j : Int) != port) && ((j : Int) == bh || !kn)
theorem fwd_P4 (q : Pg) (bh : Int) (kn : Bool) (hv : q.f.vlan = 1) (hr : q.routed = false) : fwdO P4 q bh kn 4 = (to4 q.port bh kn).map fun (j : Nat) => ((j : Int), q.f.to ++ q.f.fr ++ q.f.ty ++ q.f.rest) := by
  have e : ∀ j : Nat, j < 4 → (if goesTo q bh kn j && hasV (pAt P4 j) q.f.vlan then [((j : Int), outF (pAt P4 j) q.f)] else []) = if (((j : Int) != q.port) && ((j : Int) == bh || !kn)) = true then [((j : Int), q.f.to ++ q.f.fr ++ q.f.ty ++ q.f.rest)] else [] := by
    intro j hj
    rw [pAt_P4 hj]
    have h1 : hasV ⟨1, fun _ => false⟩ q.f.vlan = true := by rw [hv]; rfl
    have h2 : goesTo q bh kn j = (((j : Int) != q.port) && ((j : Int) == bh || !kn)) := by unfold goesTo; rw [hr, Bool.or_false]
    rw [h1, h2, Bool.and_true, out_plain _ _ hv]
  unfold fwdO to4
  rw [show List.range 4 = [0, 1, 2, 3] from rfl]
  simp only [List.flatMap_cons, List.flatMap_nil, List.append_nil]
  rw [e 0 (by omega), e 1 (by omega), e 2 (by omega), e 3 (by omega)]
  simp only [List.filter_cons, List.filter_nil]
  cases hA : (((0 : Nat) : Int) != q.port && (((0 : Nat) : Int) == bh || !kn)) <;> cases hB : (((1 : Nat) : Int) != q.port && (((1 : Nat) : Int) == bh || !kn)) <;> cases hC : (((2 : Nat) : Int) != q.port && (((2 : Nat) : Int) == bh || !kn)) <;> cases hD : (((3 : Nat) : Int) != q.port && (((3 : Nat) : Int) == bh || !kn)) <;> rfl
end Go.Proofs.YtaejpejfmpbinaaGreatDoor
