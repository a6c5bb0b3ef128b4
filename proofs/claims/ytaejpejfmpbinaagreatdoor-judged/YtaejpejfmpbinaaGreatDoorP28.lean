import Derived.Test.YtaejpejfmpbinaaGreatDoorP27
import Derived.Test.YtaejpejfmpbinaaGreatDoorP26
import Derived.Test.YtaejpejfmpbinaaGreatDoorP22
import Derived.Test.YtaejpejfmpbinaaGreatDoorP25
import Derived.Test.YtaejpejfmpbinaaGreatDoorP24
namespace Go.Proofs.YtaejpejfmpbinaaGreatDoor
open Go.RowKit
open Go.Sort (grow)

set_option maxRecDepth 100000 in
set_option maxHeartbeats 1000000 in
theorem find_none (t : Nat) (x0 x1 x2 x3 x4 : Int) (w : World) (hl : Laid w) (hk : keyB x0 x1 x2 x3 x4 = false) :
    Calls Tryz.prog 55 #[.pointer (some ⟨t, 0, none⟩), .agg #[.int .i64 x0, .int .i64 x1, .int .i64 x2, .int .i64 x3, .int .i64 x4]] w fun e w' => e = .returned (.tuple #[.int .i64 0, .int .i64 4]) ∧ Below w.heap.size w w' := by
  go_enter Tryz.func55, Tryz.ntmps55
  go_wp2_with fail
  refine (isKey_any _ _ _ _ _ _ (hl.below ((Below.refl _ _).alloc (Nat.le_refl _) _) hl.pos)).mono ?_
  rintro e w1 ⟨rfl, hb1⟩
  rw [hk]
  go_wp2
  go_ret2
  exact ⟨rfl, Below.trans (by repeat (first | exact Below.refl _ _ | assumption | refine Below.drewN ?_ | refine Below.drew ?_ | refine Below.setCell ?_ (by first | exact Nat.le_refl _ | omega | (simp; done) | (simp; omega)) _ | refine Below.alloc ?_ (by first | exact Nat.le_refl _ | omega | (simp; done) | (simp; omega)) _)) (hb1.mono (by first | exact Nat.le_refl _ | omega | (simp; done) | (simp; omega)))⟩

/-- What Find answers: the rule's ID and 0; 0 and 7, if there is none; 0 and 4, if the key is none. -/
def FindIs (L : List Ent) (x0 x1 x2 x3 x4 : Int) (a b : Int) : Prop :=
  if keyB x0 x1 x2 x3 x4 = true then ∃ res, Foremost (fun e => e ∈ L) x0 x1 x2 x3 x4 res ∧ a = (match res with | some r => r.2.id | none => 0) ∧ b = (match res with | some _ => 0 | none => 7) else a = 0 ∧ b = 4

theorem tfind_any (t : Nat) (x0 x1 x2 x3 x4 : Int) (w : World) (F : Nat → Prop) (L : List Ent) (h : TabIs w t F L) :
    Calls Tryz.prog 55 #[.pointer (some ⟨t, 0, none⟩), .agg #[.int .i64 x0, .int .i64 x1, .int .i64 x2, .int .i64 x3, .int .i64 x4]] w fun e w' => ∃ a b, e = .returned (.tuple #[.int .i64 a, .int .i64 b]) ∧ FindIs L x0 x1 x2 x3 x4 a b ∧ Below w.heap.size w w' := by
  obtain ⟨b1, b2, sv1, sv2, LI, T, hm, hlen, rfl⟩ := h
  by_cases hk : keyB x0 x1 x2 x3 x4 = true
  · have hex : ∀ h : Nat, ∃ tb, h < 6 → w.cell? ⟨t, 2 + h, none⟩ = some (.pointer (some ⟨tb, 0, none⟩)) ∧ TreeAt w 12 tb (flt h L) := fun h => by
      by_cases hh : h < 6
      · obtain ⟨tb, c⟩ := T.tree h hh
        exact ⟨tb, fun _ => c⟩
      · exact ⟨0, fun h => absurd h hh⟩
    have := Classical.axiomOfChoice hex
    obtain ⟨tb, htb⟩ := this
    refine (find_key t x0 x1 x2 x3 x4 w T.laid hk tb (fun h => flt h L) (fun h hh => (htb h hh).1) (fun h hh => ⟨(htb h hh).2, T.sR.filter _, Nat.le_trans (List.length_filter_le _ _) T.mR.2.2.2.2, fun e he => T.ent e (List.mem_filter.1 he).1⟩)).mono ?_
    rintro e w' ⟨res, hf, rfl, hb⟩
    refine ⟨_, _, rfl, ?_, hb⟩
    unfold FindIs
    rw [if_pos hk]
    refine ⟨res, hf.congr fun e => ⟨fun ⟨h, _, he⟩ => (List.mem_filter.1 he).1, fun he => ?_⟩, rfl, rfl⟩
    obtain ⟨k, hk6, hk⟩ := home_nat e.2
    exact ⟨k, hk6, List.mem_filter.2 ⟨he, by simp [hk]⟩⟩
  · have hk' : keyB x0 x1 x2 x3 x4 = false := by simpa using hk
    refine (find_none t x0 x1 x2 x3 x4 w T.laid hk').mono ?_
    rintro e w' ⟨rfl, hb⟩
    refine ⟨0, 4, rfl, ?_, hb⟩
    unfold FindIs
    rw [if_neg hk]
    exact ⟨rfl, rfl⟩

/-- A table that is being made: k of its trees have been grown. -/
structure Pre (w : World) (t b1 b2 k : Nat) : Prop where
  laid : Laid w
  c0 : w.cell? ⟨t, 0, none⟩ = some (.pointer (some ⟨b1, 0, none⟩))
  c1 : w.cell? ⟨t, 1, none⟩ = some (.pointer (some ⟨b2, 0, none⟩))
  tf : ∀ j, w.frozen? ⟨t, j, none⟩ = false
  mI : MapI w b1 (.slice none 0 0) []
  mR : MapR w b2 (.slice none 0 0) []
  raw : ∀ h, h < 6 → ∃ p, w.cell? ⟨t, 2 + h, none⟩ = some (.pointer p)
  tree : ∀ h, h < k → ∃ tb, w.cell? ⟨t, 2 + h, none⟩ = some (.pointer (some ⟨tb, 0, none⟩)) ∧ TreeAt w 12 tb []

theorem headI_nil (w : World) : HeadI w (.slice none 0 0) := fun _ h => by cases h
theorem headR_nil (w : World) : HeadR w (.slice none 0 0) := fun _ h => by cases h

theorem Pre.regrow {w : World} {t b1 b2 k : Nat} (h : Pre w t b1 b2 k) (hk : k < 6) :
    Calls Tryz.prog 87 #[.pointer (some ⟨t, 0, none⟩), .int .i64 k] w fun e w' => e = .returned (.tuple #[]) ∧ Pre w' t b1 b2 (k + 1) ∧ Chg (fun x => x = t) w w' := by
  have hF : Foreign w t := .inl ⟨b1, _, _, _, _, h.c0, h.c1, h.mI.1⟩
  have hX : ∀ x, x = t → Foreign w x := fun x hx => hx ▸ hF
  have n1 : b1 ≠ t := by
    rintro rfl
    have := h.mI.1
    rw [h.c0] at this; cases this
  have n2 : b2 ≠ t := by
    rintro rfl
    have := h.mR.1
    rw [h.c0] at this; cases this
  refine (regrow_any t b2 k hk (.slice none 0 0) w h.laid [] (by simp) h.c1 h.mR.2.1 ⟨none, 0, rfl, fun j hj => by simp at hj⟩ (h.raw k hk) h.tf hF).mono ?_
  rintro e w' ⟨rfl, b, hT, hb, hc, hf⟩
  refine ⟨rfl, ⟨h.laid.kept hb.block hX, (hc 0).trans ((if_neg (by omega)).trans h.c0), (hc 1).trans ((if_neg (by omega)).trans h.c1), fun j => (hf j).trans (h.tf j), h.mI.chg (headI_nil w) hb n1 (fun g hg => by cases hg), h.mR.chg (headR_nil w) hb n2 (fun g hg => by cases hg), fun j hj => ?_, fun j hj => ?_⟩, hb⟩
  · by_cases hjk : j = k
    · exact ⟨_, (hc _).trans (if_pos (by omega))⟩
    · obtain ⟨p, c⟩ := h.raw j hj
      exact ⟨p, (hc _).trans ((if_neg (by omega)).trans c)⟩
  · by_cases hjk : j = k
    · exact ⟨b, (hc _).trans (if_pos (by omega)), hT⟩
    · obtain ⟨tb, c, T⟩ := h.tree j (by omega)
      exact ⟨tb, (hc _).trans ((if_neg (by omega)).trans c), T.kept hb.block hX⟩

theorem Pre.done {w : World} {t b1 b2 : Nat} (h : Pre w t b1 b2 6) : TabIs w t (Mine t b1 b2 (.slice none 0 0) (.slice none 0 0)) [] :=
  ⟨b1, b2, .slice none 0 0, .slice none 0 0, [], ⟨h.laid, h.c0, h.c1, h.tf, h.mI, List.Pairwise.nil, headI_nil w, h.mR, List.Pairwise.nil, headR_nil w, (fun e he => by cases he), h.tree⟩, fun _ => Iff.rfl, rfl, rfl⟩

theorem Pre.start (w : World) (hl : Laid w) (t1 t2 t3 : TypeId) : Pre (((w.alloc (.cells #[.func (.func 44) #[] #[], .slice none 0 0] t1)).alloc (.cells #[.func (.func 94) #[] #[], .slice none 0 0] t2)).alloc (.cells #[.pointer (some ⟨w.heap.size, 0, none⟩), .pointer (some ⟨w.heap.size + 1, 0, none⟩), .pointer none, .pointer none, .pointer none, .pointer none, .pointer none, .pointer none] t3)) (w.heap.size + 1 + 1) w.heap.size (w.heap.size + 1) 0 := by
  obtain ⟨W1, h1⟩ : ∃ W1, W1 = w.alloc (.cells #[.func (.func 44) #[] #[], .slice none 0 0] t1) := ⟨_, rfl⟩
  rw [← h1]
  have s1 : W1.heap.size = w.heap.size + 1 := by rw [h1]; exact alloc_size _ _
  have n1 : W1.heap[w.heap.size]? = some (.cells #[.func (.func 44) #[] #[], .slice none 0 0] t1 (0, 0)) := by rw [h1]; exact alloc_new _ _
  have b1 : Below w.heap.size w W1 := by rw [h1]; exact (Below.refl _ w).alloc (Nat.le_refl _) _
  obtain ⟨W2, h2⟩ : ∃ W2, W2 = W1.alloc (.cells #[.func (.func 94) #[] #[], .slice none 0 0] t2) := ⟨_, rfl⟩
  rw [← h2]
  have s2 : W2.heap.size = w.heap.size + 1 + 1 := by rw [h2, alloc_size, s1]
  have n2 : W2.heap[w.heap.size + 1]? = some (.cells #[.func (.func 94) #[] #[], .slice none 0 0] t2 (0, 0)) := by rw [h2, ← s1]; exact alloc_new _ _
  have b2 : Below W1.heap.size W1 W2 := by rw [h2]; exact (Below.refl _ W1).alloc (Nat.le_refl _) _
  obtain ⟨W3, h3⟩ : ∃ W3, W3 = W2.alloc (.cells #[.pointer (some ⟨w.heap.size, 0, none⟩), .pointer (some ⟨w.heap.size + 1, 0, none⟩), .pointer none, .pointer none, .pointer none, .pointer none, .pointer none, .pointer none] t3) := ⟨_, rfl⟩
  rw [← h3]
  have n3 : W3.heap[w.heap.size + 1 + 1]? = some (.cells #[.pointer (some ⟨w.heap.size, 0, none⟩), .pointer (some ⟨w.heap.size + 1, 0, none⟩), .pointer none, .pointer none, .pointer none, .pointer none, .pointer none, .pointer none] t3 (0, 0)) := by rw [h3, ← s2]; exact alloc_new _ _
  have b3 : Below W2.heap.size W2 W3 := by rw [h3]; exact (Below.refl _ W2).alloc (Nat.le_refl _) _
  have m1 : W3.heap[w.heap.size]? = some (.cells #[.func (.func 44) #[] #[], .slice none 0 0] t1 (0, 0)) := (b3.block _ (by omega)).trans ((b2.block _ (by omega)).trans n1)
  have m2 : W3.heap[w.heap.size + 1]? = some (.cells #[.func (.func 94) #[] #[], .slice none 0 0] t2 (0, 0)) := (b3.block _ (by omega)).trans n2
  have fr : ∀ {b : Nat} {cs : Array Value} {t : TypeId}, W3.heap[b]? = some (.cells cs t (0, 0)) → ∀ j, W3.frozen? ⟨b, j, none⟩ = false := fun h j => by simp [World.frozen?, h]
  refine ⟨((hl.below b1 hl.pos).below b2 (by omega)).below b3 (by omega), cell_in_row n3 rfl, cell_in_row n3 rfl, fr n3, ⟨cell_in_row m1 rfl, cell_in_row m1 rfl, ⟨rfl, .inl ⟨rfl, rfl⟩⟩, fr m1, by simp⟩, ⟨cell_in_row m2 rfl, cell_in_row m2 rfl, ⟨rfl, .inl ⟨rfl, rfl⟩⟩, fr m2, by simp⟩, fun h hh => ?_, fun h hh => absurd hh (by omega)⟩
  match h, hh with
  | 0, _ => exact ⟨_, cell_in_row n3 rfl⟩
  | 1, _ => exact ⟨_, cell_in_row n3 rfl⟩
  | 2, _ => exact ⟨_, cell_in_row n3 rfl⟩
  | 3, _ => exact ⟨_, cell_in_row n3 rfl⟩
  | 4, _ => exact ⟨_, cell_in_row n3 rfl⟩
  | 5, _ => exact ⟨_, cell_in_row n3 rfl⟩
  | n + 6, h => exact absurd h (by omega)

set_option maxRecDepth 100000 in
set_option maxHeartbeats 1000000 in
theorem tnew_any (w : World) (hl : Laid w) :
    Calls Tryz.prog 46 #[] w fun e w' => ∃ t F, e = .returned (.pointer (some ⟨t, 0, none⟩)) ∧ TabIs w' t F [] ∧ (∀ x, F x → w.heap.size ≤ x) ∧ Below w.heap.size w w' := by
  have HP := hide (Pre.start w hl 219 227 154)
  clear hl
  go_enter Tryz.func46, Tryz.ntmps46
  go_wp2_with (first | (go_at_call 92; refine (newI_any _).mono ?_; rintro e w' ⟨rfl, rfl⟩) | (go_at_call 93; refine (newR_any _).mono ?_; rintro e w' ⟨rfl, rfl⟩))
  go_loopw [7] (fun i wr => ∃ k : Nat, k ≤ 6 ∧ i = .int .i64 k ∧ Below w.heap.size w wr ∧ Pre wr (w.heap.size + 1 + 1) w.heap.size (w.heap.size + 1) k) (fun i _ => 6 - (intOf i).toNat)
  case atStart => exact ⟨0, by omega, rfl, (by repeat (first | exact Below.refl _ _ | assumption | refine Below.drewN ?_ | refine Below.drew ?_ | refine Below.setCell ?_ (by first | exact Nat.le_refl _ | omega | (simp; done) | (simp; omega)) _ | refine Below.alloc ?_ (by first | exact Nat.le_refl _ | omega | (simp; done) | (simp; omega)) _)), HP.out⟩
  case round =>
    obtain ⟨k, hk, rfl, hb, hp⟩ := hrel
    by_cases hk6 : k < 6
    · have CR := hide (hp.regrow hk6)
      have hki : (k : Int) < 6 := by omega
      have HB := hide hb
      clear hb hp HP
      go_wp2_with (first | (go_at_call 87; refine CR.out.mono ?_; rintro e w2 ⟨rfl, hP2, hC2⟩; have P2 := hide hP2; have C2 := hide hC2; clear hP2 hC2))
      go_roundw
      case rel => exact ⟨k + 1, by omega, by go_num, HB.out.trans (C2.out.below HB.out.size (fun x hx => by omega)), P2.out⟩
      case measure => simp [intOf]; omega
    · obtain rfl : k = 6 := by omega
      have HPP := hide hp
      have HB := hide hb
      clear hb hp HP
      go_wp2
      go_ret
      refine ⟨_, _, rfl, HPP.out.done, ?_, HB.out⟩
      rintro x (h | (h | h) | (h | h))
      · omega
      · omega
      · cases h
      · omega
      · cases h

end Go.Proofs.YtaejpejfmpbinaaGreatDoor

namespace Go.Proofs.YtaejpejfmpbinaaGreatDoor
open Go.RowKit Go.Maps

theorem newFc_any (w : World) : Calls Tryz.prog 43 #[.func (.func 44) #[] #[]] w fun e w' => e = .returned (.pointer (some ⟨w.heap.size, 0, none⟩)) ∧ w' = w.alloc (.cells #[.func (.func 44) #[] #[], .slice none 0 0] 164) := by
  go_enter Tryz.func43, Tryz.ntmps43
  go_wp2
  go_ret
  exact ⟨rfl, rfl⟩
theorem newH_any (w : World) : Calls Tryz.prog 90 #[.func (.func 91) #[] #[]] w fun e w' => e = .returned (.pointer (some ⟨w.heap.size, 0, none⟩)) ∧ w' = w.alloc (.cells #[.func (.func 91) #[] #[], .slice none 0 0] 238) := by
  go_enter Tryz.func90, Tryz.ntmps90
  go_wp2
  go_ret
  exact ⟨rfl, rfl⟩
theorem rNew_any (w : World) : Calls Tryz.prog 45 #[] w fun e w' => e = .returned (.pointer (some ⟨w.heap.size + 1, 0, none⟩)) ∧ w' = (w.alloc (.cells #[.func (.func 91) #[] #[], .slice none 0 0] 238)).alloc (.cells #[.pointer (some ⟨w.heap.size, 0, none⟩)] 145) := by
  have C := hide (newH_any w)
  go_enter Tryz.func45, Tryz.ntmps45
  go_wp2_with fail
  refine C.out.mono ?_
  rintro e w1 ⟨rfl, rfl⟩
  go_wp2
  go_ret
  exact ⟨rfl, rfl⟩

/-- The cells of a switch. -/
def swCells (pv : Value) (fb rb t vb k : Nat) : Array Value := #[pv, .pointer (some ⟨fb, 0, none⟩), .pointer (some ⟨rb, 0, none⟩), .pointer (some ⟨t, 0, none⟩), .map (some vb), .pointer (some ⟨k, 0, none⟩)]

/-- All that a new switch has but its ports. -/
structure NewAt (w : World) (fb rb hb t vb k m : Nat) (F : Nat → Prop) (W : World) : Prop where
  nf : W.heap[fb]? = some (.cells #[.func (.func 44) #[] #[], .slice none 0 0] 164 (0, 0))
  nr : W.heap[rb]? = some (.cells #[.pointer (some ⟨hb, 0, none⟩)] 145 (0, 0))
  nh : W.heap[hb]? = some (.cells #[.func (.func 91) #[] #[], .slice none 0 0] 238 (0, 0))
  nt : TabIs W t F []
  nv : W.heap[vb]? = some (.map #[] 0)
  nk : KnownAt W k m (.slice none 0 0) []
  lo : Below w.heap.size w W
  lf : w.heap.size ≤ fb
  lr : w.heap.size ≤ rb
  lh : w.heap.size ≤ hb
  lt : ∀ x, F x → w.heap.size ≤ x
  lv : w.heap.size ≤ vb
  lk : w.heap.size ≤ k
  lm : w.heap.size ≤ m
  tw : ∃ W0, TabIs W0 t F [] ∧ Below W0.heap.size W0 W ∧ W0.heap.size ≤ k ∧ W0.heap.size ≤ m
  lg : ∀ x, F x → fb < x
theorem NewAt.below {w W W' : World} {fb rb hb t vb k m : Nat} {F : Nat → Prop} (h : NewAt w fb rb hb t vb k m F W) (hq : Below W.heap.size W W') : NewAt w fb rb hb t vb k m F W' :=
  ⟨(hq.block _ (lt_of_heap h.nf)).trans h.nf, (hq.block _ (lt_of_heap h.nr)).trans h.nr, (hq.block _ (lt_of_heap h.nh)).trans h.nh, h.nt.still hq, (hq.block _ (lt_of_heap h.nv)).trans h.nv, h.nk.below hq, h.lo.trans (hq.mono h.lo.size), h.lf, h.lr, h.lh, h.lt, h.lv, h.lk, h.lm, h.tw.imp (fun _ ⟨a, b, c⟩ => ⟨a, b.trans (hq.mono b.size), c⟩), h.lg⟩

/-- While the ports are made. -/
structure NewI (w : World) (fb rb hb t vb k m : Nat) (F : Nat → Prop) (Wb : World) (j : Nat) (W : World) : Prop where
  n : NewAt w fb rb hb t vb k m F Wb
  s : ∃ pv, W.heap[Wb.heap.size]? = some (.cells (swCells pv fb rb t vb k) 76 (0, 0)) ∧ W.ownsRow (Wb.heap.size + 1) 81 2 pv j (rowQ (List.replicate j (1, .map none)))
  lo : Below Wb.heap.size Wb W

theorem infoPort : (Tryz.prog.info? 81).map (fun i => (i.zero, i.size, i.bytes)) = some (some (.agg #[.int .i64 0, .map none]), 2, 16) := by kernel_rfl

set_option maxRecDepth 100000 in
set_option maxHeartbeats 2000000 in
theorem sNew_any (n : Nat) (w : World) (hn : 1 ≤ n) (hn8 : n ≤ 8) (hl : Laid w) :
    Calls Tryz.prog 20 #[.int .i64 n] w fun e w' => ∃ fb rb hb t vb k m F Wb, e = .returned (.tuple #[.pointer (some ⟨Wb.heap.size, 0, none⟩), .int .i64 0]) ∧ NewI w fb rb hb t vb k m F Wb n w' := by
  have CF := hide newFc_any
  have CR := hide rNew_any
  have CT := hide tnew_any
  have CM := hide mNew_any
  obtain ⟨i0, hi, hz0, hz1, hz2⟩ := info_parts infoPort
  have hmm := @run_makeMap Tryz.prog
  have a1 : ¬ (n : Int) < 1 := by omega
  have a2 : ¬ (8 : Int) < n := by omega
  have HL := hide hl
  clear hl
  go_enter Tryz.func20, Tryz.ntmps20
  go_wp2_with fail
  refine (CF.out _).mono ?_
  rintro e w1 ⟨rfl, rfl⟩
  go_wp2_with fail
  refine (CR.out _).mono ?_
  rintro e w1 ⟨rfl, rfl⟩
  go_wp2_with fail
  obtain ⟨W2, hW2⟩ : ∃ W2, W2 = ((w.alloc (.cells #[.func (.func 44) #[] #[], .slice none 0 0] 164)).alloc (.cells #[.func (.func 91) #[] #[], .slice none 0 0] 238)).alloc (.cells #[.pointer (some ⟨w.heap.size + 1, 0, none⟩)] 145) := ⟨_, rfl⟩
  have hB2 : Below w.heap.size w W2 := by rw [hW2]; exact (((Below.refl _ w).alloc (Nat.le_refl _) _).alloc (by simp) _).alloc (by simp; omega) _
  have hs2 : W2.heap.size = w.heap.size + 3 := by rw [hW2]; simp
  have bf : W2.heap[w.heap.size]? = some (.cells #[.func (.func 44) #[] #[], .slice none 0 0] 164 (0, 0)) := by
    rw [hW2]
    exact ((((Below.refl _ (w.alloc _)).alloc (Nat.le_refl _) _).alloc (by simp) _).block _ (by simp)).trans (World.alloc_heap_new w _)
  have bh : W2.heap[w.heap.size + 1]? = some (.cells #[.func (.func 91) #[] #[], .slice none 0 0] 238 (0, 0)) := by
    rw [hW2]
    have := World.alloc_heap_new (w.alloc (.cells #[.func (.func 44) #[] #[], .slice none 0 0] 164)) (.cells #[.func (.func 91) #[] #[], .slice none 0 0] 238)
    rw [World.size_alloc] at this
    exact (((Below.refl _ ((w.alloc _).alloc _)).alloc (Nat.le_refl _) _).block _ (by simp)).trans this
  have br : W2.heap[w.heap.size + 2]? = some (.cells #[.pointer (some ⟨w.heap.size + 1, 0, none⟩)] 145 (0, 0)) := by
    rw [hW2]
    have := World.alloc_heap_new ((w.alloc (.cells #[.func (.func 44) #[] #[], .slice none 0 0] 164)).alloc (.cells #[.func (.func 91) #[] #[], .slice none 0 0] 238)) (.cells #[.pointer (some ⟨w.heap.size + 1, 0, none⟩)] 145)
    rwa [World.size_alloc, World.size_alloc] at this
  rw [← hW2]
  refine (CT.out W2 (HL.out.below hB2 HL.out.pos)).mono ?_
  rintro e w3 ⟨t, F, rfl, hT, hF, hb3⟩
  have HW2 := hide hW2
  clear hW2 CT CF CR
  go_wp2_with fail
  refine (CM.out _).mono ?_
  rintro e w4 ⟨k, m, rfl, hk, hm, hK, hb4⟩
  have hs3 := hb3.size
  have hb34 : Below w3.heap.size w3 w4 := ((Below.refl _ w3).alloc (Nat.le_refl _) _).trans (hb4.mono (by simp))
  have hb24 : Below W2.heap.size W2 w4 := hb3.trans (hb34.mono hs3)
  simp only [World.size_alloc] at hk hm
  have HN : Hid (NewAt w w.heap.size (w.heap.size + 2) (w.heap.size + 1) t w3.heap.size k m F w4) := hide
    ⟨(hb24.block _ (by omega)).trans bf, (hb24.block _ (by omega)).trans br, (hb24.block _ (by omega)).trans bh, hT.still hb34, (hb4.block _ (by simp)).trans (World.alloc_heap_new w3 _), hK, hB2.trans (hb24.mono (by omega)), Nat.le_refl _, by omega, by omega, fun x hx => by have := hF x hx; omega, by omega, by omega, by omega, ⟨w3, hT, hb34, by omega, by omega⟩, fun x hx => by have := hF x hx; omega⟩
  have HI : Hid (NewI w w.heap.size (w.heap.size + 2) (w.heap.size + 1) t w3.heap.size k m F w4 0 (w4.alloc (.cells (swCells (.slice none 0 0) w.heap.size (w.heap.size + 2) t w3.heap.size k) 76))) := hide
    ⟨HN.out, ⟨_, World.alloc_heap_new w4 _, World.ownsRow_nil _ _ _ _⟩, (Below.refl _ w4).alloc (Nat.le_refl _) _⟩
  clear CM HL hb24 hb34 hb4 hb3 hT hF hK bf bh br hB2 HN HW2
  go_wp2
  go_loopw [19] (fun i wr => ∃ j : Nat, j ≤ n ∧ i = .int .i64 j ∧ Hid (NewI w w.heap.size (w.heap.size + 2) (w.heap.size + 1) t w3.heap.size k m F w4 j wr)) (fun i _ => n - (intOf i).toNat)
  case atStart => exact ⟨0, Nat.zero_le _, rfl, HI⟩
  case round =>
    obtain ⟨j, hj, rfl, hI⟩ := hrel
    clear HI
    obtain ⟨pv, hS, hO⟩ := hI.out.s
    have s0 : wr.cell? ⟨w4.heap.size, 0, none⟩ = some pv := by simp [World.cell?, hS, swCells]
    have hsz := hI.out.lo.size
    have hslt : w4.heap.size < wr.heap.size := lt_of_heap hS
    by_cases hlt : j < n
    · have hji : (j : Int) < n := by omega
      have HS := hide hS
      have HO := hide hO
      clear hS hO
      go_wp2_with (at_builtin; refine wpList_append_own _ rfl _ _ 69 rfl (w4.heap.size + 1) 81 i0 _ 2 16 Tryz.underlying69 hi hz0 hz1 hz2 rfl (by decide) _ _ _ rfl (HO.out.alloc _) ⟨wr.heap.size, 0, none⟩ 1 1 [.int .i64 1, .map none] rfl rfl (World.news_of_block (cs := #[.int .i64 1, .map none]) (t := 81) (fr := (0, 0)) (World.alloc_heap_new wr _)) (by simp [Value.oneCell']) (by unfold maxLen; omega) (by omega) (by simp; omega) ?_; intro v' w2 hown' hgrow _; obtain ⟨g', cap', rfl⟩ := ownsRow_succ hown'; have hb2 : w2.heap[w4.heap.size]? = some (.cells (swCells pv w.heap.size (w.heap.size + 2) t w3.heap.size k) 76 (0, 0)) := (hgrow.block _ (by simp; omega) (fun e => by have := (ownsRow_lt HO.out e.symm).1; omega)).trans (((Below.refl _ wr).alloc (Nat.le_refl _) _).block _ hslt |>.trans HS.out); have c2 : w2.cell? ⟨w4.heap.size, 0, none⟩ = some pv := (by simp [World.cell?, hb2, swCells]); have f2 : w2.frozen? ⟨w4.heap.size, 0, none⟩ = false := (by simp [World.frozen?, hb2]))
      have hrow : rowQ (List.replicate j (1, .map none)) ++ [.int .i64 1, .map none] = rowQ (List.replicate (j + 1) (1, .map none)) := by rw [List.replicate_succ', rowQ_append]; rfl
      rw [hrow] at hown'
      have hlo : Below w4.heap.size w4 w2 := (hI.out.lo.alloc hsz _).grown hgrow (by simp; omega) (fun x hx => by have := (ownsRow_lt HO.out hx).1; omega)
      have HN : Hid (NewI w w.heap.size (w.heap.size + 2) (w.heap.size + 1) t w3.heap.size k m F w4 (j + 1) (w2.setCell ⟨w4.heap.size, 0, none⟩ (.slice (some ⟨g', 0, none⟩) (j + 1) cap'))) := hide
        ⟨hI.out.n, ⟨_, (heap_setCell_same _ _ 0 _ _ _ hb2).trans (by simp [swCells]), ownsRow_blk hown' fun b hb => heap_setCell_other _ _ _ _ (fun (e : b = w4.heap.size) => by have := (ownsRow_lt hown' hb).1; omega)⟩, hlo.setCell (Nat.le_refl _) _⟩
      clear hown' hgrow hlo hb2
      go_roundw
      case rel => exact ⟨j + 1, by omega, by go_num, HN⟩
      case measure => simp [intOf]; omega
    · obtain rfl : j = n := by omega
      go_wp2
      go_ret2
      exact ⟨_, _, _, _, _, _, _, _, _, rfl, hI.out⟩
end Go.Proofs.YtaejpejfmpbinaaGreatDoor

namespace Go.Proofs.YtaejpejfmpbinaaGreatDoor
open Go.RowKit Go.Maps

set_option maxRecDepth 100000 in
theorem sTick_any (s k m : Nat) (sv : Value) (K : List Mc) (sec : Int) (w : World) (h5 : w.cell? ⟨s, 5, none⟩ = some (.pointer (some ⟨k, 0, none⟩))) (h : KnownAt w k m sv K) (hn : K.length ≤ 199) (hsec : 0 ≤ sec ∧ sec ≤ 1000000) (hy : ∀ e ∈ K, Young e) :
    Calls Tryz.prog 11 #[.pointer (some ⟨s, 0, none⟩), .int .i64 sec] w fun e w' => e = .returned (.int .i64 0) ∧ ∃ m' sv', KnownAt w' k m' sv' (tickL sec K) ∧ w.heap.size ≤ m' ∧ (∀ b, sv'.ownBlock = some b → w.heap.size ≤ b) ∧ Chg (fun b => b = k) w w' := by
  have C := hide (mTick_any k m sv K sec w h hn hsec hy)
  have a1 : ¬ sec < 0 := by omega
  have a2 : ¬ (1000000 : Int) < sec := by omega
  clear h hy hsec
  go_enter Tryz.func11, Tryz.ntmps11
  go_wp2_with fail
  refine C.out.mono ?_
  rintro e w1 ⟨rfl, h1⟩
  have H1 := hide h1
  clear h1 C
  go_wp2
  go_ret
  exact ⟨rfl, H1.out⟩

set_option maxRecDepth 100000 in
theorem sTick_no (s : Nat) (sec : Int) (w : World) (hsec : ¬ (0 ≤ sec ∧ sec ≤ 1000000)) :
    Calls Tryz.prog 11 #[.pointer (some ⟨s, 0, none⟩), .int .i64 sec] w fun e w' => e = .returned (.int .i64 9) ∧ w' = w := by
  by_cases a1 : sec < 0
  · clear hsec
    go_enter Tryz.func11, Tryz.ntmps11
    go_wp2
    go_ret
    exact ⟨rfl, rfl⟩
  · have a2 : (1000000 : Int) < sec := by omega
    clear hsec
    go_enter Tryz.func11, Tryz.ntmps11
    go_wp2
    go_ret
    exact ⟨rfl, rfl⟩

set_option maxRecDepth 100000 in
theorem sMacs_any (s k m : Nat) (sv : Value) (K : List Mc) (w : World) (h5 : w.cell? ⟨s, 5, none⟩ = some (.pointer (some ⟨k, 0, none⟩))) (h : KnownAt w k m sv K) :
    Calls Tryz.prog 12 #[.pointer (some ⟨s, 0, none⟩)] w fun e w' => ∃ g cap, e = .returned (.slice (some ⟨g, 0, none⟩) K.length cap) ∧ w'.ownsRow w.heap.size 134 4 (.slice (some ⟨g, 0, none⟩) K.length cap) K.length (rowP K) ∧ Below w.heap.size w w' := by
  have C := hide (mAll_any k m sv K w h)
  clear h
  go_enter Tryz.func12, Tryz.ntmps12
  go_wp2_with fail
  refine C.out.mono ?_
  rintro e w1 ⟨g, cap, rfl, h1, h2⟩
  have H1 := hide h1
  have H2 := hide h2
  clear h1 h2 C
  go_wp2
  go_ret
  exact ⟨g, cap, rfl, H1.out, H2.out⟩
end Go.Proofs.YtaejpejfmpbinaaGreatDoor
