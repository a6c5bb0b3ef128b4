import Derived.Test.YtaejpejfmpbinaaGreatDoorP36
namespace Go.Proofs.YtaejpejfmpbinaaGreatDoor
open Go.RowKit Go.Maps

/-- Judged's rule. -/
def judRl (a b ac po : Int) : Rl := ⟨4, 8, 0, 0, 0, 0, 0, 0, 0, 17, 255, 0, 0, 0, 1, a, b, ac, po⟩
theorem jud_keyB {n : Int} (hn : 0 ≤ n ∧ n < 65536) : keyB 1 2 17 7 n = true := by
  unfold keyB
  have h : hasB 0 65535 n = true := hasB_iff.2 (by omega)
  rw [h]
  rfl
theorem jud_hits (a b ac po n : Int) : (judRl a b ac po).hits 1 2 17 7 n = (decide (a ≤ n) && decide (n ≤ b)) := by
  have h0 : hitB 0 0 0 4294967295 1 = true := by decide +kernel
  have h1 : hitB 0 0 0 4294967295 2 = true := by decide +kernel
  have h2 : hitB 0 17 255 255 17 = true := by decide +kernel
  have h3 : hitB 0 0 0 65535 7 = true := by decide +kernel
  show (hitB 0 0 0 4294967295 1 && (hitB 0 0 0 4294967295 2 && (hitB 0 17 255 255 17 && (hitB 0 0 0 65535 7 && hitB 1 a b 65535 n)))) = _
  rw [h0, h1, h2, h3]
  rfl
/-- What the rule finds for Judged's packet. -/
theorem jud_found {L : List Ent} {e : Nat} {a b ac po n : Int} (hL : ∀ x, x ∈ L ↔ x = (e, judRl a b ac po)) (hn : 0 ≤ n ∧ n < 65536) : fndP L (ofL (pkL 9 17 1 2 (judR n))) = if a ≤ n ∧ n ≤ b then (4, 0) else (0, 7) := by
  rw [jud_key L hn, fnd_one hL (jud_keyB hn), jud_hits]
  by_cases h : a ≤ n ∧ n ≤ b
  · rw [if_pos h, decide_eq_true h.1, decide_eq_true h.2]; rfl
  · rw [if_neg h]
    have : (decide (a ≤ n) && decide (n ≤ b)) = false := by
      rw [← Bool.not_eq_true, Bool.and_eq_true, decide_eq_true_eq, decide_eq_true_eq]; exact h
    rw [this]; rfl
theorem jud_none {n : Int} (hn : 0 ≤ n ∧ n < 65536) : fndP [] (ofL (pkL 9 17 1 2 (judR n))) = (0, 7) := by
  rw [jud_key [] hn, fnd_nil (jud_keyB hn)]
/-- The frame with its packet, in the one VLAN. -/
def judQ (n : Int) : Pg := ⟨0, ofL (judD n), ⟨ofL (macL 5), ofL (macL 6), false, 1, 0, ofL [8, 0], ofL (pkL 9 17 1 2 (judR n))⟩, ofL (pkL 9 17 1 2 (judR n)), ihl (ofL (pkL 9 17 1 2 (judR n))), w16 (ofL (pkL 9 17 1 2 (judR n))) 2, true, false⟩
theorem jud_unp (n : Int) {f : Fr} (hf : readF (ofL (judD n)) = some f) : unpP (pIn P4 0 (ofL (judD n)) f) = judQ n := by
  rw [jud_read] at hf
  cases hf
  have hk : (kind2 (ofL [8, 0]) == 2) = true := by decide +kernel
  unfold unpP
  rw [show (pIn P4 0 (ofL (judD n)) ⟨ofL (macL 5), ofL (macL 6), false, 0, 0, ofL [8, 0], ofL (pkL 9 17 1 2 (judR n))⟩).f.ty = ofL [8, 0] from rfl, hk, if_pos rfl]
  unfold unpR
  rw [show (pIn P4 0 (ofL (judD n)) ⟨ofL (macL 5), ofL (macL 6), false, 0, 0, ofL [8, 0], ofL (pkL 9 17 1 2 (judR n))⟩).f.rest = ofL (pkL 9 17 1 2 (judR n)) from rfl, jud_right, if_pos rfl]
  rfl
end Go.Proofs.YtaejpejfmpbinaaGreatDoor

namespace Go.Proofs.YtaejpejfmpbinaaGreatDoor
open Go.RowKit Go.Maps

theorem jud_fate (n : Int) : fateRead (ofL (judD n)) = -1 := fate_plain (macL 5) (macL 6) _ 8 0 rfl rfl (by decide) (by rw [← ofL_size, pk_size]; simp [judR]) (mac_grp _)
theorem jud_out {n : Int} {K' : List Mc} (h : LearnK [] ⟨1, ofL (macL 6), 0, 0⟩ K') : fwdO P4 (judQ n) (portOf (known K' 1 (ofL (macL 5)))) (known K' 1 (ofL (macL 5))).isSome 4 = [(1, ofL (judD n)), (2, ofL (judD n)), (3, ofL (judD n))] := by
  have hk : known K' 1 (ofL (macL 5)) = none := by
    rw [h.known List.Pairwise.nil (by simp), if_neg, known_nil]
    rintro ⟨_, e⟩
    have := macL_inj (by omega) (by omega) (ofL_inj e)
    omega
  rw [hk, fwd_P4 (judQ n) _ _ rfl rfl]
  have hd : (judQ n).f.to ++ (judQ n).f.fr ++ (judQ n).f.ty ++ (judQ n).f.rest = ofL (judD n) := by
    show ofL (macL 5) ++ ofL (macL 6) ++ ofL [8, 0] ++ ofL (pkL 9 17 1 2 (judR n)) = _
    rw [ofL_append, ofL_append, ofL_append]
    rfl
  rw [hd]
  rfl
/-- What becomes of Judged's frame at a switch that knows nobody. -/
def JudOut (j : Option (Int × List (Int × ByteArray))) (n : Int) (r : Int) (L : List (Int × ByteArray)) : Prop :=
  (∀ rr LL, j = some (rr, LL) → r = rr ∧ L = LL) ∧ (j = none → r = 0 ∧ L = [(1, ofL (judD n)), (2, ofL (judD n)), (3, ofL (judD n))])
theorem jud_frame (s k m fm t vb : Nat) (pv : Value) (F : Nat → Prop) (Lr : List Ent) (V : Int → Int × Int) (n : Int) (w : World) (h : SwP w s pv P4 k m (.slice none 0 0) []) (hR : SwR w s fm t vb (.slice none 0 0) [] F Lr V) (hVP : ∀ id, (V id).1 = 2 → 0 ≤ (V id).2 ∧ (V id).2 < P4.length) (hid : ∀ b, (Lit.int .i64 (fndP Lr b).1).wf = true) :
    Calls Tryz.prog 9 #[.pointer (some ⟨s, 0, none⟩), .int .i64 0, .string (ofL (judD n))] w (FrameEnd w k m (.slice none 0 0) fun r L _ => JudOut (judP Lr V P4 (judQ n)) n r L) := by
  have hnat : ∀ p ∈ P4, (Lit.int .i64 p.nat).wf = true := fun p hp' => by rw [List.eq_of_mem_replicate hp']; rfl
  refine (sFrame_of s k m pv (.slice none 0 0) P4 [] 0 _ w h (by decide) (by simp) hnat _ _ _ (middleJ s k m fm t vb pv (.slice none 0 0) (.slice none 0 0) P4 [] [] F Lr V 0 _ w h hR hnat hVP hid (fun f _ => rfl))).mono fun e W hE => hE.mono ?_
  intro r L K' hF
  have hb : ∀ f, readF (ofL (judD n)) = some f → barredAt (pAt P4 (0 : Int).toNat) f = false := by
    intro f hf
    rw [jud_read] at hf
    cases hf
    rfl
  cases hF with
  | unknown h => exact absurd (show (0 : Int) ≤ 0 ∧ (0 : Int) < P4.length by decide) h
  | bad _ h => exact absurd (jud_fate n) h
  | barred f _ _ hf hb' =>
    rw [hb f hf] at hb'
    cases hb'
  | judged f K2 r2 L2 _ _ hf _ _ hj =>
    rw [jud_unp n hf] at hj
    refine ⟨fun rr LL e => ?_, fun e => ?_⟩
    · rw [hj] at e
      cases e
      exact ⟨rfl, rfl⟩
    · rw [hj] at e
      cases e
  | stopped f K2 r2 _ _ _ _ _ _ ho => cases ho
  | out f K2 q _ _ hf _ hl hj ho =>
    rw [jud_unp n hf] at hj ho
    cases ho
    have hl' : LearnK [] ⟨1, ofL (macL 6), 0, 0⟩ K' := by
      rw [jud_read] at hf
      cases hf
      exact hl
    have hO := jud_out (n := n) hl'
    refine ⟨fun rr LL e => ?_, fun _ => ⟨?_, hO⟩⟩
    · rw [hj] at e
      cases e
    · show (if (fwdO P4 (judQ n) (portOf (known K' 1 (ofL (macL 5)))) (known K' 1 (ofL (macL 5))).isSome 4).length = 0 then (8 : Int) else 0) = 0
      rw [hO]
      rfl
end Go.Proofs.YtaejpejfmpbinaaGreatDoor

namespace Go.Proofs.YtaejpejfmpbinaaGreatDoor
open Go.RowKit Go.Maps

theorem PortsO.noTags {w : World} {pv : Value} {P : List Prt} {Q : List (Int × Value)} (h : PortsO w pv P Q) (hQ : ∀ p ∈ Q, p = ((1 : Int), Value.map none)) : NoTags w pv P := by
  intro a n cap e j hj
  have hl := h.len
  rcases h.own.2 with ⟨e2, h0⟩ | ⟨g, c, cur, e2, _⟩
  · rw [e2] at e; cases e
  · have ho := h.own
    rw [e2] at ho e
    cases e
    have hg := rowQ_get Q j (by omega)
    have hq := hQ Q[j] (List.getElem_mem (by omega))
    rw [hq] at hg
    exact (ho.cellAt _ (by omega)).trans hg.2
/-- All of a hall. -/
theorem HallAt.all {w w' : World} {s : Nat} (h : HallAt w s w') : Below w.heap.size w w' ∧ ∃ fb t vb k m F pv, SwP w' s pv P4 k m (.slice none 0 0) [] ∧ SwR w' s fb t vb (.slice none 0 0) [] F [] noV ∧ NoTags w' pv P4 ∧ (w.heap.size ≤ s ∧ w.heap.size ≤ k ∧ w.heap.size ≤ m ∧ w.heap.size ≤ fb ∧ w.heap.size ≤ vb) ∧ (∀ x, F x → w.heap.size ≤ x) ∧ ∀ b, pv.ownBlock = some b → w.heap.size ≤ b := by
  obtain ⟨fb, rb, hb, t, vb, k, m0, F, Wb, W1, pv, Q, m, rfl, hI, hP, hQ, hC, hpb, hc, hS, hm⟩ := h
  have l1 := hI.n.lo
  have l2 := hI.lo
  have z1 := l1.size
  have z2 := l2.size
  have lk := hI.n.lk
  have lm := hI.n.lm
  have hk : k < Wb.heap.size := block_lt_of_cell hI.n.nk.1
  have hm0 : m0 < Wb.heap.size := block_lt_of_cell hI.n.nk.2.2.1.1.1
  have hb3 : Below w.heap.size W1 w' := hc.below (by omega) (by rintro x (rfl | rfl) <;> assumption)
  refine ⟨(l1.trans (l2.mono z1)).trans hb3, fb, t, vb, k, m, F, pv, hS, hI.swR hC hc, ?_, ⟨z1, lk, by omega, hI.n.lf, hI.n.lv⟩, hI.n.lt, fun b hb => by have := hpb b hb; omega⟩
  intro a n cap e j hj
  have h1 := hP.noTags hQ a n cap e j hj
  refine hc.block.cell ?_ h1
  have hab : pv.ownBlock = some a.block := by rw [e]; rfl
  have := hpb _ hab
  rintro (e2 | e2) <;> omega
end Go.Proofs.YtaejpejfmpbinaaGreatDoor
