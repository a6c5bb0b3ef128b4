import Derived.Test.YtaejpejfmpbinaaGreatDoorP29
namespace Go.Proofs.YtaejpejfmpbinaaGreatDoor
open Go.RowKit Go.Maps

/-- What the first cells of a table's own blocks hold. -/
theorem TabIs.shape {w : World} {t : Nat} {F : Nat → Prop} {L : List Ent} (h : TabIs w t F L) {x : Nat} (hx : F x) :
    (∃ b, w.cell? ⟨x, 0, none⟩ = some (.pointer (some ⟨b, 0, none⟩)) ∧ w.cell? ⟨b, 0, none⟩ = some (.func (.func 44) #[] #[])) ∨ (∃ fn f c, w.cell? ⟨x, 0, none⟩ = some (.func fn f c)) ∨
    (∃ n, w.cell? ⟨x, 0, none⟩ = some (.int .i64 n) ∧ ((∃ p, w.cell? ⟨x, 1, none⟩ = some (.pointer p)) ∨ ∃ k, w.cell? ⟨x, 1, none⟩ = some (.int .i64 k))) := by
  obtain ⟨b1, b2, sv1, sv2, LI, T, _, _, rfl⟩ := h
  rcases hx with rfl | (rfl | hx) | (rfl | hx)
  · exact .inl ⟨b1, T.c0, T.mI.1⟩
  · exact .inr (.inl ⟨_, _, _, T.mI.1⟩)
  · obtain ⟨n, p, c0, c1⟩ := T.hI _ hx
    exact .inr (.inr ⟨n, c0, .inl ⟨p, c1⟩⟩)
  · exact .inr (.inl ⟨_, _, _, T.mR.1⟩)
  · obtain ⟨n, k, p, c0, c1, _⟩ := T.hR _ hx
    exact .inr (.inr ⟨n, c0, .inr ⟨k, c1⟩⟩)
theorem TabIs.shape0 {w : World} {t : Nat} {F : Nat → Prop} {L : List Ent} (h : TabIs w t F L) {x : Nat} (hx : F x) : ∃ v, w.cell? ⟨x, 0, none⟩ = some v ∧ (∀ a n c, v ≠ .slice a n c) ∧ ∀ s, v ≠ .string s := by
  rcases h.shape hx with ⟨b, c0, _⟩ | ⟨fn, f, c, c0⟩ | ⟨n, c0, _⟩ <;> exact ⟨_, c0, (fun _ _ _ e => by cases e), fun _ e => by cases e⟩

/-- The ports have no tagged VLANs. -/
def NoTags (w : World) (pv : Value) (P : List Prt) : Prop := ∀ a n cap, pv = .slice (some a) n cap → ∀ j, j < P.length → w.cell? ⟨a.block, j * 2 + 1, none⟩ = some (.map none)

theorem SwP.inserted {w W : World} {s k m t vb n : Nat} {pv sv : Value} {P : List Prt} {K : List Mc} {F : Nat → Prop} {L : List Ent} {V : Int → Int × Int} (h : SwP w s pv P k m sv K) (hT : TabIs w t F L) (hV : VerdAt w vb n V) (hN : NoTags w pv P) (hc : Chg (fun x => F x ∨ x = vb) w W) : SwP W s pv P k m sv K ∧ NoTags W pv P := by
  obtain ⟨o, ho, hoc⟩ := hV.obj
  have nv : ∀ {x i : Nat} {v : Value}, w.cell? ⟨x, i, none⟩ = some v → x ≠ vb := by
    rintro x i v hx rfl
    rw [noCell ho hoc] at hx
    cases hx
  obtain ⟨a, cap, b, e, hcs⟩ := h.hp
  have ns : ¬ (F s ∨ s = vb) := by
    rintro (hx | hx)
    · obtain ⟨v, c0, hn, _⟩ := hT.shape0 hx
      rw [h.h0] at c0
      cases c0
      exact hn _ _ _ e
    · exact nv h.h0 hx
  have n1 : ¬ (F 1 ∨ 1 = vb) := by
    rintro (hx | hx)
    · obtain ⟨v, c0, _, hn⟩ := hT.shape0 hx
      rw [h.hm.1] at c0
      cases c0
      exact hn _ rfl
    · exact nv h.hm.1 hx
  have nk : ¬ (F k ∨ k = vb) := by
    rintro (hx | hx)
    · have hk := h.hK.1
      rcases hT.shape hx with ⟨b1, c0, c1⟩ | ⟨fn, f, c, c0⟩ | ⟨n, c0, _⟩
      · rw [hk] at c0
        cases c0
        rw [h.hK.2.2.1.1.1] at c1
        cases c1
      · rw [hk] at c0; cases c0
      · rw [hk] at c0; cases c0
    · exact nv h.hK.1 hx
  have nkx : ∀ x, KX m sv x → ¬ (F x ∨ x = vb) := by
    rintro x hk (hx | hx)
    · exact known_mine hT h.hK x hx hk
    · rcases hk with e | e
      · subst e
        exact nv h.hK.2.2.1.1.1 hx
      · obtain ⟨v, hv⟩ := (h.hK.2.2.1.head e).1
        exact nv hv hx
  have nb : ∀ j, j < P.length → ¬ (F b ∨ b = vb) := by
    rintro j hj (hx | hx)
    · obtain ⟨q0, q1, mv, q2, q3⟩ := hcs 0 (by omega)
      rw [Nat.zero_mul] at q1 q2
      have hmv : ∃ z, mv = .map z := by rcases q3 with ⟨rfl, _⟩ | ⟨_, _, _, rfl, _⟩ <;> exact ⟨_, rfl⟩
      obtain ⟨z, rfl⟩ := hmv
      rw [Nat.zero_add] at q2
      rcases hT.shape hx with ⟨b1, c0, c1⟩ | ⟨fn, f, c, c0⟩ | ⟨n, c0, ⟨p, c1⟩ | ⟨p, c1⟩⟩
      · rw [q1] at c0; cases c0
      · rw [q1] at c0; cases c0
      · rw [q2] at c1; cases c1
      · rw [q2] at c1; cases c1
    · obtain ⟨q0, q1, _⟩ := hcs 0 (by omega)
      exact nv q1 hx
  refine ⟨⟨hc.block.cell ns h.h0, ⟨a, cap, b, e, fun j hj => ?_⟩, hc.block.cell ns h.h5, h.hK.keep fun x hx hk => hc.block x hx ?_, hc.block.cell n1 h.hm.1, hc.block.cell n1 h.hm.2.1, hc.block.cell n1 h.hm.2.2.1, hc.block.cell n1 h.hm.2.2.2⟩, ?_⟩
  · obtain ⟨q0, q1, mv, q2, q3⟩ := hcs j hj
    subst q0
    have hmv := hN _ _ _ e j hj
    rw [q2] at hmv
    cases hmv
    refine ⟨rfl, hc.block.cell (nb j hj) q1, .map none, hc.block.cell (nb j hj) q2, ?_⟩
    rcases q3 with ⟨_, hq⟩ | ⟨_, _, _, hq, _⟩
    · exact .inl ⟨rfl, hq⟩
    · cases hq
  · rcases hk with rfl | hk
    · exact nk
    · exact nkx x hk
  · intro a' n' cap' e' j hj
    have h1 := hN a' n' cap' e' j hj
    refine hc.block.cell ?_ h1
    rw [e] at e'
    obtain ⟨q0, _⟩ := hcs j hj
    subst q0
    cases e'
    exact nb j hj
end Go.Proofs.YtaejpejfmpbinaaGreatDoor

namespace Go.Proofs.YtaejpejfmpbinaaGreatDoor
open Go.RowKit Go.Maps

/-- A switch's faces and rules behind Insert. -/
theorem SwR.inserted {w W : World} {s fm t vb : Nat} {fsv : Value} {Fs : List Fc} {F : Nat → Prop} {L : List Ent} {V : Int → Int × Int} {r : Rl} {a : Option Addr} {n c : Nat} (h : SwR w s fm t vb fsv Fs F L V) (h0 : w.cell? ⟨s, 0, none⟩ = some (.slice a n c)) (hI : InsS t vb L.length F L V r w W) :
    ∃ F' L' b, SwR W s fm t vb fsv Fs F' L' (putV V r.id r.ac r.po) ∧ Chg (fun x => F x ∨ x = vb) w W ∧ (∀ x, x ∈ L' ↔ x = (b, r) ∨ x ∈ L) ∧ L'.length = L.length + 1 := by
  obtain ⟨F', L', b, hT', hF', hc, hm, hl, hV'⟩ := hI
  obtain ⟨o, ho, hoc⟩ := h.hV.obj
  have nv : ∀ {x i : Nat} {v : Value}, w.cell? ⟨x, i, none⟩ = some v → x ≠ vb := by
    rintro x i v hx rfl
    rw [noCell ho hoc] at hx
    cases hx
  have ns : ¬ (F s ∨ s = vb) := by
    rintro (hx | hx)
    · obtain ⟨v, c0, hn, _⟩ := h.hT.shape0 hx
      rw [h0] at c0
      cases c0
      exact hn _ _ _ rfl
    · exact nv h0 hx
  have nf : ¬ (F fm ∨ fm = vb) := by
    rintro (hx | hx)
    · exact h.hD.1 hx
    · exact nv h.hF.1 hx
  have na : ∀ g, fsv.ownBlock = some g → ¬ (F g ∨ g = vb) := by
    rintro g hg (hx | hx)
    · exact h.hD.2 g hg hx
    · obtain ⟨n, v, c0, _⟩ := h.hH g hg
      exact nv c0 hx
  have lf : fm < w.heap.size := block_lt_of_cell h.hF.1
  refine ⟨F', L', b, ⟨hc.block.cell ns h.h1, ?_, h.sF, fun g hg => ?_, hc.block.cell ns h.h3, hT', hc.block.cell ns h.h4, hl ▸ hV', fun hx => ?_, fun g hg hx => ?_⟩, hc, hm, hl⟩
  · obtain ⟨c0, c1, c2, c3, c4⟩ := h.hF
    exact ⟨hc.block.cell nf c0, hc.block.cell nf c1, ownsRow_blk c2 fun g hg => hc.block g (ownsRow_lt c2 hg).2 (na g hg), fun j => (World.frozen?_of_block (a := ⟨fm, j, none⟩) (hc.block fm lf nf)).trans (c3 j), c4⟩
  · obtain ⟨n, v, c0, c1⟩ := h.hH g hg
    exact ⟨n, v, hc.block.cell (na g hg) c0, hc.block.cell (na g hg) c1⟩
  · rcases hF' _ hx with h' | h'
    · exact h.hD.1 h'
    · omega
  · rcases hF' _ hx with h' | h'
    · exact h.hD.2 g hg h'
    · have := (ownsRow_lt h.hF.2.2.1 hg).2
      omega
end Go.Proofs.YtaejpejfmpbinaaGreatDoor

namespace Go.Proofs.YtaejpejfmpbinaaGreatDoor
open Go.RowKit Go.Maps

/-- The bytes of the frame that Judged sends. -/
def judR (n : Int) : List UInt8 := 0 :: 7 :: by8 n 1 :: by8 n 0 :: [116, 101, 120, 116]
def judD (n : Int) : List UInt8 := macL 5 ++ macL 6 ++ [8, 0] ++ pkL 9 17 1 2 (judR n)
theorem jud_read (n : Int) : readF (ofL (judD n)) = some ⟨ofL (macL 5), ofL (macL 6), false, 0, 0, ofL [8, 0], ofL (pkL 9 17 1 2 (judR n))⟩ := read_plain (macL 5) (macL 6) _ 8 0 rfl rfl (by decide)
theorem jud_right (n : Int) : isRt (ofL (pkL 9 17 1 2 (judR n))) = true := pk_right 9 17 1 2 (judR n) (by simp [judR])
theorem jud_key (L : List Ent) {n : Int} (hn : 0 ≤ n ∧ n < 65536) : fndP L (ofL (pkL 9 17 1 2 (judR n))) = fnd L 1 2 17 7 n := by
  unfold fndP
  have h := pk_ports 9 1 2 0 7 (by8 n 1) (by8 n 0) [116, 101, 120, 116] (by simp)
  have h2 := two8 hn
  rw [pk_from 9 17 1 2 (judR n) (by omega), pk_to 9 17 1 2 (judR n) (by omega), pk_pr 9 17 1 2 (judR n) (by omega)]
  rw [show judR n = 0 :: 7 :: by8 n 1 :: by8 n 0 :: [116, 101, 120, 116] from rfl, h.1, h.2, h2]
  rfl
theorem fnd_nil {x0 x1 x2 x3 x4 : Int} (hk : keyB x0 x1 x2 x3 x4 = true) : fnd [] x0 x1 x2 x3 x4 = (0, 7) := by
  refine fnd_eq ?_
  unfold FindIs
  rw [if_pos hk]
  exact ⟨none, (fun e he => absurd he (List.not_mem_nil)), rfl, rfl⟩
theorem fnd_one {L : List Ent} {b : Nat} {r : Rl} {x0 x1 x2 x3 x4 : Int} (hL : ∀ x, x ∈ L ↔ x = (b, r)) (hk : keyB x0 x1 x2 x3 x4 = true) : fnd L x0 x1 x2 x3 x4 = if r.hits x0 x1 x2 x3 x4 then (r.id, 0) else (0, 7) := by
  cases hh : r.hits x0 x1 x2 x3 x4 with
  | true =>
    rw [if_pos rfl]
    refine fnd_eq ?_
    unfold FindIs
    rw [if_pos hk]
    refine ⟨some (b, r), ⟨(hL _).2 rfl, hh, fun e he _ => ?_⟩, rfl, rfl⟩
    rw [(hL e).1 he]
    exact Rl.before_irrefl r
  | false =>
    rw [if_neg (by decide)]
    refine fnd_eq ?_
    unfold FindIs
    rw [if_pos hk]
    refine ⟨none, fun e he => ?_, rfl, rfl⟩
    rw [(hL e).1 he]
    exact hh
end Go.Proofs.YtaejpejfmpbinaaGreatDoor

namespace Go.Proofs.YtaejpejfmpbinaaGreatDoor
open Go.RowKit Go.Maps

/-- Judged's rule. -/
def judRl (a b ac po : Int) : Rl := ⟨4, 8, 0, 0, 0, 0, 0, 0, 0, 17, 255, 0, 0, 0, 1, a, b, ac, po⟩
theorem jud_keyB {n : Int} (hn : 0 ≤ n ∧ n < 65536) : keyB 1 2 17 7 n = true := by
  unfold keyB
  have h : hasB 0 65535 n = true := hasB_iff.2 (by omega)
  rw [h]
  rfl
theorem jud_hits (a b ac po n : Int) : (judRl a b ac po).hits 1 2 17 7 n = (decide (a ≤ n) && decide (n ≤ b)) := by
  have h0 : hitB 0 0 0 4294967295 1 = true := by decide +kernel
  have h1 : hitB 0 0 0 4294967295 2 = true := by decide +kernel
  have h2 : hitB 0 17 255 255 17 = true := by decide +kernel
  have h3 : hitB 0 0 0 65535 7 = true := by decide +kernel
  show (hitB 0 0 0 4294967295 1 && (hitB 0 0 0 4294967295 2 && (hitB 0 17 255 255 17 && (hitB 0 0 0 65535 7 && hitB 1 a b 65535 n)))) = _
  rw [h0, h1, h2, h3]
  rfl
/-- What the rule finds for Judged's packet. -/
theorem jud_found {L : List Ent} {e : Nat} {a b ac po n : Int} (hL : ∀ x, x ∈ L ↔ x = (e, judRl a b ac po)) (hn : 0 ≤ n ∧ n < 65536) : fndP L (ofL (pkL 9 17 1 2 (judR n))) = if a ≤ n ∧ n ≤ b then (4, 0) else (0, 7) := by
  rw [jud_key L hn, fnd_one hL (jud_keyB hn), jud_hits]
  by_cases h : a ≤ n ∧ n ≤ b
  · rw [if_pos h, decide_eq_true h.1, decide_eq_true h.2]; rfl
  · rw [if_neg h]
    have : (decide (a ≤ n) && decide (n ≤ b)) = false := by
      rw [← Bool.not_eq_true, Bool.and_eq_true, decide_eq_true_eq, decide_eq_true_eq]; exact h
    rw [this]; rfl
theorem jud_none {n : Int} (hn : 0 ≤ n ∧ n < 65536) : fndP [] (ofL (pkL 9 17 1 2 (judR n))) = (0, 7) := by
  rw [jud_key [] hn, fnd_nil (jud_keyB hn)]
/-- The frame with its packet, in the one VLAN. -/
def judQ (n : Int) : Pg := ⟨0, ofL (judD n), ⟨ofL (macL 5), ofL (macL 6), false, 1, 0, ofL [8, 0], ofL (pkL 9 17 1 2 (judR n))⟩, ofL (pkL 9 17 1 2 (judR n)), ihl (ofL (pkL 9 17 1 2 (judR n))), w16 (ofL (pkL 9 17 1 2 (judR n))) 2, true, false⟩
theorem jud_unp (n : Int) {f : Fr} (hf : readF (ofL (judD n)) = some f) : unpP (pIn P4 0 (ofL (judD n)) f) = judQ n := by
  rw [jud_read] at hf
  cases hf
  have hk : (kind2 (ofL [8, 0]) == 2) = true := by decide +kernel
  unfold unpP
  rw [show (pIn P4 0 (ofL (judD n)) ⟨ofL (macL 5), ofL (macL 6), false, 0, 0, ofL [8, 0], ofL (pkL 9 17 1 2 (judR n))⟩).f.ty = ofL [8, 0] from rfl, hk, if_pos rfl]
  unfold unpR
  rw [show (pIn P4 0 (ofL (judD n)) ⟨ofL (macL 5), ofL (macL 6), false, 0, 0, ofL [8, 0], ofL (pkL 9 17 1 2 (judR n))⟩).f.rest = ofL (pkL 9 17 1 2 (judR n)) from rfl, jud_right, if_pos rfl]
  rfl
end Go.Proofs.YtaejpejfmpbinaaGreatDoor
