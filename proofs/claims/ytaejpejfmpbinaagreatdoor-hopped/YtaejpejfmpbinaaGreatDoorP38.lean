import Derived.Test.YtaejpejfmpbinaaGreatDoorP31
namespace Go.Proofs.YtaejpejfmpbinaaGreatDoor
open Go.RowKit Go.Maps

theorem jud_ok {a b ac po : Int} (ha : 0 ≤ a) (hab : a ≤ b) (hb : b ≤ 65535) (hp : (ac = 1 ∧ po = 0) ∨ (ac = 2 ∧ po = 2)) : (judRl a b ac po).ok = true := by
  have h0 : matB 0 0 0 0 4294967295 = true := by decide +kernel
  have h2 : matB 0 17 255 0 255 = true := by decide +kernel
  have h3 : matB 0 0 0 0 65535 = true := by decide +kernel
  have h4 : matB 1 a b 0 65535 = true := by
    unfold matB
    rw [hasB_iff.2 (show 0 ≤ a ∧ a ≤ 65535 by omega), hasB_iff.2 (show 0 ≤ b ∧ b ≤ 65535 by omega), if_neg (by decide), if_pos rfl, decide_eq_true hab]
    rfl
  have h5 : actB ac po = true := by
    rcases hp with ⟨rfl, rfl⟩ | ⟨rfl, rfl⟩ <;> decide
  show ruleB 4 8 0 0 0 0 0 0 0 17 255 0 0 0 1 a b ac po = true
  unfold ruleB
  rw [h0, h2, h3, h4, h5]
  rfl
theorem jud_ins {a b ac po : Int} (h : (judRl a b ac po).ok = true) : insCode [] (judRl a b ac po) = 0 := by
  unfold insCode
  rw [if_pos h]
  rfl
/-- What the rule does with Judged's frame. -/
theorem jud_hit {L : List Ent} {e : Nat} {a b ac po n : Int} (hL : ∀ x, x ∈ L ↔ x = (e, judRl a b ac po)) (hn : 0 ≤ n ∧ n < 65536) (h : a ≤ n ∧ n ≤ b) (hp : (ac = 1 ∧ po = 0) ∨ (ac = 2 ∧ po = 2)) : judP L (putV noV 4 ac po) P4 (judQ n) = if ac = 1 then some (4, []) else some (0, [(2, ofL (judD n))]) := by
  have hf : fndP L (judQ n).pb = (4, 0) := (jud_found hL hn).trans (if_pos h)
  unfold judP
  rw [hf, if_pos ⟨rfl, rfl⟩, show putV noV 4 ac po (4, (0 : Int)).1 = (ac, po) from if_pos rfl]
  rcases hp with ⟨rfl, rfl⟩ | ⟨rfl, rfl⟩
  · rw [if_pos rfl, if_pos rfl]
  · have hs : sentO P4 (judQ n) 2 = [(2, ofL (judD n))] := by
      have hpt : pAt P4 (2 : Int).toNat = ⟨1, fun _ => false⟩ := pAt_P4 (by decide)
      have hv : hasV ⟨1, fun _ => false⟩ (judQ n).f.vlan = true := rfl
      unfold sentO
      rw [hpt, if_pos hv, out_plain _ _ rfl]
      have hd : (judQ n).f.to ++ (judQ n).f.fr ++ (judQ n).f.ty ++ (judQ n).f.rest = ofL (judD n) := by
        show ofL (macL 5) ++ ofL (macL 6) ++ ofL [8, 0] ++ ofL (pkL 9 17 1 2 (judR n)) = _
        rw [ofL_append, ofL_append, ofL_append]
        rfl
      rw [hd]
    show (if (2 : Int) = 1 then some ((4 : Int), []) else if (2 : Int) = 2 then some (if (sentO P4 (judQ n) 2).length = 0 then (8 : Int) else 0, sentO P4 (judQ n) 2) else none) = _
    rw [hs]
    rfl
theorem jud_miss {L : List Ent} {e : Nat} {a b ac po n : Int} {V : Int → Int × Int} (hL : ∀ x, x ∈ L ↔ x = (e, judRl a b ac po)) (hn : 0 ≤ n ∧ n < 65536) (h : ¬ (a ≤ n ∧ n ≤ b)) : judP L V P4 (judQ n) = none := by
  have hf : fndP L (judQ n).pb = (0, 7) := (jud_found hL hn).trans (if_neg h)
  unfold judP
  rw [hf, if_neg (by rintro ⟨_, h⟩; cases h)]
theorem jud_bare {n : Int} {V : Int → Int × Int} (hn : 0 ≤ n ∧ n < 65536) : judP [] V P4 (judQ n) = none := by
  have hf : fndP [] (judQ n).pb = (0, 7) := jud_none hn
  unfold judP
  rw [hf, if_neg (by rintro ⟨_, h⟩; cases h)]
/-- What a table finds is 0, or the ID of one of its rules. -/
theorem fnd_wf {L : List Ent} (hL : ∀ e ∈ L, (Lit.int .i64 e.2.id).wf = true) (b : ByteArray) : (∃ x y, FindIs L (a32 b 12) (a32 b 16) (b8 b 9) (pt0 b) (pt1 b) x y) → (Lit.int .i64 (fndP L b).1).wf = true := by
  rintro ⟨x, y, h⟩
  rw [show fndP L b = (x, y) from fnd_eq h]
  unfold FindIs at h
  split at h
  · obtain ⟨res, hf, rfl, _⟩ := h
    cases res with
    | none => rfl
    | some r => exact hL r hf.1
  · rw [h.1]; rfl
end Go.Proofs.YtaejpejfmpbinaaGreatDoor

namespace Go.Proofs.YtaejpejfmpbinaaGreatDoor
open Go.RowKit Go.Maps

/-- A switch of four ports that knows nobody and has no faces; all that may change of it lies at B or above. -/
structure JSw (B : Nat) (w : World) (s fm t vb k m : Nat) (pv : Value) (F : Nat → Prop) (L : List Ent) (V : Int → Int × Int) : Prop where
  p : SwP w s pv P4 k m (.slice none 0 0) []
  r : SwR w s fm t vb (.slice none 0 0) [] F L V
  n : NoTags w pv P4
  ls : B ≤ s
  lk : B ≤ k
  lm : B ≤ m
  lf : B ≤ fm
  lv : B ≤ vb
  lF : ∀ x, F x → B ≤ x
  lp : ∀ b, pv.ownBlock = some b → B ≤ b
theorem NoTags.kept {w W : World} {pv : Value} {P : List Prt} (h : NoTags w pv P) (hb : Below w.heap.size w W) : NoTags W pv P :=
  fun a n cap e j hj => cell_later hb (h a n cap e j hj)
theorem JSw.below {B : Nat} {w W : World} {s fm t vb k m : Nat} {pv : Value} {F : Nat → Prop} {L : List Ent} {V : Int → Int × Int} (h : JSw B w s fm t vb k m pv F L V) (hb : Below w.heap.size w W) : JSw B W s fm t vb k m pv F L V :=
  ⟨h.p.below hb, h.r.kept h.p (Chg.of_below hb), h.n.kept hb, h.ls, h.lk, h.lm, h.lf, h.lv, h.lF, h.lp⟩
theorem JSw.other {B : Nat} {w W : World} {s fm t vb k m : Nat} {pv : Value} {F : Nat → Prop} {L : List Ent} {V : Int → Int × Int} {X : Nat → Prop} (h : JSw B w s fm t vb k m pv F L V) (hc : Chg X w W) (hX : ∀ x, X x → x < B) (hA : ∀ x, X x → Away w x) (h1 : ¬ X 1) : JSw B W s fm t vb k m pv F L V := by
  obtain ⟨a, b⟩ := h.p.other h.n hc hX h1 h.ls h.lk h.lm h.lp
  exact ⟨a, h.r.other hc hX hA h.ls h.lf h.lv h.lF, b, h.ls, h.lk, h.lm, h.lf, h.lv, h.lF, h.lp⟩
theorem HallAt.jsw {w w' : World} {s : Nat} (h : HallAt w s w') : Below w.heap.size w w' ∧ ∃ fm t vb k m F pv, JSw w.heap.size w' s fm t vb k m pv F [] noV := by
  obtain ⟨hb, fm, t, vb, k, m, F, pv, a, b, c, ⟨l1, l2, l3, l4, l5⟩, lF, lp⟩ := h.all
  exact ⟨hb, fm, t, vb, k, m, F, pv, a, b, c, l1, l2, l3, l4, l5, lF, lp⟩
theorem JSw.laid {B : Nat} {w : World} {s fm t vb k m : Nat} {pv : Value} {F : Nat → Prop} {L : List Ent} {V : Int → Int × Int} (h : JSw B w s fm t vb k m pv F L V) : Laid w := h.r.hT.laid
/-- What a switch's Insert may change. -/
theorem JSw.ins {B : Nat} {w : World} {s fm t vb k m : Nat} {pv : Value} {F : Nat → Prop} {L : List Ent} {V : Int → Int × Int} (h : JSw B w s fm t vb k m pv F L V) : (∀ x, (F x ∨ x = vb) → x < w.heap.size ∧ B ≤ x ∧ Away w x) ∧ ¬ (F 1 ∨ 1 = vb) ∧ ¬ F s ∧ ¬ F vb := by
  obtain ⟨o, ho, hoc⟩ := h.r.hV.obj
  refine ⟨?_, ?_, fun hx => ?_, fun hx => ?_⟩
  · rintro x (hx | rfl)
    · have hf : Foreign w x := by
        obtain ⟨b1, b2, sv1, sv2, LI, T, _, _, rfl⟩ := h.r.hT
        exact T.foreign hx
      obtain ⟨v, c0, _⟩ := h.r.hT.shape0 hx
      exact ⟨block_lt_of_cell c0, h.lF x hx, hf.away h.laid⟩
    · exact ⟨lt_of_heap ho, h.lv, away_obj h.laid ho hoc⟩
  · rintro (hx | hx)
    · obtain ⟨v, c0, _, hn⟩ := h.r.hT.shape0 hx
      rw [h.p.hm.1] at c0
      cases c0
      exact hn _ rfl
    · have := h.p.hm.1
      rw [hx, noCell ho hoc] at this
      cases this
  · obtain ⟨a, cap, b, e, _⟩ := h.p.hp
    obtain ⟨v, c0, hn, _⟩ := h.r.hT.shape0 hx
    rw [h.p.h0] at c0
    cases c0
    exact hn _ _ _ e
  · obtain ⟨v, c0, _⟩ := h.r.hT.shape0 hx
    rw [noCell ho hoc] at c0
    cases c0
/-- What a frame may change. -/
theorem JSw.frm {B : Nat} {w : World} {s fm t vb k m : Nat} {pv : Value} {F : Nat → Prop} {L : List Ent} {V : Int → Int × Int} (h : JSw B w s fm t vb k m pv F L V) : (∀ x, KX m (.slice none 0 0) x → x < w.heap.size ∧ B ≤ x ∧ Away w x) ∧ ¬ KX m (.slice none 0 0) 1 := by
  refine ⟨fun x hx => ?_, ?_⟩
  · have ha := known_away h.laid h.p.hK x hx
    rcases hx with rfl | hx
    · exact ⟨block_lt_of_cell h.p.hK.2.2.1.1.1, h.lm, ha⟩
    · cases hx
  · rintro (hx | hx)
    · have := h.p.hm.1
      rw [hx, h.p.hK.2.2.1.1.1] at this
      cases this
    · cases hx

/-- Insert of Judged's rule. -/
theorem jud_insert (B s fm t vb k m : Nat) (pv : Value) (F : Nat → Prop) (a b ac po : Int) (w : World) (h : JSw B w s fm t vb k m pv F [] noV) (hB : B ≤ w.heap.size) (ha : 0 ≤ a) (hab : a ≤ b) (hb : b ≤ 65535) (hp : (ac = 1 ∧ po = 0) ∨ (ac = 2 ∧ po = 2)) :
    Calls Tryz.prog 18 #[.pointer (some ⟨s, 0, none⟩), .agg #[.int .i64 4, .int .i64 8, .int .i64 0, .int .i64 0, .int .i64 0, .int .i64 0, .int .i64 0, .int .i64 0, .int .i64 0, .int .i64 17, .int .i64 255, .int .i64 0, .int .i64 0, .int .i64 0, .int .i64 1, .int .i64 a, .int .i64 b, .int .i64 ac, .int .i64 po]] w
      fun e W => e = .returned (.int .i64 0) ∧ ∃ F' L' x, JSw B W s fm t vb k m pv F' L' (putV noV 4 ac po) ∧ (∀ e, e ∈ L' ↔ e = (x, judRl a b ac po)) ∧ Chg (fun x => F x ∨ x = vb) w W := by
  obtain ⟨hX, _, hFs, hFv⟩ := h.ins
  refine (sInsert_any s t vb 0 pv P4 F [] noV (judRl a b ac po) w h.p.h0 h.p.hp (fun e => ?_) h.r.h3 h.r.hT h.r.h4 h.r.hV (by decide) rfl hFs hFv (fun x hx => (hX x (.inl hx)).1) (jud_ins (jud_ok ha hab hb hp))).mono ?_
  · have e' : ac = 2 := e
    rcases hp with ⟨h1, _⟩ | ⟨_, rfl⟩
    · omega
    · show (0 : Int) ≤ 2 ∧ (2 : Int) < P4.length
      decide
  · rintro e W ⟨rfl, hI⟩
    refine ⟨rfl, ?_⟩
    obtain ⟨F', L', x, hT', hF', hc, hm, hl, hV'⟩ := hI
    obtain ⟨sp, nt⟩ := h.p.inserted h.r.hT h.r.hV h.n hc
    have hk : ∀ {y i : Nat} {v : Value}, ¬ (F y ∨ y = vb) → w.cell? ⟨y, i, none⟩ = some v → W.cell? ⟨y, i, none⟩ = some v := fun hy hv => hc.block.cell hy hv
    have hs : ¬ (F s ∨ s = vb) := by
      rintro (hx | hx)
      · exact hFs hx
      · obtain ⟨o, ho, hoc⟩ := h.r.hV.obj
        have := h.p.h0
        rw [hx, noCell ho hoc] at this
        cases this
    have hfm : ¬ (F fm ∨ fm = vb) := by
      rintro (hx | hx)
      · exact h.r.hD.1 hx
      · obtain ⟨o, ho, hoc⟩ := h.r.hV.obj
        have := h.r.hF.1
        rw [hx, noCell ho hoc] at this
        cases this
    have lf : fm < w.heap.size := block_lt_of_cell h.r.hF.1
    obtain ⟨c0, c1, c2, c3, c4⟩ := h.r.hF
    refine ⟨F', L', x, ⟨sp, ⟨hk hs h.r.h1, ⟨hk hfm c0, hk hfm c1, ⟨rfl, .inl ⟨rfl, rfl⟩⟩, fun j => (World.frozen?_of_block (a := ⟨fm, j, none⟩) (hc.block fm lf hfm)).trans (c3 j), c4⟩, h.r.sF, fun g hg => (by cases hg), hk hs h.r.h3, hT', hk hs h.r.h4, hl ▸ hV', fun hx => ?_, fun g hg => (by cases hg)⟩, nt, h.ls, h.lk, h.lm, h.lf, h.lv, fun y hy => ?_, h.lp⟩, fun e => (hm e).trans ⟨fun h => h.resolve_right (List.not_mem_nil), .inl⟩, hc⟩
    · rcases hF' _ hx with h' | h'
      · exact h.r.hD.1 h'
      · omega
    · rcases hF' y hy with h' | h'
      · exact h.lF y h'
      · omega

theorem fnd_one_wf {L : List Ent} {x : Nat} {r : Rl} (hL : ∀ e, e ∈ L ↔ e = (x, r)) (hr : (Lit.int .i64 r.id).wf = true) (b : ByteArray) : (Lit.int .i64 (fndP L b).1).wf = true := by
  unfold fndP
  cases hk : keyB (a32 b 12) (a32 b 16) (b8 b 9) (pt0 b) (pt1 b) with
  | true =>
    rw [fnd_one hL hk]
    split
    · exact hr
    · rfl
  | false =>
    rw [fnd_eq (a := 0) (b := 4) (by unfold FindIs; rw [if_neg (by rw [hk]; decide)]; exact ⟨rfl, rfl⟩)]
    rfl
theorem fnd_nil_wf (b : ByteArray) : (Lit.int .i64 (fndP [] b).1).wf = true := by
  unfold fndP
  cases hk : keyB (a32 b 12) (a32 b 16) (b8 b 9) (pt0 b) (pt1 b) with
  | true => rw [fnd_nil hk]; rfl
  | false =>
    rw [fnd_eq (a := 0) (b := 4) (by unfold FindIs; rw [if_neg (by rw [hk]; decide)]; exact ⟨rfl, rfl⟩)]
    rfl
/-- How a frame of Judged's ends. -/
def JEnd (w : World) (m : Nat) (J : Int → List (Int × ByteArray) → Prop) (e : Ending) (W : World) : Prop :=
  ∃ r L ov, e = .returned (.tuple #[ov, .int .i64 r]) ∧ J r L ∧ W.ownsRow w.heap.size 32 2 ov L.length (rowO L) ∧ Chg (KX m (.slice none 0 0)) w W
theorem jud_frame1 (B s fm t vb k m x : Nat) (pv : Value) (F : Nat → Prop) (L : List Ent) (a b ac po n : Int) (w : World) (h : JSw B w s fm t vb k m pv F L (putV noV 4 ac po)) (hL : ∀ e, e ∈ L ↔ e = (x, judRl a b ac po)) (hp : (ac = 1 ∧ po = 0) ∨ (ac = 2 ∧ po = 2)) (hn : 0 ≤ n ∧ n < 65536) :
    Calls Tryz.prog 9 #[.pointer (some ⟨s, 0, none⟩), .int .i64 0, .string (ofL (judD n))] w (JEnd w m fun r L => (¬ (a ≤ n ∧ n ≤ b) → r = 0 ∧ L = [(1, ofL (judD n)), (2, ofL (judD n)), (3, ofL (judD n))]) ∧ (a ≤ n ∧ n ≤ b → (ac = 1 → r = 4 ∧ L = []) ∧ (ac = 2 → r = 0 ∧ L = [(2, ofL (judD n))]))) := by
  refine (jud_frame s k m fm t vb pv F L (putV noV 4 ac po) n w h.p h.r (fun id => ?_) (fnd_one_wf hL rfl)).mono ?_
  · unfold putV
    split
    · intro e
      rcases hp with ⟨h1, _⟩ | ⟨_, rfl⟩
      · have e' : ac = 2 := e
        omega
      · show (0 : Int) ≤ 2 ∧ (2 : Int) < P4.length
        decide
    · intro e
      cases e
  · rintro e W ⟨r, L', K', ov, sv', rfl, ⟨j1, j2⟩, h1, _, _, _, h5⟩
    refine ⟨r, L', ov, rfl, ⟨fun hm => j2 (jud_miss hL hn hm), fun hm => ⟨fun e => ?_, fun e => ?_⟩⟩, h1, h5⟩
    · refine j1 4 [] ?_
      rw [jud_hit hL hn hm hp, if_pos e]
    · refine j1 0 [(2, ofL (judD n))] ?_
      rw [jud_hit hL hn hm hp, if_neg (by omega)]
theorem jud_frame2 (B s fm t vb k m : Nat) (pv : Value) (F : Nat → Prop) (n : Int) (w : World) (h : JSw B w s fm t vb k m pv F [] noV) (hn : 0 ≤ n ∧ n < 65536) :
    Calls Tryz.prog 9 #[.pointer (some ⟨s, 0, none⟩), .int .i64 0, .string (ofL (judD n))] w (JEnd w m fun r L => r = 0 ∧ L = [(1, ofL (judD n)), (2, ofL (judD n)), (3, ofL (judD n))]) := by
  refine (jud_frame s k m fm t vb pv F [] noV n w h.p h.r (fun id e => by cases e) fnd_nil_wf).mono ?_
  rintro e W ⟨r, L', K', ov, sv', rfl, ⟨j1, j2⟩, h1, _, _, _, h5⟩
  exact ⟨r, L', ov, rfl, j2 (jud_bare hn), h1, h5⟩
end Go.Proofs.YtaejpejfmpbinaaGreatDoor
