import Derived.Test.YtaejpejfmpbinaaGreatDoorP36
import Derived.Test.YtaejpejfmpbinaaGreatDoorP37
import Derived.Test.YtaejpejfmpbinaaGreatDoorP38
namespace Go.Proofs.YtaejpejfmpbinaaGreatDoor
open Go.RowKit Go.Maps

/-- All of a hall, with its routes. -/
theorem HallAt.hsw {w w' : World} {s : Nat} (h : HallAt w s w') : Below w.heap.size w w' ∧ ∃ k m pv fm t vb F rb hb Q, HSw w.heap.size w' s k m pv (.slice none 0 0) P4 [] fm (.slice none 0 0) [] t vb F rb hb (.slice none 0 0) [] ∧ PortsO w' pv P4 Q := by
  obtain ⟨fb, rb, hb, t, vb, k, m0, F, Wb, W1, pv, Q, m, rfl, hI, hP, hQ, hC, hpb, hc, hS, hm⟩ := h
  have l1 := hI.n.lo
  have l2 := hI.lo
  have z1 := l1.size
  have z2 := l2.size
  have lk := hI.n.lk
  have lm := hI.n.lm
  have hk : k < Wb.heap.size := block_lt_of_cell hI.n.nk.1
  have hm0 : m0 < Wb.heap.size := block_lt_of_cell hI.n.nk.2.2.1.1.1
  have hb3 : Below w.heap.size W1 w' := hc.below (by omega) (by rintro x (rfl | rfl) <;> assumption)
  have c0 : Wb.cell? ⟨rb, 0, none⟩ = some (.pointer (some ⟨hb, 0, none⟩)) := cellRow hI.n.nr rfl
  have d0 : Wb.cell? ⟨hb, 0, none⟩ = some (.func (.func 91) #[] #[]) := cellRow hI.n.nh rfl
  have k0 := hI.n.nk.1
  have q0 := hI.n.nk.2.2.1.1.1
  have nr : ¬ (rb = k ∨ rb = m0) := by
    rintro (e | e)
    · rw [e, k0] at c0
      cases c0
      rw [q0] at d0; cases d0
    · rw [e, q0] at c0; cases c0
  have nh : ¬ (hb = k ∨ hb = m0) := by
    rintro (e | e)
    · rw [e, k0] at d0; cases d0
    · rw [e, q0] at d0; cases d0
  have hr1 := (l2.block _ (lt_of_heap hI.n.nr)).trans hI.n.nr
  have hh1 := (l2.block _ (lt_of_heap hI.n.nh)).trans hI.n.nh
  have hr2 := (hc.block _ (lt_of_heap hr1) nr).trans hr1
  have hh2 := (hc.block _ (lt_of_heap hh1) nh).trans hh1
  have bs : w'.heap[Wb.heap.size]? = _ := (hc.block _ (lt_of_heap hC) (by rintro (e | e) <;> omega)).trans hC
  refine ⟨(l1.trans (l2.mono z1)).trans hb3, k, m, pv, fb, t, vb, F, rb, hb, Q, ⟨hS, hI.swR hC hc, ⟨cellRow bs rfl, cellRow hr2 rfl, ⟨⟨cellRow hh2 rfl, cellRow hh2 rfl, ⟨rfl, .inl ⟨rfl, rfl⟩⟩, fun j => frzRow hh2 j, Nat.zero_le _⟩, fun _ => rfl⟩, List.Pairwise.nil⟩, by decide, ?_, ?_, ?_, fun b hb' => by have := hpb b hb'; omega⟩, ⟨hP.len, ownsRow_blk hP.own fun b hb' => hc.block b (ownsRow_lt hP.own hb').2 ?_, fun j hj => ⟨(hP.each j hj).1, ?_⟩⟩⟩
  · rintro b (rfl | e)
    · omega
    · cases e
  · rintro b (rfl | e)
    · exact hI.n.lf
    · cases e
  · rintro b (rfl | e)
    · exact hI.n.lh
    · cases e
  · have := hpb b hb'
    rintro (e | e) <;> omega
  · have hq := hQ _ (List.getElem_mem (show j < Q.length by rw [hP.len]; exact hj))
    have ht := (hP.each j hj).2
    rw [hq] at ht ⊢
    rcases ht with h' | ⟨_, _, _, e, _⟩
    · exact .inl h'
    · cases e

section
variable {B : Nat} {w W : World} {s k m fm t vb rb hb : Nat} {pv sv fsv hsv : Value} {P P' : List Prt} {K : List Mc} {Fs : List Fc} {F : Nat → Prop} {R : List Rt} {Q Q' : List (Int × Value)}
/-- A Port has been set. -/
theorem HSw.ported (h : HSw B w s k m pv sv P K fm fsv Fs t vb F rb hb hsv R) (hB : B ≤ w.heap.size) (hP : PortsO w pv P Q) (hc : Chg (fun b => pv.ownBlock = some b) w W) (hP' : PortsO W pv P' Q') (hn : 0 < P'.length) : HSw B W s k m pv sv P' K fm fsv Fs t vb F rb hb hsv R ∧ Below B w W := by
  have ns : pv.ownBlock ≠ some s := fun e => by
    obtain ⟨a, n, c, es⟩ := h.s0
    obtain ⟨y, z, d0, _⟩ := h.p.port0 h.n e
    rw [es] at d0; cases d0
  have nr : pv.ownBlock ≠ some rb := fun e => by
    obtain ⟨y, z, d0, _⟩ := h.p.port0 h.n e
    rw [h.h.h0] at d0; cases d0
  have nv : pv.ownBlock ≠ some vb := fun e => by
    obtain ⟨o, ho, hoc⟩ := h.r.hV.obj
    obtain ⟨y, z, d0, _⟩ := h.p.port0 h.n e
    rw [noCell ho hoc] at d0; cases d0
  refine ⟨⟨h.p.ported hP h.n hc hP', h.r.keep hc ns (fun e => (h.fbeside fm (.inl rfl)).2.2.2.2.1 e) (fun g hg e => (h.fbeside g (.inr hg)).2.2.2.2.1 e) (fun x e => ?_) (fun x hF e => ?_) nv, h.h.keep hc ns nr (fun e => (h.hbeside hb (.inl rfl)).2.2.2.2.1 e) (fun g hg e => (h.hbeside g (.inr hg)).2.2.2.2.1 e), hn, h.lm, h.lf, h.lh, h.lp⟩, hc.below hB h.lp⟩
  · obtain ⟨y, z, d0, d1⟩ := h.p.port0 h.n e
    refine ⟨?_, fun r he => ?_, fun a n c hc => ?_, fun f l bl hc _ => ?_, fun e r hc => ?_⟩
    · rintro rfl
      have := h.r.hT.laid.2.1; rw [d1] at this; cases this
    · have := he.c1; rw [d1] at this; cases this
    · rw [d0] at hc; cases hc
    · rw [d1] at hc; cases hc
    · rw [d0] at hc; cases hc
  · obtain ⟨y, z, d0, d1⟩ := h.p.port0 h.n e
    rcases h.r.hT.shape hF with ⟨b, c0, _⟩ | ⟨fn, f, c, c0⟩ | ⟨n, c0, ⟨p, c1⟩ | ⟨k', c1⟩⟩
    · rw [d0] at c0; cases c0
    · rw [d0] at c0; cases c0
    · rw [d1] at c1; cases c1
    · rw [d1] at c1; cases c1
/-- A frame has been learned from. -/
theorem HSw.framed (h : HSw B w s k m pv sv P K fm fsv Fs t vb F rb hb hsv R) (hB : B ≤ w.heap.size) {sv' : Value} {K' : List Mc} (hk : KnownAt W k m sv' K') (ho : ∀ b, sv'.ownBlock = some b → sv.ownBlock = some b ∨ w.heap.size ≤ b) (hc : Chg (KX m sv) w W) : HSw B W s k m pv sv' P K' fm fsv Fs t vb F rb hb hsv R ∧ Below B w W := by
  obtain ⟨b0, b1, b2, b3⟩ := h.p.kept hc
  refine ⟨⟨⟨b0, b1, b2, hk, b3⟩, h.r.kept h.p hc, h.hkept hc, h.n, ?_, h.lf, h.lh, h.lp⟩, hc.below hB h.lm⟩
  rintro b (rfl | e)
  · exact h.lm b (.inl rfl)
  · rcases ho b e with e' | e'
    · exact h.lm b (.inr e')
    · omega
end

/-- What Port does for Hopped. -/
theorem hop_port (B s k m fm t vb rb hb : Nat) (pv sv fsv hsv : Value) (P : List Prt) (K : List Mc) (Fs : List Fc) (F : Nat → Prop) (R : List Rt) (Q : List (Int × Value)) (q nat : Int) (w : World) (h : HSw B w s k m pv sv P K fm fsv Fs t vb F rb hb hsv R) (hB : B ≤ w.heap.size) (hP : PortsO w pv P Q) (hr : portRes P q nat [] = 0) :
    Calls Tryz.prog 13 #[.pointer (some ⟨s, 0, none⟩), .int .i64 q, .int .i64 nat, .slice none 0 0] w fun e W => e = .returned (.int .i64 0) ∧ ∃ Q', HSw B W s k m pv sv (P.set q.toNat ⟨nat, tgOf []⟩) K fm fsv Fs t vb F rb hb hsv R ∧ PortsO W pv (P.set q.toNat ⟨nat, tgOf []⟩) Q' ∧ Below B w W := by
  refine (sPort_any s pv P Q q nat [] (.slice none 0 0) w h.p.h0 hP ⟨none, 0, 0, rfl, fun j hj => absurd hj (Nat.not_lt_zero j)⟩ (fun t ht => absurd ht (List.not_mem_nil)) (by simp)).mono ?_
  rintro e W ⟨rfl, ⟨Q', hP', _⟩, hc⟩
  have hps : portSet P q nat [] = P.set q.toNat ⟨nat, tgOf []⟩ := by unfold portSet; rw [if_pos hr]
  rw [hps] at hP'
  obtain ⟨h1, h2⟩ := h.ported hB hP hc hP' (by rw [List.length_set]; exact h.n)
  exact ⟨by rw [hr], Q', h1, hP', h2⟩
end Go.Proofs.YtaejpejfmpbinaaGreatDoor

namespace Go.Proofs.YtaejpejfmpbinaaGreatDoor
open Go.RowKit Go.Maps

/-- The ports of Hopped. -/
def PH : List Prt := [⟨1, fun _ => false⟩, ⟨2, tgOf []⟩, ⟨3, tgOf []⟩, ⟨4, tgOf []⟩]
theorem PH_eq : ((P4.set 1 ⟨2, tgOf []⟩).set 2 ⟨3, tgOf []⟩).set 3 ⟨4, tgOf []⟩ = PH := rfl
theorem judP_nil (V : Int → Int × Int) (P : List Prt) (p : Pg) : judP [] V P p = none := by
  unfold judP
  rw [if_neg]
  rintro ⟨_, h⟩
  unfold fndP at h
  cases hk : keyB (a32 p.pb 12) (a32 p.pb 16) (b8 p.pb 9) (pt0 p.pb) (pt1 p.pb) with
  | true => rw [fnd_nil hk] at h; cases h
  | false =>
    rw [fnd_eq (a := 0) (b := 4) (by unfold FindIs; rw [if_neg (by rw [hk]; decide)]; exact ⟨rfl, rfl⟩)] at h
    cases h
/-- The bytes of a frame of Hopped. -/
def hopD (rest : List UInt8) : List UInt8 := macL 1 ++ macL 50 ++ [8, 0] ++ rest
theorem hop_read (rest : List UInt8) : readF (ofL (hopD rest)) = some ⟨ofL (macL 1), ofL (macL 50), false, 0, 0, ofL [8, 0], ofL rest⟩ := read_plain (macL 1) (macL 50) _ 8 0 rfl rfl (by decide)
theorem hop_fate (rest : List UInt8) (h : rest.length ≤ 500) : fateRead (ofL (hopD rest)) = -1 := fate_plain (macL 1) (macL 50) _ 8 0 rfl rfl (by decide) (by omega) (mac_grp _)
/-- The frame on its way. -/
def hopP (rest : List UInt8) : Pg := ⟨0, ofL (hopD rest), ⟨ofL (macL 1), ofL (macL 50), false, 1, 0, ofL [8, 0], ofL rest⟩, ⟨#[]⟩, 0, 0, false, false⟩
theorem hop_in (rest : List UInt8) {f : Fr} (hf : readF (ofL (hopD rest)) = some f) : pIn PH 0 (ofL (hopD rest)) f = hopP rest := by
  rw [hop_read] at hf
  cases hf
  rfl
/-- What becomes of such a frame. -/
def HopR (Fs : List Fc) (R : List Rt) (K : List Mc) (rest : List UInt8) (r : Int) (L : List (Int × ByteArray)) (K' : List Mc) : Prop :=
  LearnK K ⟨1, ofL (macL 50), 0, 0⟩ K' ∧ ((∀ x, rouP Fs R (unpP (hopP rest)) = .inl x → r = x ∧ L = []) ∧ ∀ q, rouP Fs R (unpP (hopP rest)) = .inr q → L = fwdO PH q (portOf (known K' q.f.vlan q.f.to)) (known K' q.f.vlan q.f.to).isSome 4 ∧ r = if L.length = 0 then 8 else 0)
theorem hop_frame (B s k m fm t vb rb hb : Nat) (pv sv fsv hsv : Value) (K : List Mc) (Fs : List Fc) (F : Nat → Prop) (R : List Rt) (rest : List UInt8) (w : World) (h : HSw B w s k m pv sv PH K fm fsv Fs t vb F rb hb hsv R) (hK : K.length ≤ 64) (hL : ∀ e ∈ R, LenOk e) (hr : rest.length ≤ 500) (hgo : ∀ q, rouP Fs R (unpP (hopP rest)) = .inr q → GoOn q) :
    Calls Tryz.prog 9 #[.pointer (some ⟨s, 0, none⟩), .int .i64 0, .string (ofL (hopD rest))] w (FrameEnd w k m sv (HopR Fs R K rest)) := by
  have hnat : ∀ p ∈ PH, (Lit.int .i64 p.nat).wf = true := by decide
  refine (sFrame_of s k m pv sv PH K 0 _ w h.p (by decide) hK hnat _ _ _ (middleR s k m fm t vb rb hb pv sv fsv hsv PH K Fs F [] noV R 0 _ w h.p h.r (fun W hc => h.hkept hc) hL hnat (fun id e => by cases e) fnd_nil_wf (fun f q hf _ _ e => hgo q (by rw [hop_in rest hf] at e; exact e)))).mono fun e W hE => hE.mono ?_
  intro r L K' hF
  cases hF with
  | unknown h => exact absurd (show (0 : Int) ≤ 0 ∧ (0 : Int) < PH.length by decide) h
  | bad _ h => exact absurd (hop_fate rest hr) h
  | barred f _ _ hf hb' =>
    rw [hop_read] at hf
    cases hf
    cases hb'
  | judged f K2 r2 L2 _ _ hf _ _ hj =>
    rw [judP_nil] at hj
    cases hj
  | stopped f K2 r2 _ _ hf _ hl hj ho =>
    rw [hop_in rest hf] at hl ho
    have hfr : f.fr = ofL (macL 50) := by
      rw [hop_read] at hf
      cases hf
      rfl
    rw [hfr] at hl
    refine ⟨hl, fun x e => ?_, fun q e => ?_⟩
    · rw [ho] at e
      cases e
      exact ⟨rfl, rfl⟩
    · rw [ho] at e
      cases e
  | out f K2 q _ _ hf _ hl hj ho =>
    rw [hop_in rest hf] at hl ho
    have hfr : f.fr = ofL (macL 50) := by
      rw [hop_read] at hf
      cases hf
      rfl
    rw [hfr] at hl
    refine ⟨hl, fun x e => ?_, fun q' e => ?_⟩
    · rw [ho] at e
      cases e
    · rw [ho] at e
      cases e
      exact ⟨rfl, rfl⟩
end Go.Proofs.YtaejpejfmpbinaaGreatDoor

namespace Go.Proofs.YtaejpejfmpbinaaGreatDoor
open Go.RowKit Go.Maps

/-- The four faces. -/
def FacesOk (Fs : List Fc) (n : Nat) : Prop := ∀ x, x ∈ Fs ↔ ∃ v : Nat, 1 ≤ v ∧ v < n ∧ x = ((v : Int), ofL (macL v))
theorem face_of {Fs : List Fc} {n : Nat} (h : FacesOk Fs n) {v : Nat} (h1 : 1 ≤ v) (h2 : v < n) : faceOf Fs v = some ((v : Int), ofL (macL v)) := by
  unfold faceOf
  have hm := (h ((v : Int), ofL (macL v))).2 ⟨v, h1, h2, rfl⟩
  cases hx : Fs.find? (fun e => e.1 == (v : Int)) with
  | none =>
    have := List.find?_eq_none.1 hx _ hm
    simp at this
  | some y =>
    have e1 := List.find?_some hx
    obtain ⟨u, _, _, rfl⟩ := (h y).1 (List.mem_of_find?_eq_some hx)
    have e2 : (u : Int) = (v : Int) := by simpa using e1
    have : u = v := by omega
    rw [this]
theorem face_none {Fs : List Fc} {n : Nat} (h : FacesOk Fs n) : faceOf Fs n = none := by
  unfold faceOf
  rw [List.find?_eq_none]
  intro y hy
  obtain ⟨u, _, h2, rfl⟩ := (h y).1 hy
  simp
  omega
theorem face_s {Fs : List Fc} {n : Nat} (h : FacesOk Fs n) {v : Nat} (h1 : 1 ≤ v) (h2 : v < n) : faceS Fs v = ofL (macL v) := by
  unfold faceS
  rw [face_of h h1 h2]
  rfl
/-- A route that is longest of those that have an address is the first. -/
theorem find_long {R : List Rt} {p : Rt → Bool} {e : Rt} (hs : SortedH R) (he : e ∈ R) (hp : p e = true) (hl : ∀ x ∈ R, p x = true → x = e ∨ x.len < e.len) : R.find? p = some e := by
  cases hx : R.find? p with
  | none =>
    have := List.find?_eq_none.1 hx e he
    exact absurd hp this
  | some x =>
    have h1 := List.find?_some hx
    obtain ⟨_, a1, bs, e1, e2⟩ := List.find?_eq_some_iff_append.1 hx
    rcases hl x (List.mem_of_find?_eq_some hx) h1 with h | h
    · rw [h]
    · rw [e1] at he
      rcases List.mem_append.1 he with h' | h'
      · have := e2 e h'
        rw [hp] at this
        cases this
      · rcases List.mem_cons.1 h' with h'' | h''
        · rw [h'']
        · rw [e1] at hs
          have h3 := (List.pairwise_cons.1 (List.pairwise_append.1 hs).2.1).1 e h''
          unfold cmpRt at h3
          rw [cmpPf_neg] at h3
          omega
/-- The three routes. -/
def RoutesOk (R : List Rt) (d : Nat) : Prop := ∀ q, q ∈ R ↔ q = ⟨((d / 256 * 256 : Nat) : Int), 24, 4, ofL (macL 104)⟩ ∨ q = ⟨((d / 16777216 * 16777216 : Nat) : Int), 8, 3, ofL (macL 103)⟩ ∨ q = ⟨0, 0, 2, ofL (macL 102)⟩
theorem pf24 : pfN 24 = 256 := rfl
theorem pf8 : pfN 8 = 16777216 := rfl
theorem pf0 : pfN 0 = 4294967296 := rfl
theorem xor_ne {a b : Nat} (hb : b ≠ 0) : a ^^^ b ≠ a := by
  intro h
  have h2 : a ^^^ (a ^^^ b) = a ^^^ a := by rw [h]
  rw [← Nat.xor_assoc, Nat.xor_self, Nat.zero_xor] at h2
  exact hb h2
theorem xor_div (a b k : Nat) : (a ^^^ b) / 2 ^ k = (a / 2 ^ k) ^^^ (b / 2 ^ k) := by
  rw [← Nat.shiftRight_eq_div_pow, ← Nat.shiftRight_eq_div_pow, ← Nat.shiftRight_eq_div_pow, Nat.shiftRight_xor_distrib]
theorem rt_has (a : Nat) (x : Int) (l : Nat) (v : Int) (b : ByteArray) : rtHas a ⟨x, (l : Int), v, b⟩ = (((a / pfN l * pfN l : Nat) : Int) == x) := rfl
/-- Which address, by the last argument. -/
def hopA (d sel : Nat) : Nat := if sel = 1 then d ^^^ 256 else if sel = 2 then d ^^^ 16777216 else d
theorem hopA_lt {d : Nat} (hd : d < 4294967296) (sel : Nat) : hopA d sel < 4294967296 := by
  unfold hopA
  split
  · exact Nat.xor_lt_two_pow (n := 32) hd (by decide)
  · split
    · exact Nat.xor_lt_two_pow (n := 32) hd (by decide)
    · exact hd
theorem hop_find {R : List Rt} {d : Nat} (hs : SortedH R) (hR : RoutesOk R d) (hd : d < 4294967296) {sel : Nat} (hsel : sel < 3) : ∃ x l, findR R (hopA d sel) = some ⟨x, l, 4 - (sel : Int), ofL (macL (104 - (sel : Int)))⟩ := by
  have ha := hopA_lt hd sel
  have g24 : rtHas (hopA d sel) ⟨((d / 256 * 256 : Nat) : Int), 24, 4, ofL (macL 104)⟩ = decide (sel = 0) := by
    rw [show (24 : Int) = ((24 : Nat) : Int) from rfl, rt_has, pf24]
    have h1 : (d ^^^ 256) / 256 = d / 256 ^^^ 1 := xor_div d 256 8
    have h2 : (d ^^^ 16777216) / 256 = d / 256 ^^^ 65536 := xor_div d 16777216 8
    have n1 := xor_ne (a := d / 256) (b := 1) (by decide)
    have n2 := xor_ne (a := d / 256) (b := 65536) (by decide)
    rw [Bool.eq_iff_iff, beq_iff_eq, decide_eq_true_eq]
    unfold hopA
    have : sel = 0 ∨ sel = 1 ∨ sel = 2 := by omega
    rcases this with rfl | rfl | rfl
    · simp
    · rw [if_pos rfl, h1]; omega
    · rw [if_neg (by omega), if_pos rfl, h2]; omega
  have g8 : sel ≠ 0 → rtHas (hopA d sel) ⟨((d / 16777216 * 16777216 : Nat) : Int), 8, 3, ofL (macL 103)⟩ = decide (sel = 1) := fun h0 => by
    rw [show (8 : Int) = ((8 : Nat) : Int) from rfl, rt_has, pf8]
    have h1 : (d ^^^ 256) / 16777216 = d / 16777216 ^^^ 0 := xor_div d 256 24
    have h2 : (d ^^^ 16777216) / 16777216 = d / 16777216 ^^^ 1 := xor_div d 16777216 24
    have n2 := xor_ne (a := d / 16777216) (b := 1) (by decide)
    rw [Nat.xor_zero] at h1
    rw [Bool.eq_iff_iff, beq_iff_eq, decide_eq_true_eq]
    unfold hopA
    have : sel = 1 ∨ sel = 2 := by omega
    rcases this with rfl | rfl
    · rw [if_pos rfl, h1]; omega
    · rw [if_neg (by omega), if_pos rfl, h2]; omega
  have g0 : rtHas (hopA d sel) ⟨0, 0, 2, ofL (macL 102)⟩ = true := by
    rw [show (⟨0, 0, 2, ofL (macL 102)⟩ : Rt) = ⟨0, ((0 : Nat) : Int), 2, ofL (macL 102)⟩ from rfl, rt_has, pf0, Nat.div_eq_of_lt ha]
    rfl
  unfold findR
  have : sel = 0 ∨ sel = 1 ∨ sel = 2 := by omega
  rcases this with rfl | rfl | rfl
  · refine ⟨_, _, find_long hs ((hR _).2 (.inl rfl)) g24 fun x hx _ => ?_⟩
    rcases (hR x).1 hx with rfl | rfl | rfl
    · exact .inl rfl
    · exact .inr (by show (_ : Int) < _; simp only []; omega)
    · exact .inr (by show (_ : Int) < _; simp only []; omega)
  · refine ⟨_, _, find_long hs ((hR _).2 (.inr (.inl rfl))) (g8 (by decide)) fun x hx hp => ?_⟩
    rcases (hR x).1 hx with rfl | rfl | rfl
    · rw [g24] at hp; cases hp
    · exact .inl rfl
    · exact .inr (by show (_ : Int) < _; simp only []; omega)
  · refine ⟨_, _, find_long hs ((hR _).2 (.inr (.inr rfl))) g0 fun x hx hp => ?_⟩
    rcases (hR x).1 hx with rfl | rfl | rfl
    · rw [g24] at hp; cases hp
    · rw [g8 (by decide)] at hp; cases hp
    · exact .inl rfl
theorem routes_len {R : List Rt} {d : Nat} (hR : RoutesOk R d) : ∀ e ∈ R, LenOk e := by
  intro e he
  rcases (hR e).1 he with rfl | rfl | rfl
  · exact ⟨rfl, show (24 : Int).toNat ≤ 32 by decide⟩
  · exact ⟨rfl, show (8 : Int).toNat ≤ 32 by decide⟩
  · exact ⟨rfl, show (0 : Int).toNat ≤ 32 by decide⟩
end Go.Proofs.YtaejpejfmpbinaaGreatDoor

namespace Go.Proofs.YtaejpejfmpbinaaGreatDoor
open Go.RowKit Go.Maps

theorem hop_kind (rest : List UInt8) : (kind2 (hopP rest).f.ty == 2) = true := by
  show (kind2 (ofL [8, 0]) == 2) = true
  decide +kernel
theorem hop_unp (rest : List UInt8) : unpP (hopP rest) = unpR (hopP rest) := by
  unfold unpP
  rw [hop_kind, if_pos rfl]
theorem hop_unpf (rest : List UInt8) : (unpP (hopP rest)).f = (hopP rest).f := unpP_f _
theorem hop_face {Fs : List Fc} {n : Nat} (h : FacesOk Fs n) (hn : 1 < n) (rest : List UInt8) : forFace Fs (unpP (hopP rest)) = true := by
  unfold forFace
  rw [hop_unpf]
  show ((faceOf Fs ((1 : Nat) : Int)).isSome && ((ofL (macL 1)).toList == (faceS Fs ((1 : Nat) : Int)).toList)) = true
  rw [face_of h (by omega) hn, face_s h (by omega) hn]
  show (true && ((ofL (macL 1)).toList == (ofL (macL 1)).toList)) = true
  rw [beq_self_eq_true]
  rfl
/-- A frame whose packet is not right is at its end at its face. -/
theorem hop_bad {Fs : List Fc} {n : Nat} (h : FacesOk Fs n) (hn : 1 < n) (R : List Rt) (rest : List UInt8) (hr : isRt (ofL rest) = false) : rouP Fs R (unpP (hopP rest)) = .inl 5 := by
  have e : (unpP (hopP rest)).right = false := by
    rw [hop_unp]
    unfold unpR
    rw [show (hopP rest).f.rest = ofL rest from rfl, hr]
    rfl
  unfold rouP
  rw [hop_unpf, if_neg (by rw [hop_kind]; decide), if_neg (by rw [hop_face h hn]; decide), if_pos e]
/-- The frame with its packet. -/
theorem hop_pk (t pr fr a : Int) (rest : List UInt8) (hr : rest.length ≤ 500) : unpP (hopP (pkL t pr fr a rest)) = { hopP (pkL t pr fr a rest) with pb := ofL (pkL t pr fr a rest), ph := ihl (ofL (pkL t pr fr a rest)), pt := w16 (ofL (pkL t pr fr a rest)) 2, right := true } := by
  rw [hop_unp]
  unfold unpR
  rw [show (hopP (pkL t pr fr a rest)).f.rest = ofL (pkL t pr fr a rest) from rfl, pk_right t pr fr a rest hr]
  rfl
theorem hop_old {Fs : List Fc} {n : Nat} (h : FacesOk Fs n) (hn : 1 < n) (R : List Rt) (t pr fr a : Int) (rest : List UInt8) (hr : rest.length ≤ 500) (ht : 0 ≤ t ∧ t < 2) : rouP Fs R (unpP (hopP (pkL t pr fr a rest))) = .inl 6 := by
  have e1 : (unpP (hopP (pkL t pr fr a rest))).right = true := by rw [hop_pk t pr fr a rest hr]
  have e2 : (unpP (hopP (pkL t pr fr a rest))).pb = ofL (pkL t pr fr a rest) := by rw [hop_pk t pr fr a rest hr]
  have e3 := pk_ttl t pr fr a rest (by omega)
  unfold rouP
  rw [hop_unpf, if_neg (by rw [hop_kind]; decide), if_neg (by rw [hop_face h hn]; decide), if_neg (by rw [e1]; decide), e2, if_pos (by omega)]
/-- A frame that goes on. -/
def hopQ (t pr fr a : Int) (rest : List UInt8) (v : Nat) : Pg := readP (unpP (hopP (pkL t pr fr a rest))) v (ofL (macL (100 + (v : Int)))) (ofL (macL v))
theorem hop_on {Fs : List Fc} (h : FacesOk Fs 5) {R : List Rt} {d : Nat} (hs : SortedH R) (hR : RoutesOk R d) (hd : d < 4294967296) {sel : Nat} (hsel : sel < 3) (t pr fr : Int) (rest : List UInt8) (hr : rest.length ≤ 500) (ht : 2 ≤ t ∧ t < 256) : rouP Fs R (unpP (hopP (pkL t pr fr (hopA d sel) rest))) = .inr (hopQ t pr fr (hopA d sel) rest (4 - sel)) := by
  have e1 : (unpP (hopP (pkL t pr fr (hopA d sel) rest))).right = true := by rw [hop_pk t pr fr _ rest hr]
  have e2 : (unpP (hopP (pkL t pr fr (hopA d sel) rest))).pb = ofL (pkL t pr fr (hopA d sel) rest) := by rw [hop_pk t pr fr _ rest hr]
  have e3 := pk_ttl t pr fr (hopA d sel) rest (by omega)
  have hA := hopA_lt hd sel
  have e4 := pk_to t pr fr (hopA d sel) rest (by omega)
  have e5 : a32 (ofL (pkL t pr fr (hopA d sel) rest)) 16 = hopA d sel := by omega
  obtain ⟨x, l, hf⟩ := hop_find hs hR hd hsel
  have hv : (4 - (sel : Int)) = ((4 - sel : Nat) : Int) := by omega
  have hm : (104 - (sel : Int)) = 100 + ((4 - sel : Nat) : Int) := by omega
  unfold rouP
  rw [hop_unpf, if_neg (by rw [hop_kind]; decide), if_neg (by rw [hop_face h (by omega)]; decide), if_neg (by rw [e1]; decide), e2, if_neg (by omega), e5, hf]
  show (if (faceOf Fs (4 - (sel : Int))).isSome = true then Sum.inr (readP (unpP (hopP (pkL t pr fr (hopA d sel) rest))) (4 - (sel : Int)) (ofL (macL (104 - (sel : Int)))) (faceS Fs (4 - (sel : Int)))) else Sum.inl 7) = _
  rw [hm, hv, face_of h (by omega) (by omega), face_s h (by omega) (by omega)]
  rfl
theorem hop_bytes (t pr fr a : Int) (rest : List UInt8) (ht : 1 ≤ t ∧ t < 256) : hopB (ofL (pkL t pr fr a rest)) = ofL (hopL t pr fr a rest) := by
  have e3 := pk_ttl t pr fr a rest (by omega)
  have hc : w16 (ofL (pkL t pr fr a rest)) 10 = csN t pr fr a rest.length := by
    rw [pkL_eq, pkB_eq, (w20 _ _ _ _ _ _ _ _ _ _ _ _ _ _ _ _ _ _ _ _ _).2.2.2.2.2.1]
    have h := csN_le t pr fr a rest.length
    have := two8 (n := (csN t pr fr a rest.length : Nat)) (by omega)
    omega
  have hle : ones (csN t pr fr a rest.length) 256 ≤ 65535 := ones_le (csN_le _ _ _ _ _) (by omega)
  unfold hopB
  rw [ofL_toList, hc, ← hop_set t pr fr a rest ht]
  have b0 := by8_nat t 0
  have b1 := by8_nat (hopS t pr fr a rest.length : Int) 1
  have b2 := by8_nat (hopS t pr fr a rest.length : Int) 0
  simp only [Int.pow_zero, Int.ediv_one, Int.pow_succ] at b0 b1 b2
  have hS : ones (csN t pr fr a rest.length) 256 = hopS t pr fr a rest.length := rfl
  rw [hS] at hle ⊢
  have q8 : UInt8.ofNat (b8 (ofL (pkL t pr fr a rest)) 8 - 1) = by8 t 0 - 1 := by
    apply UInt8.toNat_inj.1
    rw [UInt8.toNat_sub]
    simp only [show (1 : UInt8).toNat = 1 from rfl, UInt8.toNat_ofNat']
    omega
  have q10 : UInt8.ofNat (hopS t pr fr a rest.length / 256) = by8 (hopS t pr fr a rest.length) 1 := by
    apply UInt8.toNat_inj.1
    simp only [UInt8.toNat_ofNat']
    omega
  have q11 : UInt8.ofNat (hopS t pr fr a rest.length % 256) = by8 (hopS t pr fr a rest.length) 0 := by
    apply UInt8.toNat_inj.1
    simp only [UInt8.toNat_ofNat']
    omega
  rw [q8, q10, q11]
theorem hop_len (t pr fr a : Int) (rest : List UInt8) : (hopL t pr fr a rest).length = 20 + rest.length := by
  rw [hop_eq]
  simp only [List.length_cons]
  omega
/-- What goes out. -/
def hopO (t pr fr a : Int) (rest : List UInt8) (v : Nat) : List UInt8 := macL (100 + (v : Int)) ++ macL v ++ [8, 0] ++ hopL t pr fr a rest
theorem hop_go (t pr fr a : Int) (rest : List UInt8) (v : Nat) (hr : rest.length ≤ 500) (ht : 1 ≤ t ∧ t < 256) (hv : v ≤ 4) : GoOn (hopQ t pr fr a rest v) := by
  refine ⟨?_, ?_⟩
  · show (Lit.int .i64 (v : Int)).wf = true
    have : v = 0 ∨ v = 1 ∨ v = 2 ∨ v = 3 ∨ v = 4 := by omega
    rcases this with rfl | rfl | rfl | rfl | rfl <;> rfl
  · have e : (hopQ t pr fr a rest v).f.rest = ofL (hopL t pr fr a rest) := by
      show hopB (unpP (hopP (pkL t pr fr a rest))).pb = _
      rw [hop_pk t pr fr a rest hr]
      exact hop_bytes t pr fr a rest ht
    have et : (hopQ t pr fr a rest v).f.ty = ofL [8, 0] := by
      show (unpP (hopP (pkL t pr fr a rest))).f.ty = _
      rw [hop_unpf]; rfl
    rw [e, et]
    show (ofL (macL (100 + (v : Int)))).size + (ofL (macL v)).size + (ofL [8, 0]).size + _ ≤ 1000
    rw [ofL_size, ofL_size, ofL_size, ofL_size, hop_len, macL_length, macL_length]
    simp
    omega
theorem hop_out (t pr fr a : Int) (rest : List UInt8) (v : Nat) (hr : rest.length ≤ 500) (ht : 1 ≤ t ∧ t < 256) (hv : 2 ≤ v ∧ v ≤ 4) (bh : Int) : fwdO PH (hopQ t pr fr a rest v) bh false 4 = [((v : Int) - 1, ofL (hopO t pr fr a rest v))] := by
  have e : (hopQ t pr fr a rest v).f.rest = ofL (hopL t pr fr a rest) := by
    show hopB (unpP (hopP (pkL t pr fr a rest))).pb = _
    rw [hop_pk t pr fr a rest hr]
    exact hop_bytes t pr fr a rest ht
  have et : (hopQ t pr fr a rest v).f.ty = ofL [8, 0] := by
    show (unpP (hopP (pkL t pr fr a rest))).f.ty = _
    rw [hop_unpf]; rfl
  have ho : ∀ p : Prt, p.nat = v → outF p (hopQ t pr fr a rest v).f = ofL (hopO t pr fr a rest v) := fun p hp => by
    rw [out_plain p _ (show (hopQ t pr fr a rest v).f.vlan = p.nat from hp.symm), e, et]
    show ofL (macL (100 + (v : Int))) ++ ofL (macL v) ++ ofL [8, 0] ++ ofL (hopL t pr fr a rest) = _
    rw [ofL_append, ofL_append, ofL_append]
    rfl
  have hg : ∀ j, goesTo (hopQ t pr fr a rest v) bh false j = true := fun j => by
    unfold goesTo
    show (((j : Int) != _ || true) && ((j : Int) == bh || !false)) = true
    simp
  have hvl : (hopQ t pr fr a rest v).f.vlan = (v : Int) := rfl
  have h0 : fwdO PH (hopQ t pr fr a rest v) bh false 4 = (List.range 4).flatMap fun j => if hasV (pAt PH j) v then [((j : Int), outF (pAt PH j) (hopQ t pr fr a rest v).f)] else [] := by
    unfold fwdO
    congr 1
    funext j
    rw [hg j, hvl, Bool.true_and]
  rw [h0]
  have hcases : v = 2 ∨ v = 3 ∨ v = 4 := by omega
  rcases hcases with rfl | rfl | rfl
  · rw [← ho (pAt PH 1) rfl]; rfl
  · rw [← ho (pAt PH 2) rfl]; rfl
  · rw [← ho (pAt PH 3) rfl]; rfl
end Go.Proofs.YtaejpejfmpbinaaGreatDoor
