import Derived.Test.YtaejpejfmpbinaaGreatDoorP39
import Derived.BigQuiet
namespace Go.Proofs.YtaejpejfmpbinaaGreatDoor
open Go.RowKit Go.Maps

/-- While the faces are set: those below v are. -/
def HopF (w : World) (s v : Nat) (W : World) : Prop :=
  Below w.heap.size w W ∧ ∃ k m pv fm fsv Fs t vb F rb hb, HSw w.heap.size W s k m pv (.slice none 0 0) PH [] fm fsv Fs t vb F rb hb (.slice none 0 0) [] ∧ FacesOk Fs v ∧ Fs.length + 1 = v
theorem HopF.later {w W W' : World} {s v : Nat} (h : HopF w s v W) (hb : Below W.heap.size W W') : HopF w s v W' := by
  obtain ⟨h0, k, m, pv, fm, fsv, Fs, t, vb, F, rb, hb', h1, h2, h3⟩ := h
  exact ⟨h0.trans (hb.mono h0.size), k, m, pv, fm, fsv, Fs, t, vb, F, rb, hb', h1.below hb, h2, h3⟩
theorem mac_st (v : Int) : isSt (ofL (macL v)) = true := by
  unfold isSt
  rw [ofL_size, macL_length, mac_grp]
  rfl
theorem hop_face_any (w : World) (s v : Nat) (W : World) (h : HopF w s v W) (hv : 1 ≤ v ∧ v ≤ 4) : Calls Tryz.prog 14 #[.pointer (some ⟨s, 0, none⟩), .int .i64 v, .string (ofL (macL v))] W fun e W' => e = .returned (.int .i64 0) ∧ HopF w s (v + 1) W' := by
  obtain ⟨h0, k, m, pv, fm, fsv, Fs, t, vb, F, rb, hb, h1, h2, h3⟩ := h
  refine (sFace_any s fm fsv Fs v (ofL (macL v)) W h1.r.h1 h1.r.hF h1.r.sF h1.r.hH (face_none h2) (by omega) (by unfold isV; exact hasB_iff.2 (by omega)) (mac_st v) (by rw [ofL_size, macL_length])).mono ?_
  rintro e W' ⟨rfl, hp⟩
  obtain ⟨fsv', Fs', q1, q2, q3, q4⟩ := h1.faced h0.size hp
  refine ⟨rfl, h0.trans q4, k, m, pv, fm, fsv', Fs', t, vb, F, rb, hb, q1, fun x => ?_, by omega⟩
  rw [q2, h2]
  constructor
  · rintro (rfl | ⟨u, u1, u2, rfl⟩)
    · exact ⟨v, hv.1, by omega, rfl⟩
    · exact ⟨u, u1, by omega, rfl⟩
  · rintro ⟨u, u1, u2, rfl⟩
    by_cases e : u = v
    · subst e; exact .inl rfl
    · exact .inr ⟨u, u1, by omega, rfl⟩

/-- The routes in the order in which they are set. -/
def rtL (d : Nat) : List Rt := [⟨0, 0, 2, ofL (macL 102)⟩, ⟨((d / 16777216 * 16777216 : Nat) : Int), 8, 3, ofL (macL 103)⟩, ⟨((d / 256 * 256 : Nat) : Int), 24, 4, ofL (macL 104)⟩]
/-- While the routes are set: the first n are. -/
def HopG (w : World) (s d n : Nat) (W : World) : Prop :=
  Below w.heap.size w W ∧ ∃ k m pv fm fsv Fs t vb F rb hb hsv R, HSw w.heap.size W s k m pv (.slice none 0 0) PH [] fm fsv Fs t vb F rb hb hsv R ∧ FacesOk Fs 5 ∧ (∀ q, q ∈ R ↔ q ∈ (rtL d).take n) ∧ R.length ≤ n
theorem HopG.later {w W W' : World} {s d n : Nat} (h : HopG w s d n W) (hb : Below W.heap.size W W') : HopG w s d n W' := by
  obtain ⟨h0, k, m, pv, fm, fsv, Fs, t, vb, F, rb, hb', hsv, R, h1, h2⟩ := h
  exact ⟨h0.trans (hb.mono h0.size), k, m, pv, fm, fsv, Fs, t, vb, F, rb, hb', hsv, R, h1.below hb, h2⟩
theorem HopF.routes {w W : World} {s : Nat} (h : HopF w s 5 W) (d : Nat) : HopG w s d 0 W := by
  obtain ⟨h0, k, m, pv, fm, fsv, Fs, t, vb, F, rb, hb, h1, h2, h3⟩ := h
  exact ⟨h0, k, m, pv, fm, fsv, Fs, t, vb, F, rb, hb, _, [], h1, h2, fun q => Iff.rfl, Nat.le_refl _⟩
theorem hop_route_any (w : World) (s d n : Nat) (W : World) (h : HopG w s d n W) (pb len : Nat) (v : Int) (mc : Int) (he : (rtL d)[n]? = some ⟨pb, len, v, ofL (macL mc)⟩) (hne : ∀ q ∈ (rtL d).take n, q.len ≠ (len : Int)) (hpb : pb < 4294967296) (hl : len ≤ 32) (hr : pb % pfN len = 0) (hv : 1 ≤ v ∧ v ≤ 4094) :
    Calls Tryz.prog 15 #[.pointer (some ⟨s, 0, none⟩), .int .i64 pb, .int .i64 len, .int .i64 v, .string (ofL (macL mc))] W fun e W' => e = .returned (.int .i64 0) ∧ HopG w s d (n + 1) W' := by
  obtain ⟨h0, k, m, pv, fm, fsv, Fs, t, vb, F, rb, hb, hsv, R, h1, h2, h3, h4⟩ := h
  have hn : n < 3 := by
    have := (List.getElem?_eq_some_iff.1 he).1
    exact this
  refine (sRoute_any s rb hb hsv R pb len v (ofL (macL mc)) W h1.h.h2 h1.h.h0 h1.h.hM h1.h.hS (by omega) hpb hl hr (by unfold isV; exact hasB_iff.2 (by omega)) (mac_st mc) (by rw [ofL_size, macL_length]; omega)).mono ?_
  rintro e W' ⟨rfl, hp⟩
  obtain ⟨hsv', R', q1, q2, q3, q4⟩ := h1.routed h0.size hp
  refine ⟨rfl, h0.trans q4, k, m, pv, fm, fsv, Fs, t, vb, F, rb, hb, hsv', R', q1, h2, fun q => ?_, by omega⟩
  have ht : (rtL d).take (n + 1) = (rtL d).take n ++ [⟨pb, len, v, ofL (macL mc)⟩] := by
    rw [List.take_add_one, he]
    rfl
  rw [q2, ht, List.mem_append, List.mem_singleton, h3]
  constructor
  · rintro (e | ⟨e, _⟩)
    · exact .inr e
    · exact .inl e
  · rintro (e | e)
    · refine .inr ⟨e, fun hz => ?_⟩
      unfold cmpRt at hz
      rw [cmpPf_zero] at hz
      exact hne q e hz.2
    · exact .inl e
theorem routesOk_of {R : List Rt} {d : Nat} (h : ∀ q, q ∈ R ↔ q ∈ (rtL d).take 3) : RoutesOk R d := fun q => by
  rw [h]
  show q ∈ rtL d ↔ _
  unfold rtL
  simp only [List.mem_cons, List.not_mem_nil, or_false]
  constructor
  · rintro (e | e | e)
    · exact .inr (.inr e)
    · exact .inr (.inl e)
    · exact .inl e
  · rintro (e | e | e)
    · exact .inr (.inr e)
    · exact .inr (.inl e)
    · exact .inl e
/-- When all is set. -/
def HopH (w : World) (s d : Nat) (W : World) : Prop :=
  Below w.heap.size w W ∧ ∃ k m pv sv K fm fsv Fs t vb F rb hb hsv R, HSw w.heap.size W s k m pv sv PH K fm fsv Fs t vb F rb hb hsv R ∧ FacesOk Fs 5 ∧ RoutesOk R d ∧ K.length ≤ 1
theorem HopH.later {w W W' : World} {s d : Nat} (h : HopH w s d W) (hb : Below W.heap.size W W') : HopH w s d W' := by
  obtain ⟨h0, k, m, pv, sv, K, fm, fsv, Fs, t, vb, F, rb, hb', hsv, R, h1, h2⟩ := h
  exact ⟨h0.trans (hb.mono h0.size), k, m, pv, sv, K, fm, fsv, Fs, t, vb, F, rb, hb', hsv, R, h1.below hb, h2⟩
/-- How a frame of Hopped's ends. -/
def HEnd (w : World) (s d : Nat) (W : World) (J : Int → List (Int × ByteArray) → Prop) (e : Ending) (W' : World) : Prop :=
  ∃ r L ov, e = .returned (.tuple #[ov, .int .i64 r]) ∧ J r L ∧ W'.ownsRow W.heap.size 32 2 ov L.length (rowO L) ∧ HopH w s d W'
theorem hop_first (w : World) (s d : Nat) (W : World) (h : HopG w s d 3 W) (hd : d < 4294967296) (sel : Nat) (hsel : sel < 3) (t pr fr : Int) (rest : List UInt8) (hr : rest.length ≤ 400) (ht : 0 ≤ t ∧ t < 256) :
    Calls Tryz.prog 9 #[.pointer (some ⟨s, 0, none⟩), .int .i64 0, .string (ofL (hopD (pkL t pr fr (hopA d sel) rest)))] W (HEnd w s d W fun r L => (t < 2 → r = 6 ∧ L = []) ∧ (2 ≤ t → r = 0 ∧ L = [(3 - (sel : Int), ofL (hopO t pr fr (hopA d sel) rest (4 - sel)))])) := by
  obtain ⟨h0, k, m, pv, fm, fsv, Fs, t', vb, F, rb, hb, hsv, R, h1, h2, h3, h4⟩ := h
  have hR := routesOk_of h3
  have hpl : (pkL t pr fr (hopA d sel) rest).length = 20 + rest.length := by rw [← ofL_size, pk_size]
  have hold : t < 2 → rouP Fs R (unpP (hopP (pkL t pr fr (hopA d sel) rest))) = .inl 6 := fun e => hop_old h2 (by omega) R t pr fr _ rest (by omega) ⟨ht.1, e⟩
  have hon : 2 ≤ t → rouP Fs R (unpP (hopP (pkL t pr fr (hopA d sel) rest))) = .inr (hopQ t pr fr (hopA d sel) rest (4 - sel)) := fun e => hop_on h2 h1.h.hS hR hd hsel t pr fr rest (by omega) ⟨e, ht.2⟩
  refine (hop_frame w.heap.size s k m fm t' vb rb hb pv _ fsv hsv [] Fs F R (pkL t pr fr (hopA d sel) rest) W h1 (by simp) (routes_len hR) (by omega) (fun q e => ?_)).mono ?_
  · by_cases ht2 : t < 2
    · rw [hold ht2] at e; cases e
    · rw [hon (by omega)] at e
      cases e
      exact hop_go t pr fr _ rest _ (by omega) (by omega) (by omega)
  · rintro e W' ⟨r, L, K', ov, sv', rfl, ⟨hl, j1, j2⟩, g1, g2, g3, _, g5⟩
    obtain ⟨q1, q2⟩ := h1.framed h0.size g2 g3 g5
    refine ⟨r, L, ov, rfl, ⟨fun e => j1 6 (hold e), fun e => ?_⟩, g1, h0.trans q2, k, m, pv, sv', K', fm, fsv, Fs, t', vb, F, rb, hb, hsv, R, q1, h2, hR, hl.le⟩
    obtain ⟨a1, a2⟩ := j2 _ (hon e)
    have hkn : known K' (hopQ t pr fr (hopA d sel) rest (4 - sel)).f.vlan (hopQ t pr fr (hopA d sel) rest (4 - sel)).f.to = none := by
      rw [hl.known List.Pairwise.nil (by simp), if_neg, known_nil]
      rintro ⟨e', _⟩
      have : ((4 - sel : Nat) : Int) = 1 := e'
      omega
    rw [hkn] at a1
    have a3 : L = [(((4 - sel : Nat) : Int) - 1, ofL (hopO t pr fr (hopA d sel) rest (4 - sel)))] := a1.trans (hop_out t pr fr _ rest (4 - sel) (by omega) (by omega) (by omega) _)
    have a4 : ((4 - sel : Nat) : Int) - 1 = 3 - (sel : Int) := by omega
    rw [a4] at a3
    exact ⟨by rw [a2, a3]; rfl, a3⟩
theorem hop_second (w : World) (s d : Nat) (W : World) (h : HopH w s d W) (rest : List UInt8) (hr : rest.length ≤ 500) (hb : isRt (ofL rest) = false) :
    Calls Tryz.prog 9 #[.pointer (some ⟨s, 0, none⟩), .int .i64 0, .string (ofL (hopD rest))] W fun e W' => ∃ ov, e = .returned (.tuple #[ov, .int .i64 5]) ∧ W'.ownsRow W.heap.size 32 2 ov 0 [] ∧ Below w.heap.size w W' := by
  obtain ⟨h0, k, m, pv, sv, K, fm, fsv, Fs, t, vb, F, rb, hb', hsv, R, h1, h2, h3, h4⟩ := h
  have hbad := hop_bad h2 (by omega) R rest hb
  refine (hop_frame w.heap.size s k m fm t vb rb hb' pv sv fsv hsv K Fs F R rest W h1 (by omega) (routes_len h3) hr (fun q e => by rw [hbad] at e; cases e)).mono ?_
  rintro e W' ⟨r, L, K', ov, sv', rfl, ⟨hl, j1, j2⟩, g1, g2, g3, _, g5⟩
  obtain ⟨rfl, rfl⟩ := j1 5 hbad
  exact ⟨ov, rfl, g1, h0.trans (h1.framed h0.size g2 g3 g5).2⟩
end Go.Proofs.YtaejpejfmpbinaaGreatDoor

namespace Go.Proofs.YtaejpejfmpbinaaGreatDoor
open Go.RowKit Go.Maps

/-- The rest of the packet that Hopped sends. -/
def hopT : List UInt8 := [116, 104, 101, 32, 114, 101, 115, 116, 32, 111, 102, 32, 105, 116]
theorem hop_head (w : World) (hl : Laid w) (hm : Means w) : Calls Tryz.prog 7 #[] w fun e W => ∃ s, e = .returned (.pointer (some ⟨s, 0, none⟩)) ∧ Below w.heap.size w W ∧ ∃ k m pv fm t vb F rb hb Q, HSw w.heap.size W s k m pv (.slice none 0 0) P4 [] fm (.slice none 0 0) [] t vb F rb hb (.slice none 0 0) [] ∧ PortsO W pv P4 Q := by
  refine (hall_any w hl hm).mono ?_
  rintro e W ⟨s, rfl, h⟩
  obtain ⟨hb, h'⟩ := h.hsw
  exact ⟨s, rfl, hb, h'⟩

theorem hopD_eq (l : List UInt8) : ofL (macL 1) ++ ofL (macL 50) ++ ⟨#[8, 0]⟩ ++ ofL l = ofL (hopD l) := by
  show ofL (macL 1) ++ ofL (macL 50) ++ ofL [8, 0] ++ ofL l = _
  rw [ofL_append, ofL_append, ofL_append]
  rfl
/-- What Hopped asks of the bytes that go out. -/
theorem hop_facts (t pr fr a : Int) (v : Nat) (_ht : t < 256) : (ofL (hopO t pr fr a hopT v)).size = 48 ∧ (ofL (hopO t pr fr a hopT v)).extract 0 14 = ofL (macL (100 + (v : Int))) ++ ofL (macL v) ++ ⟨#[8, 0]⟩ ∧ (ofL (hopO t pr fr a hopT v)).extract 14 48 = ofL (hopL t pr fr a hopT) := by
  have hl : (hopL t pr fr a hopT).length = 34 := by rw [hop_len]; rfl
  have h14 : (macL (100 + (v : Int)) ++ macL v ++ [8, 0]).length = 14 := by simp [macL_length]
  refine ⟨?_, ?_, ?_⟩
  · rw [ofL_size]
    unfold hopO
    rw [List.length_append, h14, hl]
  · rw [ofL_extract]
    unfold hopO
    rw [List.drop_zero, ← h14, List.take_left]
    show _ = ofL (macL (100 + (v : Int))) ++ ofL (macL v) ++ ofL [8, 0]
    rw [ofL_append, ofL_append]
  · rw [ofL_extract]
    unfold hopO
    rw [List.take_of_length_le (by rw [List.length_append, h14, hl]; decide)]
    rw [← h14, List.drop_left]
theorem wrap64_rng (x : Int) : -9223372036854775808 ≤ wrap64 x ∧ wrap64 x ≤ 9223372036854775807 := by
  unfold wrap64
  omega
theorem u8_xor1 : ∀ n, n < 256 → bits BinOp.xor IntKind.u8 (n : Nat) 1 = (((UInt8.ofNat n) ^^^ 1).toNat : Int) := by decide +kernel
/-- A packet with one bit turned. -/
theorem hop_flip (t pr fr a : Int) (i : Nat) (hi : i < 20) : ∃ y : UInt8, (pkL t pr fr a hopT)[i]? = some (y ^^^ 1) ∧ bits BinOp.xor IntKind.u8 (b8 (ofL (pkL t pr fr a hopT)) i : Int) 1 = (y.toNat : Int) ∧ isRt (ofL ((pkL t pr fr a hopT).set i y)) = false ∧ ofL (macL 1) ++ ofL (macL 50) ++ ⟨#[8, 0]⟩ ++ (ofL (pkL t pr fr a hopT)).extract 0 i ++ ⟨#[y]⟩ ++ (ofL (pkL t pr fr a hopT)).extract (i + 1) 34 = ofL (hopD ((pkL t pr fr a hopT).set i y)) := by
  have hlen : (pkL t pr fr a hopT).length = 34 := by rw [← ofL_size, pk_size]; rfl
  have hg : (pkL t pr fr a hopT)[i]? = some ((pkL t pr fr a hopT)[i]'(by omega)) := List.getElem?_eq_getElem _
  generalize hx : (pkL t pr fr a hopT)[i]'(by omega) = x at hg
  have hb : b8 (ofL (pkL t pr fr a hopT)) i = x.toNat := by
    unfold b8
    rw [dif_pos (by rw [ofL_size]; omega), ofL_get, hx]
  refine ⟨x ^^^ 1, ?_, ?_, flip_bad t pr fr a hopT i hi x hg, ?_⟩
  · rw [hg, UInt8.xor_assoc]
    simp
  · rw [hb, u8_xor1 x.toNat x.toNat_lt, UInt8.ofNat_toNat]
  · show ofL (macL 1) ++ ofL (macL 50) ++ ofL [8, 0] ++ (ofL (pkL t pr fr a hopT)).extract 0 i ++ ofL [x ^^^ 1] ++ (ofL (pkL t pr fr a hopT)).extract (i + 1) 34 = _
    rw [ofL_extract, ofL_extract, ofL_append, ofL_append, ofL_append, ofL_append, ofL_append, List.drop_zero, List.take_of_length_le (Nat.le_of_eq hlen)]
    congr 1
    unfold hopD
    rw [List.set_eq_take_append_cons_drop, if_pos (by omega)]
    simp only [List.append_assoc, List.cons_append, List.nil_append]
theorem hop_facts2 (t pr fr a : Int) (ht : 1 ≤ t ∧ t < 256) : (ofL (hopL t pr fr a hopT)).size = 34 ∧ (b8 (ofL (hopL t pr fr a hopT)) 8 : Int) = t - 1 ∧ (ofL (hopL t pr fr a hopT)).extract 0 8 = (ofL (pkL t pr fr a hopT)).extract 0 8 ∧ (ofL (hopL t pr fr a hopT)).extract 9 10 = (ofL (pkL t pr fr a hopT)).extract 9 10 ∧ (ofL (hopL t pr fr a hopT)).extract 12 34 = (ofL (pkL t pr fr a hopT)).extract 12 34 ∧ hsum (ofL (hopL t pr fr a hopT)) 10 = 65535 := by
  refine ⟨by rw [ofL_size, hop_len]; rfl, ?_, ?_, ?_, ?_, hop_sum t pr fr a hopT ht⟩
  · rw [hop_eq, (b20 _ _ _ _ _ _ _ _ _ _ _ _ _ _ _ _ _ _ _ _ _).1]
    have := by8_nat (t - 1) 0
    simp only [Int.pow_zero, Int.ediv_one] at this
    omega
  · rw [ofL_extract, ofL_extract, hop_eq, pkL_eq, pkB_eq]; rfl
  · rw [ofL_extract, ofL_extract, hop_eq, pkL_eq, pkB_eq]; rfl
  · rw [ofL_extract, ofL_extract, hop_eq, pkL_eq, pkB_eq]; rfl
theorem i64_xor_nat (a b : Nat) (ha : a < 9223372036854775808) (hb : b < 9223372036854775808) : bits .xor .i64 (a : Int) (b : Int) = ((a ^^^ b : Nat) : Int) := by
  have hx : a ^^^ b < 2 ^ 63 := Nat.xor_lt_two_pow (by omega) (by omega)
  show IntKind.i64.wrap ((BitVec.ofInt 64 (a : Int) ^^^ BitVec.ofInt 64 (b : Int)).toNat : Int) = _
  rw [BitVec.toNat_xor, ofInt_u64 a (by omega), ofInt_u64 b (by omega), wrap_i64_small _ (by omega)]
theorem xor_hop {d : Nat} (hd : d < 4294967296) : bits BinOp.xor IntKind.i64 (d : Int) 256 = ((hopA d 1 : Nat) : Int) ∧ bits BinOp.xor IntKind.i64 (d : Int) 16777216 = ((hopA d 2 : Nat) : Int) := ⟨i64_xor_nat d 256 (by omega) (by omega), i64_xor_nat d 16777216 (by omega) (by omega)⟩
end Go.Proofs.YtaejpejfmpbinaaGreatDoor
