import Derived.Test.YtaejpejfmpbinaaGreatDoorP38
namespace Go.Proofs.YtaejpejfmpbinaaGreatDoor
open Go.RowKit Go.Maps

theorem judD_eq (n : Int) : ofL (macL 5) ++ ofL (macL 6) ++ ⟨#[8, 0]⟩ ++ ofL (pkL 9 17 1 2 (judR n)) = ofL (judD n) := by
  show ofL (macL 5) ++ ofL (macL 6) ++ ofL [8, 0] ++ ofL (pkL 9 17 1 2 (judR n)) = _
  rw [ofL_append, ofL_append, ofL_append]
  rfl
theorem judR_eq (n : Int) : ⟨#[0, 7]⟩ ++ ofL (bL n 2) ++ ⟨#[116, 101, 120, 116]⟩ = ofL (judR n) := by
  show ofL [0, 7] ++ ofL (bL n 2) ++ ofL [116, 101, 120, 116] = _
  rw [ofL_append, ofL_append]
  rfl

theorem jBelowSet {B : Nat} {w : World} {b : Nat} (hb : B ≤ b) : ∀ (vs : List Value) (o : Nat) {w' : World}, Below B w w' → Below B w (w'.setCells b o vs)
  | [], _, _, h => h
  | v :: r, o, w', h => by
    rw [World.setCells]
    exact jBelowSet hb r (o + 1) (h.setCell hb v)
theorem jThere (w : World) (cs : Array Value) (t : TypeId) : (w.alloc (.cells cs t)).there w.heap.size 0 cs.size := fun j hj => by
  rw [Nat.zero_add]
  exact ⟨by rw [World.cell?_alloc_new]; simpa using hj, World.frozen?_alloc_at _ _ _ _ rfl⟩
theorem jStoreTo {P : Program} {ops : Array Oper} {rest : List Oper} {op : Oper} {a : Act} {w : World} {Q : Exit → Act → World → Prop} (hgd : op.guard = none) (ty : TypeId) (x y : Operand) (ho : op.op = .store ty x y)
    (b o : Nat) (cells : Array Value) (hx : a.eval x = .pointer (some ⟨b, o, none⟩)) (hy : a.eval y = .agg cells)
    (ht : w.there b o cells.size) (hi : (P.info? ty).map (·.size) = some cells.size) (h1 : cells.all (·.oneCell') = true) (W : World) (hW : w.setCells b o cells.toList = W)
    (h : wpList P ops Q rest (a.put op.dst undef) W) : wpList P ops Q (op :: rest) a w := by
  subst hW
  exact wpList_store_mid hgd ty x y ho b o cells hx hy ht hi h1 h
theorem jFrozen {w : World} {b x i : Nat} : ∀ (vs : List Value) (o : Nat), (w.setCells b o vs).frozen? ⟨x, i, none⟩ = w.frozen? ⟨x, i, none⟩
  | [], _ => rfl
  | v :: r, o => by
    rw [World.setCells, jFrozen r (o + 1), World.frozen?_setCell]
/-- The rule's cells. -/
def judC (a b ac po : Int) : Array Value := #[.int .i64 4, .int .i64 8, .int .i64 0, .int .i64 0, .int .i64 0, .int .i64 0, .int .i64 0, .int .i64 0, .int .i64 0, .int .i64 17, .int .i64 255, .int .i64 0, .int .i64 0, .int .i64 0, .int .i64 1, .int .i64 a, .int .i64 b, .int .i64 ac, .int .i64 po]
/-- What the rule's box holds. -/
structure JBox (w : World) (W : World) (a b ac po : Int) : Prop where
  bel : Below w.heap.size w W
  rng : W.rangeAt w.heap.size 0 [.int .i64 4, .int .i64 8, .int .i64 0, .int .i64 0, .int .i64 0, .int .i64 0, .int .i64 0, .int .i64 0, .int .i64 0, .int .i64 17, .int .i64 255, .int .i64 0, .int .i64 0, .int .i64 0, .int .i64 1, .int .i64 a, .int .i64 b, .int .i64 ac, .int .i64 po]
  frz : ∀ j, W.frozen? ⟨w.heap.size, j, none⟩ = false
theorem JBox.made (w : World) (a b ac po : Int) : JBox w ((w.alloc (.cells #[.int .i64 0, .int .i64 0, .int .i64 0, .int .i64 0, .int .i64 0, .int .i64 0, .int .i64 0, .int .i64 0, .int .i64 0, .int .i64 0, .int .i64 0, .int .i64 0, .int .i64 0, .int .i64 0, .int .i64 0, .int .i64 0, .int .i64 0, .int .i64 0, .int .i64 0] 53)).setCells w.heap.size 0 (#[.int .i64 4, .int .i64 8, .int .i64 0, .int .i64 0, .int .i64 0, .int .i64 0, .int .i64 0, .int .i64 0, .int .i64 0, .int .i64 17, .int .i64 255, .int .i64 0, .int .i64 0, .int .i64 0, .int .i64 1, .int .i64 a, .int .i64 b, .int .i64 ac, .int .i64 po] : Array Value).toList) a b ac po :=
  ⟨jBelowSet (Nat.le_refl _) _ _ ((Below.refl _ w).alloc (Nat.le_refl _) _), World.rangeAt_setCells_same _ _ _ _ (jThere w _ 53), fun _ => (jFrozen _ _).trans (World.frozen?_alloc_at _ _ _ _ rfl)⟩
theorem JBox.port {w W : World} {a b ac po : Int} (h : JBox w W a b ac po) (q : Int) : JBox w (W.setCell ⟨w.heap.size, 18, none⟩ (.int .i64 q)) a b ac q := by
  refine ⟨h.bel.setCell (Nat.le_refl _) _, fun j v hv => ?_, fun j => by rw [World.frozen?_setCell]; exact h.frz j⟩
  by_cases e : j = 18
  · subst e
    cases hv
    exact World.cell?_setCell_same _ _ _ (h.rng 18 _ rfl)
  · rw [World.cell?_setCell_other _ _ _ _ (by intro h; simp at h <;> omega)]
    refine h.rng j v ?_
    have hj : j < 19 := (List.getElem?_eq_some_iff.1 hv).1
    have : j = 0 ∨ j = 1 ∨ j = 2 ∨ j = 3 ∨ j = 4 ∨ j = 5 ∨ j = 6 ∨ j = 7 ∨ j = 8 ∨ j = 9 ∨ j = 10 ∨ j = 11 ∨ j = 12 ∨ j = 13 ∨ j = 14 ∨ j = 15 ∨ j = 16 ∨ j = 17 := by omega
    rcases this with rfl | rfl | rfl | rfl | rfl | rfl | rfl | rfl | rfl | rfl | rfl | rfl | rfl | rfl | rfl | rfl | rfl | rfl <;> exact hv

set_option maxRecDepth 100000 in
set_option maxHeartbeats 4000000 in
theorem judged_any (fr to po ac : Int) (w : World) (hl : Laid w) (hm : Means w) (h0 : -9223372036854775808 ≤ fr ∧ fr ≤ 9223372036854775807) (h1 : -9223372036854775808 ≤ to ∧ to ≤ 9223372036854775807) (h2 : -9223372036854775808 ≤ po ∧ po ≤ 9223372036854775807) (h3 : -9223372036854775808 ≤ ac ∧ ac ≤ 9223372036854775807) :
    Calls Tryz.prog 6 #[.int .i64 fr, .int .i64 to, .int .i64 po, .int .i64 ac] w fun e w' => e = .returned (.bool true) ∧ Below w.heap.size w w' := by
  have CH := hide fun (W : World) (hl : Laid W) (hm : Means W) => hall_any W hl hm
  have CP := hide fun (c n : Int) (W : World) (h1 : -9223372036854775808 ≤ c) (h2 : c ≤ 9223372036854775807) (hn : 0 < n) (hn2 : n ≤ 9223372036854775807) => pick_any c n W h1 h2 hn hn2
  have HL := hide hl
  have HM := hide hm
  have H0 := hide h0
  have H1 := hide h1
  have H2 := hide h2
  have H3 := hide h3
  have pa := pickV_range fr (n := 65536) (by omega)
  have pb := pickV_range to (n := 65536) (by omega)
  have pn := pickV_range po (n := 65536) (by omega)
  have pc := pickV_range ac (n := 2) (by omega)
  clear hl hm h0 h1 h2 h3
  go_enter Tryz.func6, Tryz.ntmps6
  go_wp2_with fail
  refine (CH.out w HL.out HM.out).mono ?_
  rintro e W1 ⟨s, rfl, hs⟩
  obtain ⟨hb1, fm, t, vb, k, m, F, pv, J1⟩ := hs.jsw
  have HJ1 := hide J1
  have HB1 := hide hb1
  clear hs J1 hb1
  go_wp2_with fail
  refine (CH.out W1 HJ1.out.laid HJ1.out.p.hm).mono ?_
  rintro e W2 ⟨u, rfl, hu⟩
  obtain ⟨hb2, fm', t', vb', k', m', F', pv', J2⟩ := hu.jsw
  have HJ2 := hide J2
  have HB2 := hide hb2
  have HJ1b := hide (HJ1.out.below hb2)
  clear hu J2 hb2 CH
  go_wp2_with fail
  refine (CP.out fr 65536 _ H0.out.1 H0.out.2 (by omega) (by omega)).mono ?_
  rintro e W ⟨rfl, hww⟩
  rw [hww]
  clear hww W
  go_wp2_with fail
  refine (CP.out to 65536 _ H1.out.1 H1.out.2 (by omega) (by omega)).mono ?_
  rintro e W ⟨rfl, hww⟩
  rw [hww]
  clear hww W
  go_wp2_with fail
  refine (CP.out fr 65536 _ H0.out.1 H0.out.2 (by omega) (by omega)).mono ?_
  rintro e W ⟨rfl, hww⟩
  rw [hww]
  clear hww W
  go_wp2_with fail
  refine (CP.out to 65536 _ H1.out.1 H1.out.2 (by omega) (by omega)).mono ?_
  rintro e W ⟨rfl, hww⟩
  rw [hww]
  clear hww W
  go_wp2_with fail
  refine (CP.out po 65536 _ H2.out.1 H2.out.2 (by omega) (by omega)).mono ?_
  rintro e W ⟨rfl, hww⟩
  rw [hww]
  clear hww W
  go_wp2_with fail
  refine (CP.out ac 2 _ H3.out.1 H3.out.2 (by omega) (by omega)).mono ?_
  rintro e W ⟨rfl, hww⟩
  rw [hww]
  clear hww W
  have hab : min (pickV fr 65536) (pickV to 65536) ≤ max (pickV fr 65536) (pickV to 65536) ∧ 0 ≤ min (pickV fr 65536) (pickV to 65536) ∧ max (pickV fr 65536) (pickV to 65536) ≤ 65535 := by omega
  generalize min (pickV fr 65536) (pickV to 65536) = a at *
  generalize max (pickV fr 65536) (pickV to 65536) = b at *
  generalize pickV po 65536 = n at *
  generalize pickV fr 65536 = g1 at *
  generalize pickV to 65536 = g2 at *
  have hcs : pickV ac 2 = 0 ∨ pickV ac 2 = 1 := by omega
  obtain ⟨dr, hur, hdr⟩ := underRule
  have HP := hide (And.intro hab pn)
  clear pa pb pc hab pn CP
  rcases hcs with e | e
  · rw [e]
    clear e
    have hth : (W2.alloc (.cells #[.int .i64 0, .int .i64 0, .int .i64 0, .int .i64 0, .int .i64 0, .int .i64 0, .int .i64 0, .int .i64 0, .int .i64 0, .int .i64 0, .int .i64 0, .int .i64 0, .int .i64 0, .int .i64 0, .int .i64 0, .int .i64 0, .int .i64 0, .int .i64 0, .int .i64 0] 53)).there W2.heap.size 0 (#[.int .i64 4, .int .i64 8, .int .i64 0, .int .i64 0, .int .i64 0, .int .i64 0, .int .i64 0, .int .i64 0, .int .i64 0, .int .i64 17, .int .i64 255, .int .i64 0, .int .i64 0, .int .i64 0, .int .i64 1, .int .i64 a, .int .i64 b, .int .i64 1, .int .i64 0] : Array Value).size := jThere _ _ _
    have JB := JBox.made W2 a b 1 0
    generalize hW3 : (W2.alloc (.cells #[.int .i64 0, .int .i64 0, .int .i64 0, .int .i64 0, .int .i64 0, .int .i64 0, .int .i64 0, .int .i64 0, .int .i64 0, .int .i64 0, .int .i64 0, .int .i64 0, .int .i64 0, .int .i64 0, .int .i64 0, .int .i64 0, .int .i64 0, .int .i64 0, .int .i64 0] 53)).setCells W2.heap.size 0 (#[.int .i64 4, .int .i64 8, .int .i64 0, .int .i64 0, .int .i64 0, .int .i64 0, .int .i64 0, .int .i64 0, .int .i64 0, .int .i64 17, .int .i64 255, .int .i64 0, .int .i64 0, .int .i64 0, .int .i64 1, .int .i64 a, .int .i64 b, .int .i64 1, .int .i64 0] : Array Value).toList = W3 at JB
    have HW3 := hide hW3
    have hrg := JB.rng
    have HJB := hide JB
    clear JB hW3
    go_wp2_with ((with_reducible show wpList _ _ _ _ _ _); first | (refine jStoreTo rfl 53 _ _ rfl W2.heap.size 0 #[.int .i64 4, .int .i64 8, .int .i64 0, .int .i64 0, .int .i64 0, .int .i64 0, .int .i64 0, .int .i64 0, .int .i64 0, .int .i64 17, .int .i64 255, .int .i64 0, .int .i64 0, .int .i64 0, .int .i64 1, .int .i64 a, .int .i64 b, .int .i64 1, .int .i64 0] rfl rfl hth sizeRule (by simp [Value.oneCell']) W3 HW3.out ?_) | (refine wpList_load_mid rfl 53 _ rfl W2.heap.size 0 rfl [.int .i64 4, .int .i64 8, .int .i64 0, .int .i64 0, .int .i64 0, .int .i64 0, .int .i64 0, .int .i64 0, .int .i64 0, .int .i64 17, .int .i64 255, .int .i64 0, .int .i64 0, .int .i64 0, .int .i64 1, .int .i64 a, .int .i64 b, .int .i64 1, .int .i64 0] dr hrg hur hdr sizeRule ?_))
    have hB3 : w.heap.size ≤ W3.heap.size := by have := HB1.out.size; have := HB2.out.size; have := HJB.out.bel.size; omega
    have HS3 := hide (HJ1b.out.below HJB.out.bel)
    have HU3 := hide (HJ2.out.below HJB.out.bel)
    have CI := hide (jud_insert w.heap.size s fm t vb k m pv F a b 1 0 W3 HS3.out hB3 HP.out.1.2.1 HP.out.1.1 HP.out.1.2.2 (.inl ⟨rfl, rfl⟩))
    have HL3 : Hid (Below w.heap.size w W3) := hide ((HB1.out.trans (HB2.out.mono HB1.out.size)).trans (HJB.out.bel.mono (by have := HB1.out.size; have := HB2.out.size; omega)))
    have HB3 := hide hB3
    clear hrg hth HJB HJ2 HJ1b hB3
    refine CI.out.mono ?_
    rintro e W4 ⟨rfl, F2, L2, x2, hj4, hL2, hC4⟩
    have HU4 : Hid (JSw W1.heap.size W4 u fm' t' vb' k' m' pv' F' [] noV) := hide (HU3.out.other hC4 (fun x hx => (HJ1.out.ins.1 x hx).1) (fun x hx => (HS3.out.ins.1 x hx).2.2) HS3.out.ins.2.1)
    have HL4 : Hid (Below w.heap.size w W4) := hide (HL3.out.trans (hC4.below HB3.out fun x hx => (HS3.out.ins.1 x hx).2.1))
    have HS4 := hide hj4
    have CF := hide fun (W : World) (h : JSw w.heap.size W s fm t vb k m pv F2 L2 (putV noV 4 1 0)) => jud_frame1 w.heap.size s fm t vb k m x2 pv F2 L2 a b 1 0 n W h hL2 (.inl ⟨rfl, rfl⟩) HP.out.2
    have CG := hide fun (W : World) (h : JSw W1.heap.size W u fm' t' vb' k' m' pv' F' [] noV) => jud_frame2 W1.heap.size u fm' t' vb' k' m' pv' F' n W h HP.out.2
    have CB := hide fun (W : World) => kbytes_any n 2 W HP.out.2.1 (by have := HP.out.2.2; omega) (by omega)
    have CPk := hide fun (W : World) => kpacket_any 9 17 1 2 (judR n) W (by omega) (by omega) (by omega) (by omega) (by simp [judR])
    have C5 := hide fun (W : World) => kmac_any 5 W (by omega) (by omega)
    have C6 := hide fun (W : World) => kmac_any 6 W (by omega) (by omega)
    have E1 := hide (judD_eq n)
    have E2 := hide (judR_eq n)
    have z5 : (ofL (macL 5)).size = 6 := by rw [ofL_size, macL_length]
    have z6 : (ofL (macL 6)).size = 6 := by rw [ofL_size, macL_length]
    have zb : (ofL (bL n 2)).size = 2 := by rw [ofL_size, bL_length]
    have zp : (ofL (pkL 9 17 1 2 (judR n))).size = 28 := by rw [pk_size]; rfl
    generalize ofL (macL 5) = x5 at *
    generalize ofL (macL 6) = x6 at *
    generalize ofL (bL n 2) = xb at *
    generalize ofL (pkL 9 17 1 2 (judR n)) = xp at *
    generalize ofL (judR n) = xr at *
    generalize ofL (judD n) = dat at *
    clear CI hj4 hL2 hC4 HL3 HS3 HU3 HB3
    go_wp2_with fail
    refine (C5.out _).mono ?_
    rintro e W5 ⟨rfl, hb5⟩
    go_wp2_with fail
    refine (C6.out _).mono ?_
    rintro e W6 ⟨rfl, hb6⟩
    go_wp2_with fail
    refine (CB.out _).mono ?_
    rintro e W7 ⟨rfl, hb7⟩
    go_wp2_with fail
    rw [E2.out]
    refine (CPk.out _).mono ?_
    rintro e W8 ⟨rfl, hb8⟩
    have hb48 : Below W4.heap.size W4 W8 := by
      have h6 := hb5.trans (hb6.mono hb5.size)
      have h7 := h6.trans (hb7.mono h6.size)
      exact h7.trans (hb8.mono h7.size)
    have HS8 := hide (HS4.out.below hb48)
    have HU8 := hide (HU4.out.below hb48)
    have HL8 := hide (HL4.out.trans (hb48.mono HL4.out.size))
    clear hb5 hb6 hb7 hb8 hb48 C5 C6 CB CPk HS4 HU4 HL4
    go_wp2_with fail
    rw [E1.out]
    clear E1 E2 z5 z6 zb zp
    refine (CF.out _ HS8.out).mono ?_
    rintro e W9 ⟨r, L, ov, rfl, hJ, hrow, hC9⟩
    have HU9 : Hid (JSw W1.heap.size W9 u fm' t' vb' k' m' pv' F' [] noV) := hide (HU8.out.other hC9 (fun x hx => (HJ1.out.frm.1 x hx).1) (fun x hx => (HS8.out.frm.1 x hx).2.2) HS8.out.frm.2)
    have HL9 : Hid (Below w.heap.size w W9) := hide (HL8.out.trans (hC9.below HL8.out.size fun x hx => (HS8.out.frm.1 x hx).2.1))
    have HR9 := hide hrow
    have HM9 : Hid (∀ x, KX m' (.slice none 0 0) x → x < W8.heap.size) := hide fun x hx => (HU8.out.frm.1 x hx).1
    have HJ9 := hide hJ
    obtain ⟨oa, ocap, og, rfl, hoc0⟩ := outs_cells hrow
    clear hoc0 hJ hrow hC9 HS8 HU8 HL8 CF
    go_wp2_with fail
    refine (CG.out _ HU9.out).mono ?_
    rintro e W10 ⟨r2, L2', ov2, rfl, ⟨rfl, rfl⟩, hrow2, hC10⟩
    have HL10 : Hid (Below w.heap.size w W10) := hide (HL9.out.trans (hC10.below HL9.out.size fun x hx => Nat.le_trans HB1.out.size (HU9.out.frm.1 x hx).2.1))
    have hrow1 : W10.ownsRow W8.heap.size 32 2 (.slice oa L.length ocap) L.length (rowO L) := ownsRow_blk HR9.out fun g hg => hC10.block g (ownsRow_lt HR9.out hg).2 fun hx => by
      have h1 := HM9.out g hx
      have h2 := (ownsRow_lt HR9.out hg).1
      omega
    obtain ⟨oa2, ocap2, og2, rfl, hoc2⟩ := outs_cells hrow2
    obtain ⟨rfl, _, e0, e1⟩ := hoc2 0 (by simp)
    obtain ⟨_, _, e2, e3⟩ := hoc2 1 (by simp)
    obtain ⟨_, _, e4, e5⟩ := hoc2 2 (by simp)
    have d0 : W10.cell? ⟨og2, 0, none⟩ = some (.int .i64 1) := e0
    have d1 : W10.cell? ⟨og2, 1, none⟩ = some (.string dat) := e1
    have d2 : W10.cell? ⟨og2, 2, none⟩ = some (.int .i64 2) := e2
    have d3 : W10.cell? ⟨og2, 3, none⟩ = some (.string dat) := e3
    have d4 : W10.cell? ⟨og2, 4, none⟩ = some (.int .i64 3) := e4
    have d5 : W10.cell? ⟨og2, 5, none⟩ = some (.string dat) := e5
    have HR1 := hide hrow1
    clear e0 e1 e2 e3 e4 e5 hoc2 hrow1 hrow2 hC10 HR9 HM9 HL9 HU9 CG HJ1 HB1 HB2 HL HM H0 H1 H2 H3
    have hgd2 := block_lt_of_cell d0
    by_cases hin : a ≤ n ∧ n ≤ b
    · obtain ⟨j1, j2⟩ := HJ9.out.2 hin
      have n1 : ¬ n < a := by omega
      have n2 : ¬ b < n := by omega
      obtain ⟨rfl, rfl⟩ := j1 (by trivial)
      clear j2 HJ9 HR1 hin
      go_wp2
      go_ret
      exact ⟨rfl, HL10.out⟩
    · obtain ⟨rfl, rfl⟩ := HJ9.out.1 hin
      obtain ⟨oa', ocap', og', e', hoc⟩ := outs_cells HR1.out
      cases e'
      obtain ⟨rfl, _, e0, e1⟩ := hoc 0 (by simp)
      obtain ⟨_, _, e2, e3⟩ := hoc 1 (by simp)
      obtain ⟨_, _, e4, e5⟩ := hoc 2 (by simp)
      have c0 : W10.cell? ⟨og', 0, none⟩ = some (.int .i64 1) := e0
      have c1 : W10.cell? ⟨og', 1, none⟩ = some (.string dat) := e1
      have c2 : W10.cell? ⟨og', 2, none⟩ = some (.int .i64 2) := e2
      have c3 : W10.cell? ⟨og', 3, none⟩ = some (.string dat) := e3
      have c4 : W10.cell? ⟨og', 4, none⟩ = some (.int .i64 3) := e4
      have c5 : W10.cell? ⟨og', 5, none⟩ = some (.string dat) := e5
      have hgd1 := block_lt_of_cell c0
      clear HJ9 HR1 e0 e1 e2 e3 e4 e5 hoc
      by_cases n1 : n < a
      · clear hin
        go_wp2_with fail
        go_quiet (fail)
        go_wp2
        go_ret
        exact ⟨rfl, below_drewN HL10.out nq⟩
      · have n2 : b < n := by omega
        clear hin
        go_wp2_with fail
        go_quiet (fail)
        go_wp2
        go_ret
        exact ⟨rfl, below_drewN HL10.out nq⟩
  · rw [e]
    clear e
    have hth : (W2.alloc (.cells #[.int .i64 0, .int .i64 0, .int .i64 0, .int .i64 0, .int .i64 0, .int .i64 0, .int .i64 0, .int .i64 0, .int .i64 0, .int .i64 0, .int .i64 0, .int .i64 0, .int .i64 0, .int .i64 0, .int .i64 0, .int .i64 0, .int .i64 0, .int .i64 0, .int .i64 0] 53)).there W2.heap.size 0 (#[.int .i64 4, .int .i64 8, .int .i64 0, .int .i64 0, .int .i64 0, .int .i64 0, .int .i64 0, .int .i64 0, .int .i64 0, .int .i64 17, .int .i64 255, .int .i64 0, .int .i64 0, .int .i64 0, .int .i64 1, .int .i64 a, .int .i64 b, .int .i64 2, .int .i64 0] : Array Value).size := jThere _ _ _
    have JB := JBox.made W2 a b 2 0
    generalize hW3 : (W2.alloc (.cells #[.int .i64 0, .int .i64 0, .int .i64 0, .int .i64 0, .int .i64 0, .int .i64 0, .int .i64 0, .int .i64 0, .int .i64 0, .int .i64 0, .int .i64 0, .int .i64 0, .int .i64 0, .int .i64 0, .int .i64 0, .int .i64 0, .int .i64 0, .int .i64 0, .int .i64 0] 53)).setCells W2.heap.size 0 (#[.int .i64 4, .int .i64 8, .int .i64 0, .int .i64 0, .int .i64 0, .int .i64 0, .int .i64 0, .int .i64 0, .int .i64 0, .int .i64 17, .int .i64 255, .int .i64 0, .int .i64 0, .int .i64 0, .int .i64 1, .int .i64 a, .int .i64 b, .int .i64 2, .int .i64 0] : Array Value).toList = W3 at JB
    have HW3 := hide hW3
    have JB2 := JB.port 2
    have c18 : W3.cell? ⟨W2.heap.size, 18, none⟩ = some (.int .i64 0) := JB.rng 18 _ rfl
    have f18 : W3.frozen? ⟨W2.heap.size, 18, none⟩ = false := JB.frz 18
    have hl3 := block_lt_of_cell c18
    have hrg := JB2.rng
    have HJB := hide JB2
    clear JB JB2 hW3
    go_wp2_with ((with_reducible show wpList _ _ _ _ _ _); first | (refine jStoreTo rfl 53 _ _ rfl W2.heap.size 0 #[.int .i64 4, .int .i64 8, .int .i64 0, .int .i64 0, .int .i64 0, .int .i64 0, .int .i64 0, .int .i64 0, .int .i64 0, .int .i64 17, .int .i64 255, .int .i64 0, .int .i64 0, .int .i64 0, .int .i64 1, .int .i64 a, .int .i64 b, .int .i64 2, .int .i64 0] rfl rfl hth sizeRule (by simp [Value.oneCell']) W3 HW3.out ?_) | (refine wpList_load_mid rfl 53 _ rfl W2.heap.size 0 rfl [.int .i64 4, .int .i64 8, .int .i64 0, .int .i64 0, .int .i64 0, .int .i64 0, .int .i64 0, .int .i64 0, .int .i64 0, .int .i64 17, .int .i64 255, .int .i64 0, .int .i64 0, .int .i64 0, .int .i64 1, .int .i64 a, .int .i64 b, .int .i64 2, .int .i64 2] dr hrg hur hdr sizeRule ?_))
    clear c18 f18 hl3
    generalize W3.setCell ⟨W2.heap.size, 18, none⟩ (.int .i64 2) = Wp at *
    clear HW3
    have hB3 : w.heap.size ≤ Wp.heap.size := by have := HB1.out.size; have := HB2.out.size; have := HJB.out.bel.size; omega
    have HS3 := hide (HJ1b.out.below HJB.out.bel)
    have HU3 := hide (HJ2.out.below HJB.out.bel)
    have CI := hide (jud_insert w.heap.size s fm t vb k m pv F a b 2 2 Wp HS3.out hB3 HP.out.1.2.1 HP.out.1.1 HP.out.1.2.2 (.inr ⟨rfl, rfl⟩))
    have HL3 : Hid (Below w.heap.size w Wp) := hide ((HB1.out.trans (HB2.out.mono HB1.out.size)).trans (HJB.out.bel.mono (by have := HB1.out.size; have := HB2.out.size; omega)))
    have HB3 := hide hB3
    clear hrg hth HJB HJ2 HJ1b hB3
    refine CI.out.mono ?_
    rintro e W4 ⟨rfl, F2, L2, x2, hj4, hL2, hC4⟩
    have HU4 : Hid (JSw W1.heap.size W4 u fm' t' vb' k' m' pv' F' [] noV) := hide (HU3.out.other hC4 (fun x hx => (HJ1.out.ins.1 x hx).1) (fun x hx => (HS3.out.ins.1 x hx).2.2) HS3.out.ins.2.1)
    have HL4 : Hid (Below w.heap.size w W4) := hide (HL3.out.trans (hC4.below HB3.out fun x hx => (HS3.out.ins.1 x hx).2.1))
    have HS4 := hide hj4
    have CF := hide fun (W : World) (h : JSw w.heap.size W s fm t vb k m pv F2 L2 (putV noV 4 2 2)) => jud_frame1 w.heap.size s fm t vb k m x2 pv F2 L2 a b 2 2 n W h hL2 (.inr ⟨rfl, rfl⟩) HP.out.2
    have CG := hide fun (W : World) (h : JSw W1.heap.size W u fm' t' vb' k' m' pv' F' [] noV) => jud_frame2 W1.heap.size u fm' t' vb' k' m' pv' F' n W h HP.out.2
    have CB := hide fun (W : World) => kbytes_any n 2 W HP.out.2.1 (by have := HP.out.2.2; omega) (by omega)
    have CPk := hide fun (W : World) => kpacket_any 9 17 1 2 (judR n) W (by omega) (by omega) (by omega) (by omega) (by simp [judR])
    have C5 := hide fun (W : World) => kmac_any 5 W (by omega) (by omega)
    have C6 := hide fun (W : World) => kmac_any 6 W (by omega) (by omega)
    have E1 := hide (judD_eq n)
    have E2 := hide (judR_eq n)
    have z5 : (ofL (macL 5)).size = 6 := by rw [ofL_size, macL_length]
    have z6 : (ofL (macL 6)).size = 6 := by rw [ofL_size, macL_length]
    have zb : (ofL (bL n 2)).size = 2 := by rw [ofL_size, bL_length]
    have zp : (ofL (pkL 9 17 1 2 (judR n))).size = 28 := by rw [pk_size]; rfl
    generalize ofL (macL 5) = x5 at *
    generalize ofL (macL 6) = x6 at *
    generalize ofL (bL n 2) = xb at *
    generalize ofL (pkL 9 17 1 2 (judR n)) = xp at *
    generalize ofL (judR n) = xr at *
    generalize ofL (judD n) = dat at *
    clear CI hj4 hL2 hC4 HL3 HS3 HU3 HB3
    go_wp2_with fail
    refine (C5.out _).mono ?_
    rintro e W5 ⟨rfl, hb5⟩
    go_wp2_with fail
    refine (C6.out _).mono ?_
    rintro e W6 ⟨rfl, hb6⟩
    go_wp2_with fail
    refine (CB.out _).mono ?_
    rintro e W7 ⟨rfl, hb7⟩
    go_wp2_with fail
    rw [E2.out]
    refine (CPk.out _).mono ?_
    rintro e W8 ⟨rfl, hb8⟩
    have hb48 : Below W4.heap.size W4 W8 := by
      have h6 := hb5.trans (hb6.mono hb5.size)
      have h7 := h6.trans (hb7.mono h6.size)
      exact h7.trans (hb8.mono h7.size)
    have HS8 := hide (HS4.out.below hb48)
    have HU8 := hide (HU4.out.below hb48)
    have HL8 := hide (HL4.out.trans (hb48.mono HL4.out.size))
    clear hb5 hb6 hb7 hb8 hb48 C5 C6 CB CPk HS4 HU4 HL4
    go_wp2_with fail
    rw [E1.out]
    clear E1 E2 z5 z6 zb zp
    refine (CF.out _ HS8.out).mono ?_
    rintro e W9 ⟨r, L, ov, rfl, hJ, hrow, hC9⟩
    have HU9 : Hid (JSw W1.heap.size W9 u fm' t' vb' k' m' pv' F' [] noV) := hide (HU8.out.other hC9 (fun x hx => (HJ1.out.frm.1 x hx).1) (fun x hx => (HS8.out.frm.1 x hx).2.2) HS8.out.frm.2)
    have HL9 : Hid (Below w.heap.size w W9) := hide (HL8.out.trans (hC9.below HL8.out.size fun x hx => (HS8.out.frm.1 x hx).2.1))
    have HR9 := hide hrow
    have HM9 : Hid (∀ x, KX m' (.slice none 0 0) x → x < W8.heap.size) := hide fun x hx => (HU8.out.frm.1 x hx).1
    have HJ9 := hide hJ
    obtain ⟨oa, ocap, og, rfl, hoc0⟩ := outs_cells hrow
    clear hoc0 hJ hrow hC9 HS8 HU8 HL8 CF
    go_wp2_with fail
    refine (CG.out _ HU9.out).mono ?_
    rintro e W10 ⟨r2, L2', ov2, rfl, ⟨rfl, rfl⟩, hrow2, hC10⟩
    have HL10 : Hid (Below w.heap.size w W10) := hide (HL9.out.trans (hC10.below HL9.out.size fun x hx => Nat.le_trans HB1.out.size (HU9.out.frm.1 x hx).2.1))
    have hrow1 : W10.ownsRow W8.heap.size 32 2 (.slice oa L.length ocap) L.length (rowO L) := ownsRow_blk HR9.out fun g hg => hC10.block g (ownsRow_lt HR9.out hg).2 fun hx => by
      have h1 := HM9.out g hx
      have h2 := (ownsRow_lt HR9.out hg).1
      omega
    obtain ⟨oa2, ocap2, og2, rfl, hoc2⟩ := outs_cells hrow2
    obtain ⟨rfl, _, e0, e1⟩ := hoc2 0 (by simp)
    obtain ⟨_, _, e2, e3⟩ := hoc2 1 (by simp)
    obtain ⟨_, _, e4, e5⟩ := hoc2 2 (by simp)
    have d0 : W10.cell? ⟨og2, 0, none⟩ = some (.int .i64 1) := e0
    have d1 : W10.cell? ⟨og2, 1, none⟩ = some (.string dat) := e1
    have d2 : W10.cell? ⟨og2, 2, none⟩ = some (.int .i64 2) := e2
    have d3 : W10.cell? ⟨og2, 3, none⟩ = some (.string dat) := e3
    have d4 : W10.cell? ⟨og2, 4, none⟩ = some (.int .i64 3) := e4
    have d5 : W10.cell? ⟨og2, 5, none⟩ = some (.string dat) := e5
    have HR1 := hide hrow1
    clear e0 e1 e2 e3 e4 e5 hoc2 hrow1 hrow2 hC10 HR9 HM9 HL9 HU9 CG HJ1 HB1 HB2 HL HM H0 H1 H2 H3
    have hgd2 := block_lt_of_cell d0
    by_cases hin : a ≤ n ∧ n ≤ b
    · obtain ⟨j1, j2⟩ := HJ9.out.2 hin
      have n1 : ¬ n < a := by omega
      have n2 : ¬ b < n := by omega
      obtain ⟨rfl, rfl⟩ := j2 (by trivial)
      obtain ⟨oa', ocap', og', e', hoc⟩ := outs_cells HR1.out
      cases e'
      obtain ⟨rfl, _, e0, e1⟩ := hoc 0 (by simp)
      have c0 : W10.cell? ⟨og', 0, none⟩ = some (.int .i64 2) := e0
      have c1 : W10.cell? ⟨og', 1, none⟩ = some (.string dat) := e1
      have hgd1 := block_lt_of_cell c0
      clear j1 HJ9 HR1 hin e0 e1 hoc
      go_wp2
      go_ret
      exact ⟨rfl, HL10.out⟩
    · obtain ⟨rfl, rfl⟩ := HJ9.out.1 hin
      obtain ⟨oa', ocap', og', e', hoc⟩ := outs_cells HR1.out
      cases e'
      obtain ⟨rfl, _, e0, e1⟩ := hoc 0 (by simp)
      obtain ⟨_, _, e2, e3⟩ := hoc 1 (by simp)
      obtain ⟨_, _, e4, e5⟩ := hoc 2 (by simp)
      have c0 : W10.cell? ⟨og', 0, none⟩ = some (.int .i64 1) := e0
      have c1 : W10.cell? ⟨og', 1, none⟩ = some (.string dat) := e1
      have c2 : W10.cell? ⟨og', 2, none⟩ = some (.int .i64 2) := e2
      have c3 : W10.cell? ⟨og', 3, none⟩ = some (.string dat) := e3
      have c4 : W10.cell? ⟨og', 4, none⟩ = some (.int .i64 3) := e4
      have c5 : W10.cell? ⟨og', 5, none⟩ = some (.string dat) := e5
      have hgd1 := block_lt_of_cell c0
      clear HJ9 HR1 e0 e1 e2 e3 e4 e5 hoc
      by_cases n1 : n < a
      · clear hin
        go_wp2_with fail
        go_quiet (fail)
        go_wp2
        go_ret
        exact ⟨rfl, below_drewN HL10.out nq⟩
      · have n2 : b < n := by omega
        clear hin
        go_wp2_with fail
        go_quiet (fail)
        go_wp2
        go_ret
        exact ⟨rfl, below_drewN HL10.out nq⟩
end Go.Proofs.YtaejpejfmpbinaaGreatDoor
