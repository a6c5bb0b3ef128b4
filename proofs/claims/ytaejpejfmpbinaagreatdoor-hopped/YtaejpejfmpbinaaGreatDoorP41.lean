import Derived.Test.YtaejpejfmpbinaaGreatDoorP40
import Derived.BigQuiet
namespace Go.Proofs.YtaejpejfmpbinaaGreatDoor
open Go.RowKit Go.Maps

set_option maxRecDepth 100000 in
set_option maxHeartbeats 4000000 in
theorem hopped_s0 (tt pp ff dd ot : Int) (w : World) (hl : Laid w) (hm : Means w) (h0 : -9223372036854775808 ≤ tt ∧ tt ≤ 9223372036854775807) (h1 : -9223372036854775808 ≤ pp ∧ pp ≤ 9223372036854775807) (h2 : -9223372036854775808 ≤ ff ∧ ff ≤ 9223372036854775807) (h3 : -9223372036854775808 ≤ dd ∧ dd ≤ 9223372036854775807) (h4 : -9223372036854775808 ≤ ot ∧ ot ≤ 9223372036854775807) (hs0 : pickV ot 3 = 0) :
    Calls Tryz.prog 5 #[.int .i64 tt, .int .i64 pp, .int .i64 ff, .int .i64 dd, .int .i64 ot] w fun e w' => e = .returned (.bool true) ∧ Below w.heap.size w w' := by
  have CH := hide (hop_head w hl hm)
  have CP := hide fun (c n : Int) (W : World) (h1 : -9223372036854775808 ≤ c) (h2 : c ≤ 9223372036854775807) (hn : 0 < n) (hn2 : n ≤ 9223372036854775807) => pick_any c n W h1 h2 hn hn2
  have CK := hide fun (n : Int) (W : World) (h0 : 0 ≤ n) (h1 : n ≤ 9223372036854775807) => kmac_any n W h0 h1
  have H0 := hide h0
  have H1 := hide h1
  have H2 := hide h2
  have H3 := hide h3
  have H4 := hide h4
  have HS0 := hide hs0
  clear hl hm h0 h1 h2 h3 h4 hs0
  go_enter Tryz.func5, Tryz.ntmps5
  go_wp2_with fail
  refine CH.out.mono ?_
  rintro e W1 ⟨s, rfl, hb1, k, m, pv, fm, t, vb, F, rb, hb, Q, hS1, hP1⟩
  have C1 := hide (hop_port w.heap.size s k m fm t vb rb hb pv _ _ _ P4 [] [] F [] Q 1 2 W1 hS1 hb1.size hP1 (by decide +kernel))
  have HB1 := hide hb1
  clear hS1 hP1 hb1 CH
  go_wp2_with fail
  refine C1.out.mono ?_
  rintro e W2 ⟨rfl, Q2, hS2, hP2, hb2⟩
  have C2 := hide (hop_port w.heap.size s k m fm t vb rb hb pv _ _ _ _ [] [] F [] Q2 2 3 W2 hS2 (HB1.out.trans hb2).size hP2 (by decide +kernel))
  have HB2 := hide (HB1.out.trans hb2)
  clear hS2 hP2 hb2 C1 HB1
  go_wp2_with fail
  refine C2.out.mono ?_
  rintro e W3 ⟨rfl, Q3, hS3, hP3, hb3⟩
  have C3 := hide (hop_port w.heap.size s k m fm t vb rb hb pv _ _ _ _ [] [] F [] Q3 3 4 W3 hS3 (HB2.out.trans hb3).size hP3 (by decide +kernel))
  have HB3 := hide (HB2.out.trans hb3)
  clear hS3 hP3 hb3 C2 HB2
  go_wp2_with fail
  refine C3.out.mono ?_
  rintro e W4 ⟨rfl, Q4, hS4, hP4, hb4⟩
  have HF4 : Hid (HopF w s 1 W4) := hide ⟨HB3.out.trans hb4, k, m, pv, fm, _, [], t, vb, F, rb, hb, hS4, fun x => ⟨fun h => absurd h (List.not_mem_nil), fun ⟨v, h1, h2, _⟩ => by omega⟩, rfl⟩
  clear hS4 hP4 hb4 C3 HB3
  go_wp2_with fail
  go_loopw [15, 16] (fun v _ wr => ∃ j : Nat, 1 ≤ j ∧ j ≤ 5 ∧ v = .int .i64 j ∧ Hid (HopF w s j wr)) (fun v _ _ => 5 - (intOf v).toNat)
  case atStart => exact ⟨1, by omega, by omega, rfl, HF4⟩
  case round =>
    clear HF4
    obtain ⟨j, hj1, hj5, rfl, hI⟩ := hrel
    by_cases hlt : j < 5
    · have hji : (j : Int) < 5 := by omega
      have hji0 : (0 : Int) ≤ (j : Int) := by omega
      go_wp2_with fail
      refine (CK.out j _ (by omega) (by omega)).mono ?_
      rintro e Wa ⟨rfl, hba⟩
      have CF := hide (hop_face_any w s j Wa (hI.out.later hba) ⟨hj1, by omega⟩)
      clear hba
      go_wp2_with fail
      refine CF.out.mono ?_
      rintro e Wb ⟨rfl, hF⟩
      have HF := hide hF
      clear hF CF hI
      go_wp2
      go_roundw
      case rel => exact ⟨j + 1, by omega, by omega, by go_num, HF⟩
      case measure => simp [intOf]; omega
    · have hji : ¬ (j : Int) < 5 := by omega
      have HG : Hid (∀ d, HopG w s d 0 wr) := hide fun d => by
        have hI' := hI.out
        rw [show j = 5 by omega] at hI'
        exact hI'.routes d
      clear hI
      have pd := pickV_range dd (n := 4294967296) (by omega)
      go_wp2_with fail
      refine (CP.out dd 4294967296 _ H3.out.1 H3.out.2 (by omega) (by omega)).mono ?_
      rintro e W ⟨rfl, hww⟩
      rw [hww]
      clear hww W
      generalize pickV dd 4294967296 = dz at *
      obtain ⟨d, rfl⟩ : ∃ d : Nat, dz = d := ⟨dz.toNat, by omega⟩
      have hd : d < 4294967296 := by omega
      go_wp2_with fail
      refine (CK.out 102 _ (by omega) (by omega)).mono ?_
      rintro e Wa ⟨rfl, hba⟩
      have C0 : Hid (Calls Tryz.prog 15 #[.pointer (some ⟨s, 0, none⟩), .int .i64 0, .int .i64 0, .int .i64 2, .string (ofL (macL 102))] Wa fun e W' => e = .returned (.int .i64 0) ∧ HopG w s d 1 W') := hide (hop_route_any w s d 0 Wa ((HG.out d).later hba) 0 0 2 102 rfl (fun q hq => absurd hq (List.not_mem_nil)) (by omega) (by omega) rfl (by omega))
      clear hba HG
      go_wp2_with fail
      refine C0.out.mono ?_
      rintro e Wb ⟨rfl, hG⟩
      have HG1 := hide hG
      clear hG C0
      go_wp2_with fail
      refine (CK.out 103 _ (by omega) (by omega)).mono ?_
      rintro e Wa ⟨rfl, hba⟩
      have C8 : Hid (Calls Tryz.prog 15 #[.pointer (some ⟨s, 0, none⟩), .int .i64 ((d : Int) / 16777216 * 16777216), .int .i64 8, .int .i64 3, .string (ofL (macL 103))] Wa fun e W' => e = .returned (.int .i64 0) ∧ HopG w s d 2 W') := hide (by
        have h := hop_route_any w s d 1 Wa (HG1.out.later hba) (d / 16777216 * 16777216) 8 3 103 rfl (fun q hq => by obtain rfl := List.mem_singleton.1 hq; show (0 : Int) ≠ 8; decide) (by omega) (by omega) (by rw [pf8]; omega) (by omega)
        rw [show (((d / 16777216 * 16777216 : Nat)) : Int) = (d : Int) / 16777216 * 16777216 by omega] at h
        exact h)
      clear hba HG1
      go_wp2_with fail
      refine C8.out.mono ?_
      rintro e Wb ⟨rfl, hG⟩
      have HG2 := hide hG
      clear hG C8
      go_wp2_with fail
      refine (CK.out 104 _ (by omega) (by omega)).mono ?_
      rintro e Wa ⟨rfl, hba⟩
      have C24 : Hid (Calls Tryz.prog 15 #[.pointer (some ⟨s, 0, none⟩), .int .i64 ((d : Int) / 256 * 256), .int .i64 24, .int .i64 4, .string (ofL (macL 104))] Wa fun e W' => e = .returned (.int .i64 0) ∧ HopG w s d 3 W') := hide (by
        have h := hop_route_any w s d 2 Wa (HG2.out.later hba) (d / 256 * 256) 24 4 104 rfl (fun q hq => by
          rcases List.mem_cons.1 hq with rfl | hq
          · show (0 : Int) ≠ 24; decide
          · obtain rfl := List.mem_singleton.1 hq
            show (8 : Int) ≠ 24; decide) (by omega) (by omega) (by rw [pf24]; omega) (by omega)
        rw [show (((d / 256 * 256 : Nat)) : Int) = (d : Int) / 256 * 256 by omega] at h
        exact h)
      clear hba HG2
      go_wp2_with fail
      refine C24.out.mono ?_
      rintro e Wb ⟨rfl, hG⟩
      have HG3 := hide hG
      have p3 := pickV_range ot (n := 3) (by omega)
      clear hG C24
      go_wp2_with fail
      refine (CP.out ot 3 _ H4.out.1 H4.out.2 (by omega) (by omega)).mono ?_
      rintro e W ⟨rfl, hww⟩
      rw [hww]
      clear hww W
      have p0 := pickV_range tt (n := 256) (by omega)
      have p1 := pickV_range pp (n := 256) (by omega)
      have p2 := pickV_range ff (n := 4294967296) (by omega)
      have hs3 := HS0.out
      have HX := hide (xor_hop hd)
      rw [hs3]
      have HS3 := hide hs3
      clear hs3 p3
      go_wp2_with fail
      refine (CP.out ot 3 _ H4.out.1 H4.out.2 (by omega) (by omega)).mono ?_
      rintro e W ⟨rfl, hww⟩
      rw [hww, HS3.out]
      clear hww W
      go_wp2_with fail
      refine (CP.out tt 256 _ H0.out.1 H0.out.2 (by omega) (by omega)).mono ?_
      rintro e W ⟨rfl, hww⟩
      rw [hww]
      clear hww W
      go_wp2_with fail
      refine (CP.out pp 256 _ H1.out.1 H1.out.2 (by omega) (by omega)).mono ?_
      rintro e W ⟨rfl, hww⟩
      rw [hww]
      clear hww W
      go_wp2_with fail
      refine (CP.out ff 4294967296 _ H2.out.1 H2.out.2 (by omega) (by omega)).mono ?_
      rintro e W ⟨rfl, hww⟩
      rw [hww]
      clear hww W
      generalize pickV tt 256 = t0 at *
      generalize pickV pp 256 = pr at *
      generalize pickV ff 4294967296 = fr at *
      have hal : d < 4294967296 := hd
      have CPk : Hid (∀ W : World, Calls Tryz.prog 16 #[.int .i64 t0, .int .i64 pr, .int .i64 fr, .int .i64 (d : Nat), .string ⟨#[116, 104, 101, 32, 114, 101, 115, 116, 32, 111, 102, 32, 105, 116]⟩] W fun e w' => e = .returned (.string (ofL (pkL t0 pr fr (d : Nat) hopT))) ∧ Below W.heap.size W w') := hide fun W => kpacket_any t0 pr fr (d : Nat) hopT W (by omega) (by omega) (by omega) (by omega) (by decide)
      have CF1 : Hid (∀ W : World, HopG w s d 3 W → Calls Tryz.prog 9 #[.pointer (some ⟨s, 0, none⟩), .int .i64 0, .string (ofL (hopD (pkL t0 pr fr (d : Nat) hopT)))] W (HEnd w s d W fun r L => (t0 < 2 → r = 6 ∧ L = []) ∧ (2 ≤ t0 → r = 0 ∧ L = [(3, ofL (hopO t0 pr fr (d : Nat) hopT 4))]))) := hide fun W h => hop_first w s d W h hd 0 (by omega) t0 pr fr hopT (by decide) (by omega)
      have E1 := hide (hopD_eq (pkL t0 pr fr (d : Nat) hopT))
      have z1 : (ofL (macL 1)).size = 6 := by rw [ofL_size, macL_length]
      have z5 : (ofL (macL 50)).size = 6 := by rw [ofL_size, macL_length]
      have zp : (ofL (pkL t0 pr fr (d : Nat) hopT)).size = 34 := by rw [pk_size]; rfl
      have C1 := hide fun (W : World) => kmac_any 1 W (by omega) (by omega)
      have C50 := hide fun (W : World) => kmac_any 50 W (by omega) (by omega)
      have FACT := hide (hop_facts t0 pr fr (d : Nat) 4 (by omega))
      generalize hxp : ofL (pkL t0 pr fr (d : Nat) hopT) = xp at *
      generalize ofL (hopD (pkL t0 pr fr (d : Nat) hopT)) = dat at *
      generalize hx1 : ofL (macL 1) = x1 at *
      generalize hx5 : ofL (macL 50) = x5 at *
      have HX1 := hide hx1
      have HX5 := hide hx5
      clear hx1 hx5
      generalize ofL (hopO t0 pr fr (d : Nat) hopT 4) = dout at *
      have HXP := hide hxp
      clear hxp
      go_wp2_with fail
      refine (CPk.out _).mono ?_
      rintro e Wa ⟨rfl, hba⟩
      have HGa := hide (HG3.out.later hba)
      clear hba HG3 CPk
      go_wp2_with fail
      refine (C1.out _).mono ?_
      rintro e Wc ⟨rfl, hbc⟩
      go_wp2_with fail
      refine (C50.out _).mono ?_
      rintro e We ⟨rfl, hbe⟩
      have HGe := hide ((HGa.out.later hbc).later hbe)
      clear hbc hbe HGa C1 C50
      go_wp2_with fail
      rw [E1.out]
      refine (CF1.out _ HGe.out).mono ?_
      rintro e Wf ⟨r, L, ov, rfl, hJ, hrow, hH⟩
      have HH := hide hH
      have HJ := hide hJ
      have HROW := hide hrow
      obtain ⟨oa, ocap, og, rfl, hoc0⟩ := outs_cells hrow
      clear hoc0 hJ hrow hH HGe CF1
      by_cases ht2 : t0 < 2
      · obtain ⟨rfl, rfl⟩ := HJ.out.1 ht2
        clear HJ HROW
        go_wp2
        go_ret
        exact ⟨rfl, HH.out.1⟩
      · obtain ⟨rfl, rfl⟩ := HJ.out.2 (by omega)
        obtain ⟨oa', ocap', og', e', hoc⟩ := outs_cells HROW.out
        cases e'
        obtain ⟨rfl, _, e0, e1⟩ := hoc 0 (by simp)
        have c0 : Wf.cell? ⟨og', 0, none⟩ = some (.int .i64 3) := e0
        have c1 : Wf.cell? ⟨og', 1, none⟩ = some (.string dout) := e1
        have hgd1 := block_lt_of_cell c0
        clear HJ HROW e0 e1 hoc
        have hds : dout.size = 48 := FACT.out.1
        have hs14 : dout.extract 0 14 = ofL (macL 104) ++ ofL (macL 4) ++ ⟨#[8, 0]⟩ := FACT.out.2.1
        have hs48 : dout.extract 14 48 = ofL (hopL t0 pr fr (d : Nat) hopT) := FACT.out.2.2
        have CKa : Hid (∀ W : World, Calls Tryz.prog 10 #[.int .i64 (IntKind.i64.wrap 104)] W fun e w' => e = .returned (.string (ofL (macL 104))) ∧ Below W.heap.size W w') := hide fun (W : World) => kmac_any 104 W (by omega) (by omega)
        have CKb : Hid (∀ W : World, Calls Tryz.prog 10 #[.int .i64 4] W fun e w' => e = .returned (.string (ofL (macL 4))) ∧ Below W.heap.size W w') := hide fun (W : World) => kmac_any 4 W (by omega) (by omega)
        have ya : (ofL (macL 104)).size = 6 := by rw [ofL_size, macL_length]
        have yb : (ofL (macL 4)).size = 6 := by rw [ofL_size, macL_length]
        have HQL : Hid (ofL (hopL t0 pr fr (d : Nat) hopT) = ofL (hopL t0 pr fr (d : Nat) hopT)) := hide rfl
        generalize hxq : ofL (hopL t0 pr fr (d : Nat) hopT) = xq at hs48
        have HXQ := hide hxq
        clear hxq FACT HQL
        go_wp2_with fail
        refine wp_region_quiet_below (by kernel_rfl) (by kernel_rfl) ?_
        repeat (first | go_big_quiet_skip | quiet_step (first | (with_reducible exact Calls.regrown_of (CKa.out _)) | (with_reducible exact Calls.regrown_of (CKb.out _))))
        refine wpQuiet_nil ?_; intro wq hwq; replace hwq := below_of_regrown hwq; obtain ⟨hcq, hfq⟩ := bcell hwq; have hzq := hwq.size
        have HHq := hide (HH.out.later hwq)
        clear hwq hcq hfq c0 c1 hgd1 HH
        go_wp2_with fail
        have hz0 : -9223372036854775808 ≤ wrap64 (ot.tdiv 3) ∧ wrap64 (ot.tdiv 3) ≤ 9223372036854775807 := wrap64_rng _
        refine (CP.out (wrap64 (ot.tdiv 3)) 20 _ hz0.1 hz0.2 (by omega) (by omega)).mono ?_
        rintro e W ⟨rfl, hww⟩
        rw [hww]
        clear hww W
        have pb := pickV_range (wrap64 (ot.tdiv 3)) (n := 20) (by omega)
        generalize pickV (wrap64 (ot.tdiv 3)) 20 = bz at *
        obtain ⟨bd, rfl⟩ : ∃ bd : Nat, bz = bd := ⟨bz.toNat, by omega⟩
        have hbd : bd < 20 := by omega
        have hbi : (bd : Int) < 20 := by omega
        have hbl : bd < 34 := by omega
        have hbl1 : bd + 1 ≤ 34 := by omega
        obtain ⟨y, hy, hxr, hfl, hcat⟩ := hop_flip t0 pr fr (d : Nat) bd hbd
        rw [HXP.out] at hxr hcat
        rw [HX1.out, HX5.out] at hcat
        have hidx : ∀ W : World, (Instr.index 9 (.string xp) (.int .i64 (bd : Int))).run Tryz.prog W = .ok (.int .u8 (b8 xp bd : Int)) W := fun W => index_b8 xp bd (by omega) W
        have hcv : ∀ (W : World) (g : Nat), W.cell? ⟨g, 0, none⟩ = some (.int .u8 (y.toNat : Int)) → (convert 42 9 (.slice (some ⟨g, 0, none⟩) 1 1)).run Tryz.prog W = .ok (.string ⟨#[y]⟩) W := fun W g hg => by
          have h := convB W g (y.toNat : Int) (by have := y.toNat_lt; omega) hg
          rwa [Int.toNat_natCast, UInt8.ofNat_toNat] at h
        have CF2 := hide fun (W : World) (h : HopH w s d W) => hop_second w s d W h ((pkL t0 pr fr (d : Nat) hopT).set bd y) (by rw [List.length_set, ← ofL_size, HXP.out]; omega) hfl
        generalize ofL (hopD ((pkL t0 pr fr (d : Nat) hopT).set bd y)) = dat2 at *
        have E2 := hide hcat
        have ze1 : (xp.extract 0 bd).size = bd := by rw [ByteArray.size_extract]; omega
        have ze2 : (xp.extract (bd + 1) 34).size = 33 - bd := by rw [ByteArray.size_extract]; omega
        have hi1 : (bd : Int) + 1 ≤ 34 := by omega
        have hi2 : (bd : Int) ≤ 34 := by omega
        have hi3 : (0 : Int) ≤ (bd : Int) + 1 := by omega
        have hw1 : IntKind.i64.wrap ((bd : Int) + 1) = (bd : Int) + 1 := by rw [IntKind.wrap_i64]; omega
        have ht1 : ((bd : Int) + 1).toNat = bd + 1 := by omega
        clear hcat hfl hy hz0 pb
        go_upto_region 42 with fail
        go_cut [31, 32] from 175 to 196 (fun k y wx => ∃ a c, k = .slice a 0 c ∧ y = .int .i64 5 ∧ Below w.heap.size w wx)
        case first =>
          go_region_with
            (first | (go_at_call 9; rw [E2.out]; refine (CF2.out _ ?_).mono ?_; (exact HHq.out.later (by repeat (first | exact Below.refl _ _ | assumption | refine Below.drewN ?_ | refine Below.drew ?_ | refine Below.setCell ?_ (by first | exact Nat.le_refl _ | omega | (simp; done) | (simp; omega)) _ | refine Below.alloc ?_ (by first | exact Nat.le_refl _ | omega | (simp; done) | (simp; omega)) _))); rintro e W2 ⟨ov2, rfl, hrow2, hb2⟩; obtain ⟨ka, kc, rfl⟩ := slice_of hrow2; clear hrow2))
          all_goals go_wp2_with fail
          all_goals go_meet
          all_goals exact ⟨_, _, rfl, rfl, (by repeat (first | exact Below.refl _ _ | assumption | refine Below.drewN ?_ | refine Below.drew ?_ | refine Below.setCell ?_ (by first | exact Nat.le_refl _ | omega | (simp; done) | (simp; omega)) _ | refine Below.alloc ?_ (by first | exact Nat.le_refl _ | omega | (simp; done) | (simp; omega)) _))⟩
        case rest =>
          obtain ⟨ka, kc, rfl, rfl, hbw⟩ := hcut
          obtain ⟨zq, q8, qe1, qe2, qe3, qs⟩ := hop_facts2 t0 pr fr (d : Nat) (by omega)
          rw [HXQ.out] at zq q8 qe1 qe2 qe3 qs
          rw [HXP.out] at qe1 qe2 qe3
          have hidq : ∀ W : World, (Instr.index 9 (.string xq) (.int .i64 8)).run Tryz.prog W = .ok (.int .u8 (t0 - 1)) W := fun W => by
            have h := index_b8 xq 8 (by omega) W
            rwa [q8] at h
          have CS : Hid (∀ W : World, Calls Tryz.prog 17 #[.string xq] W fun e w' => e = .returned (.int .i64 65535) ∧ Below W.heap.size W w') := hide fun W => by
            have h := ksum_any xq W (by omega) (by omega)
            rw [qs] at h
            exact h
          have ht1 : 0 ≤ t0 - 1 ∧ t0 - 1 < 256 := by omega
          have HBW := hide hbw
          clear hbw hidx hcv CF2 E2 q8 qs HHq ze1 ze2
          go_wp2_with fail
          refine wp_region_quiet_below (by kernel_rfl) (by kernel_rfl) ?_
          repeat (first | go_big_quiet_skip | quiet_step (with_reducible exact Calls.regrown_of (CS.out _)))
          refine wpQuiet_nil ?_; intro wq hwq; replace hwq := below_of_regrown hwq; obtain ⟨hcq, hfq⟩ := bcell hwq; have hzq := hwq.size
          have HBQ := hide (HBW.out.trans (hwq.mono HBW.out.size))
          clear hwq hcq hfq
          go_wp2
          go_ret
          exact ⟨rfl, HBQ.out⟩
end Go.Proofs.YtaejpejfmpbinaaGreatDoor
