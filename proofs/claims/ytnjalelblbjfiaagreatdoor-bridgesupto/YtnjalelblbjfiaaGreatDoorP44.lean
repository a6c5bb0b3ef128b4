import Derived.Test.YtnjalelblbjfiaaGreatDoorP43
import Derived.BigQuiet
namespace Go.Proofs.YtnjalelblbjfiaaGreatDoor
open Go.RowKit
attribute [local go_sem] Oper.semAt_some cell?_regrown

theorem frameR_knows {P : List Prt} {K : List Mc} {unp : Pg → Pg} {jud : Pg → Option (Int × List (Int × ByteArray))} {rou : Pg → Int ⊕ Pg} {port : Int} {d : ByteArray} {r : Int} {L : List (Int × ByteArray)} {K' : List Mc} (h : FrameR P K unp jud rou port d r L K') : K' = K ∨ ((0 ≤ port ∧ port < P.length) ∧ ∃ v mac, LearnK K ⟨v, mac, port, 0⟩ K' ∧ isGrp mac = false) := by
  have grp : ∀ f, fateRead d = -1 → readF d = some f → isGrp f.fr = false := fun f hr hf => by
    unfold fateRead at hr
    rw [if_neg (by have := fateRead_size hr; omega), hf] at hr
    cases hg : isGrp f.fr with
    | false => rfl
    | true => simp only [hg] at hr; cases hr
  cases h with
  | unknown => exact .inl rfl
  | bad => exact .inl rfl
  | barred => exact .inl rfl
  | judged f _ _ _ hp hr hf hb hl => exact .inr ⟨hp, _, _, hl, grp f hr hf⟩
  | stopped f _ _ hp hr hf hb hl => exact .inr ⟨hp, _, _, hl, grp f hr hf⟩
  | out f _ q hp hr hf hb hl => exact .inr ⟨hp, _, _, hl, grp f hr hf⟩

theorem frameR_len {P : List Prt} {K : List Mc} {unp : Pg → Pg} {V : Int → Int × Int} {rou : Pg → Int ⊕ Pg} {port : Int} {d : ByteArray} {r : Int} {L : List (Int × ByteArray)} {K' : List Mc} (h : FrameR P K unp (judP [] V P) rou port d r L K') : L.length ≤ P.length := by
  cases h with
  | judged f _ _ _ hp hr hf hb hl hj => rw [judP_no] at hj; cases hj
  | out => exact fwdO_length _ _ _ _ _
  | _ => exact Nat.zero_le _
theorem row_out {w : World} {B : Nat} {v : Value} {L : List (Int × ByteArray)} (h : w.ownsRow B 66 2 v L.length (rowO L)) : ∃ a cap g, v = .slice a L.length cap ∧ ∀ k (hk : k < L.length), a = some ⟨g, 0, none⟩ ∧ w.cell? ⟨g, k * 2, none⟩ = some (.int .i64 L[k].1) ∧ w.cell? ⟨g, k * 2 + 1, none⟩ = some (.string L[k].2) := by
  by_cases h0 : L = []
  · subst h0
    rcases h.2 with ⟨e, -⟩ | ⟨g, cap, cur, e, -⟩
    · exact ⟨none, 0, 0, e, fun k hk => absurd hk (Nat.not_lt_zero k)⟩
    · exact ⟨_, _, 0, e, fun k hk => absurd hk (Nat.not_lt_zero k)⟩
  · have hr : RecOwn outRec B w 66 2 v L := ⟨h, fun e => absurd e h0⟩
    obtain ⟨a, cap, g, e, hc⟩ := hr.row outRec_length
    exact ⟨a, cap, g, e, fun k hk => ⟨(hc k hk).1, (hc k hk).2 0 _ rfl, (hc k hk).2 1 _ rfl⟩⟩
set_option maxRecDepth 100000 in
set_option maxHeartbeats 4000000 in
theorem lframe_any (w : World) (wb i : Nat) (tv sv kv : Value) (n : Nat) (Ts : List TabD) (Ss : List SwD) (Ks : List KeptD) (col : Nat → Nat) (M : Int) (port : Int) (dat : ByteArray) (h : LW w wb tv sv kv n Ts Ks col) (hs : LS w sv Ss col M) (hi : i < Ss.length) (hp : Ss[i].Plain) (hn : n < 1000000000) (hK : Ks.length + 4 ≤ 1000000000) :
    Calls Tryz.prog 28 #[.pointer (some ⟨wb, 0, none⟩), .pointer (some ⟨Ss[i].p, 0, none⟩), .int .i64 port, .string dat] w fun e W => e = .returned (.bool true) ∧ ∃ kv' Ks' col' d', Ks'.length = Ks.length + 4 ∧ LW W wb tv sv kv' (n + 1) Ts Ks' col' ∧ LS W sv (Ss.set i d') col' M ∧ d'.Plain ∧ Left w W col col' := by
  have hd := hs.sw i hi
  obtain ⟨d, hde⟩ : ∃ d, d = Ss[i] := ⟨_, rfl⟩
  rw [← hde] at hd hp ⊢
  have hP : d.P.length = d.x.Q.length := by rw [hd.eP]; unfold XSt.P; rw [List.length_map]
  have hn0 : 0 < d.P.length := by rw [hP]; exact hd.n0
  have hN : ∀ p ∈ d.P, 0 ≤ p.nat ∧ p.nat < 4096 := fun p hp => by
    rw [hd.eP] at hp
    obtain ⟨q, hq, rfl⟩ := List.mem_map.1 hp
    exact hd.nt q hq
  have q0 := hd.c0
  have q1 := hd.c1
  have hpl : d.p < w.heap.size := block_lt_of_cell q0
  have CR := hide (sFrame_plain d port dat w hd.imp hn0 (by rw [hP]; exact hd.n8) (by rw [hd.eK]; exact hd.k64) hN hp.fs hp.l hp.v hp.r hd.one)
  have HH := hide h
  have HS := hide hs
  have HD := hide hd
  have HP := hide hp
  have HN := hide hn
  have HK := hide hK
  have HDE := hide hde
  clear h hs hd hp hn hK hde hN
  go_enter Tryz.func28, Tryz.ntmps28
  go_wp2_with fail
  refine CR.out.mono ?_
  rintro e W1 ⟨r, L, K1, ov, sv1, rfl, hR1, hown, hkn, ho1, hov, hc1⟩
  have mX : ∀ b, KX d.m d.sv b → d.mine b := fun b hb => by
    rcases hb with e | e
    · exact .inr (.inr (.inl e))
    · exact .inr (.inr (.inr (.inl e)))
  have hnp : ¬ KX d.m d.sv d.p := fun e => by have := HD.out.cI _ (mX _ e); rw [HD.out.cp] at this; omega
  have p1 := hc1.block.cell hnp q1
  have hpl1 : d.p < W1.heap.size := block_lt_of_cell p1
  have hx1 : XSw W1 d.y d.x := HD.out.ref.keep fun b hb hbl => hc1.block b hbl fun e => by
    have e1 := HD.out.cI b (mX b e)
    rw [HD.out.cX b hb] at e1
    omega
  have CX := hide (xFrame_plain d.y d.x port dat W1 hx1 (fun q hq => by have := HD.out.tl q hq; omega) HD.out.n8 HD.out.k64 (by rw [← HD.out.eK]; exact HD.out.imp.p.hK.2.2.2) HD.out.kp HD.out.nt HP.out.xf HP.out.xr unpP (judP [] noV d.P) (rouP [] []) unpP_like (judP_no noV d.P) (fun q _ => rouP_no [] q))
  obtain ⟨a1, c1, g1, hov1, hrow1⟩ := row_out hown
  have HR1 := hide hR1
  have HOWN := hide hown
  have HKN := hide hkn
  have HO1 := hide ho1
  have HOV := hide hov
  have HC1 := hide hc1
  have HROW1 := hide hrow1
  have HOVE := hide hov1
  have HX1 := hide hx1
  have HMX := hide mX
  rw [hov1]
  clear hR1 hown hkn ho1 hov hc1 hrow1 hov1 hx1 mX hnp CR q0 q1 hpl
  go_wp2_with fail
  refine CX.out.mono ?_
  rintro e W2 ⟨lv, r2, L2, kv2, K2, rfl, hR2, hrec, hx2, hc2, ho2, hnil⟩
  have hR1 := HR1.out
  rw [HD.out.eK] at hR1
  rw [← HD.out.eP] at hR2
  obtain ⟨er, eL, eK⟩ := frameR_unique hR1 hR2
  subst er eL eK
  obtain ⟨a2, c2, g2, hlv, hrow2⟩ := hrec.row outRec_length
  have hlen : L.length ≤ 8 := Nat.le_trans (frameR_len hR1) (by rw [hP]; exact HD.out.n8)
  have hli : (L.length : Int) ≤ 8 := by omega
  have ovb : ∀ x, ov.ownBlock = some x → w.heap.size ≤ x ∧ x < W1.heap.size := fun x hx => HOWN.out.lt x hx
  have nov : ∀ x, ov.ownBlock = some x → ¬ (x = d.y ∨ d.x.kv.ownBlock = some x) := fun x hx e => by
    have h1 := (ovb x hx).1
    rcases e with e | e
    · have := HD.out.ref.lt; omega
    · have := HD.out.ref.rk.lt e; omega
  have hown2 : W2.ownsRow w.heap.size 66 2 ov L.length (rowO L) := ownsRow_blk HOWN.out fun x hx => hc2.block x (ovb x hx).2 (nov x hx)
  have HROW1b : Hid (∀ k (hk : k < L.length), a1 = some ⟨g1, 0, none⟩ ∧ W2.cell? ⟨g1, k * 2, none⟩ = some (.int .i64 L[k].1) ∧ W2.cell? ⟨g1, k * 2 + 1, none⟩ = some (.string L[k].2)) := hide fun k hk => by
    obtain ⟨ha, e0, e1⟩ := HROW1.out k hk
    have hx : ov.ownBlock = some g1 := by rw [HOVE.out, ha]; rfl
    have hb := hc2.block g1 (ovb g1 hx).2 (nov g1 hx)
    exact ⟨ha, (World.cell?_of_block (a := ⟨g1, k * 2, none⟩) hb).trans e0, (World.cell?_of_block (a := ⟨g1, k * 2 + 1, none⟩) hb).trans e1⟩
  have HROW2 : Hid (∀ k (hk : k < L.length), a2 = some ⟨g2, 0, none⟩ ∧ W2.cell? ⟨g2, k * 2, none⟩ = some (.int .i64 L[k].1) ∧ W2.cell? ⟨g2, k * 2 + 1, none⟩ = some (.string L[k].2)) := hide fun k hk => ⟨(hrow2 k hk).1, (hrow2 k hk).2 0 _ rfl, (hrow2 k hk).2 1 _ rfl⟩
  have HOWN2 := hide hown2
  have HR := hide hR1
  have HX2 := hide hx2
  have HC2 := hide hc2
  have HO2 := hide ho2
  have HNIL := hide hnil
  have HOVB := hide ovb
  rw [hlv]
  clear hR1 hR2 hrec hx2 hc2 ho2 hnil hlv hrow2 CX p1 hpl1 ovb nov hown2 HR1 HROW1
  go_wp2_with fail
  go_loopw [13, 14] (fun o i wr => o = .bool true ∧ ∃ j : Nat, j ≤ L.length ∧ i = .int .i64 j ∧ Below W2.heap.size W2 wr) (fun _ i _ => L.length - (intOf i).toNat)
  case atStart => exact ⟨by simp, 0, by omega, rfl, Below.refl _ _⟩
  case round =>
    obtain ⟨rfl, j, hj, rfl, hbj⟩ := hrel
    by_cases hjl : j < L.length
    · have hji : (j : Int) < L.length := by omega
      obtain ⟨rfl, e0, e1⟩ := HROW1b.out j hjl
      obtain ⟨rfl, e2, e3⟩ := HROW2.out j hjl
      obtain ⟨po, hpo⟩ : ∃ po, po = L[j].1 := ⟨_, rfl⟩
      obtain ⟨da, hda⟩ : ∃ da, da = L[j].2 := ⟨_, rfl⟩
      rw [← hpo] at e0 e2
      rw [← hda] at e1 e3
      have f0 := cell_later hbj e0
      have f1 := cell_later hbj e1
      have f2 := cell_later hbj e2
      have f3 := cell_later hbj e3
      have l1 : g1 < wr.heap.size := block_lt_of_cell f0
      have l2 : g2 < wr.heap.size := block_lt_of_cell f2
      have HBJ := hide hbj
      clear hbj hpo hda e0 e1 e2 e3
      go_wp2_with fail
      refine wp_region_quiet_below (by kernel_rfl) (by kernel_rfl) ?_
      repeat (quiet_step (fail))
      refine wpQuiet_nil ?_; intro wq hwq; replace hwq := below_of_regrown hwq; obtain ⟨hcq, hfq⟩ := bcell hwq; have hzq := hwq.size
      have HQ := hide hwq
      clear hwq hcq hfq hzq f0 f1 f2 f3
      go_wp2_with fail
      go_roundw
      case rel => exact ⟨by simp, j + 1, by omega, by go_num, HBJ.out.trans (HQ.out.mono HBJ.out.size)⟩
      case measure => simp [intOf]; omega
    · have hji : ¬ (j : Int) < L.length := by omega
      have hml : d.m < w.heap.size := HD.out.imp.lt (.inr (.inr (.inl rfl)))
      have tot2 : Chg (fun b => (b = d.k ∨ KX d.m d.sv b) ∨ (b = d.y ∨ d.x.kv.ownBlock = some b)) w wr := ((HC1.out.mono fun x _ hx => .inl (.inr hx)).trans (HC2.out.mono fun x _ hx => .inr hx)).trans (Chg.of_below hbj)
      have hcc : ∀ x, ((x = d.k ∨ KX d.m d.sv x) ∨ (x = d.y ∨ d.x.kv.ownBlock = some x)) → col x = 6 * i + 10 ∨ col x = 6 * i + 13 := fun x hx => by
        rcases hx with (e | e) | e | e
        · exact .inl (HD.out.cI x (.inr (.inl e)))
        · exact .inl (HD.out.cI x (HMX.out x e))
        · exact .inr (HD.out.cX x (.inl e))
        · exact .inr (HD.out.cX x (.inr (.inr (.inr (.inr (.inr (.inl e)))))))
      have clt : ∀ x, x < w.heap.size → learnt col w.heap.size i d.m sv1 kv2 x = col x := fun x hx => by unfold learnt; rw [if_pos hx]
      have ws : WS wr wb tv sv kv n Ks (learnt col w.heap.size i d.m sv1 kv2) := HH.out.ws.keep tot2 (fun x hx _ => by have := hcc x hx; omega) (fun x hx _ => clt x hx)
      have s1 := HC1.out.size
      have s2 := HC2.out.size
      have s3 := hbj.size
      have lst : Lst wr 66 2 ov L.length := ownsRow_lst (ownsRow_blk HOWN2.out fun x hx => hbj.block x (HOWN2.out.lt x hx).2)
      have hc0 : ∀ x, ov.ownBlock = some x → learnt col w.heap.size i d.m sv1 kv2 x = 0 := fun x hx => by
        obtain ⟨b1, b2⟩ := HOVB.out x hx
        unfold learnt
        rw [if_neg (by omega), if_neg, if_neg]
        · intro e
          rcases HO2.out x e with e' | e'
          · have := HD.out.ref.rk.lt e'; omega
          · omega
        · rintro (e | e)
          · exact (HOV.out x hx).2 e
          · exact (HOV.out x hx).1 e
      have CL := louts_any wr wb tv sv kv ov n L.length Ks (learnt col w.heap.size i d.m sv1 kv2) ws lst hc0 (by omega) HN.out HK.out
      rw [HOVE.out] at CL
      have CL1 := hide CL
      have HB := hide hbj
      clear CL ws lst hbj hc0
      go_wp2_with fail
      refine CL1.out.mono ?_
      rintro e W ⟨rfl, kv', Ks', col', hk', hws, hcg, hcol⟩
      rw [← HOVE.out] at hcg
      have hwl : wb < w.heap.size := block_lt_of_cell HH.out.c0
      -- what the caller's list turns
      have hcv : ∀ x, (x = wb ∨ kv.ownBlock = some x ∨ ov.ownBlock = some x) → (x < w.heap.size ∧ (col x = 1 ∨ col x = 3)) ∨ ov.ownBlock = some x := fun x hx => by
        rcases hx with e | e | e
        · rw [e]; exact .inl ⟨hwl, .inl HH.out.cw⟩
        · exact .inl ⟨HH.out.rK.lt e, .inr (HH.out.cK x e)⟩
        · exact .inr e
      have FIN : ∃ kv' Ks' col' d', Ks'.length = Ks.length + 4 ∧ LW W wb tv sv kv' (n + 1) Ts Ks' col' ∧ LS W sv (Ss.set i d') col' M ∧ d'.Plain ∧ Left w W col col' := by
        have hde := HDE.out
        subst hde
        have hsv1 : ∀ b, sv1.ownBlock = some b → b < W1.heap.size := fun b e => (ownsRow_lt HKN.out.2.2.1.1.2.2.1 e).2
        have kwn := HD.out.imp.beside hn0 HD.out.one
        have hkl : Ss[i].k < w.heap.size := HD.out.imp.lt (.inr (.inl rfl))
        have hck : col Ss[i].k = 6 * i + 10 := HD.out.cI _ (.inr (.inl rfl))
        have hcm : col Ss[i].m = 6 * i + 10 := HD.out.cI _ (.inr (.inr (.inl rfl)))
        -- a block of the program's switch behind the calls
        have keepI : ∀ b, b < W1.heap.size → (b < w.heap.size → col b = 6 * i + 10) → ov.ownBlock ≠ some b → W.heap[b]? = W1.heap[b]? := fun b hb hcb hob => by
          rw [hcg.block b (by omega) (fun e => by
            rcases hcv b e with ⟨h1, h2⟩ | h1
            · rw [hcb h1] at h2; omega
            · exact hob h1), HB.out.block b (by omega), HC2.out.block b hb (fun e => by
            have hbl : b < w.heap.size := by
              rcases e with e | e
              · rw [e]; exact HD.out.ref.lt
              · exact HD.out.ref.rk.lt e
            have e1 := hcc b (.inr e)
            have e2 : col b = 6 * i + 13 := by
              rcases e with e | e
              · exact HD.out.cX b (.inl e)
              · exact HD.out.cX b (.inr (.inr (.inr (.inr (.inr (.inl e))))))
            rw [hcb hbl] at e2; omega)]
        have ovk : ∀ b, b < w.heap.size → ov.ownBlock ≠ some b := fun b hb e => by have := (HOVB.out b e).1; omega
        have hkn : KnownAt W Ss[i].k Ss[i].m sv1 K1 := HKN.out.keep fun b hb e => by
          refine keepI b hb (fun hbl => ?_) ?_
          · rcases e with e | e | e
            · rw [e]; exact hck
            · rw [e]; exact hcm
            · rcases HO1.out b e with e' | e'
              · exact HD.out.cI b (.inr (.inr (.inr (.inl e'))))
              · omega
          · intro e'
            rcases e with e | e | e
            · exact ovk b (by rw [e]; exact hkl) e'
            · exact ovk b (by rw [e]; exact hml) e'
            · exact (HOV.out b e').1 e
        have nk : ¬ KX Ss[i].m Ss[i].sv Ss[i].k := by
          rintro (e | e)
          · have := HD.out.imp.p.hK.1
            rw [e, HD.out.imp.p.hK.2.2.1.1.1] at this
            cases this
          · obtain ⟨v, hv⟩ := (HD.out.imp.p.hK.2.2.1.head e).1
            rw [HD.out.imp.p.hK.1] at hv
            cases hv
        have one : W.cell? ⟨Ss[i].k, 1, none⟩ = none := by
          rw [World.cell?_of_block (a := ⟨Ss[i].k, 1, none⟩) ((keepI _ (by omega) (fun _ => hck) (ovk _ hkl)).trans (HC1.out.block _ hkl nk))]
          exact HD.out.one
        have hx2 : XSw W Ss[i].y { Ss[i].x with kv := kv2, K := K1 } := (HX2.out.below HB.out).keep fun b hb hbl => hcg.block b hbl fun e => by
          have hb' : (b < w.heap.size ∧ col b = 6 * i + 13) ∨ W1.heap.size ≤ b := by
            have old : Ss[i].x.blocks Ss[i].y b → (b < w.heap.size ∧ col b = 6 * i + 13) ∨ W1.heap.size ≤ b := fun e => .inl ⟨HD.out.ref.lts e, HD.out.cX b e⟩
            rcases hb with e | e | e | e | e | e | e
            · exact old (.inl e)
            · exact old (.inr (.inl e))
            · exact old (.inr (.inr (.inl e)))
            · exact old (.inr (.inr (.inr (.inl e))))
            · exact old (.inr (.inr (.inr (.inr (.inl e)))))
            · rcases HO2.out b e with e' | e'
              · exact old (.inr (.inr (.inr (.inr (.inr (.inl e'))))))
              · exact .inr e'
            · exact old (.inr (.inr (.inr (.inr (.inr (.inr e))))))
          rcases hcv b e with ⟨h1, h2⟩ | h1
          · omega
          · have := HOVB.out b h1; omega
        have tot : Chg (fun b => ((b = Ss[i].k ∨ KX Ss[i].m Ss[i].sv b) ∨ (b = Ss[i].y ∨ Ss[i].x.kv.ownBlock = some b)) ∨ (b = wb ∨ kv.ownBlock = some b)) w W := Chg.trans2 (X := fun b => ((b = Ss[i].k ∨ KX Ss[i].m Ss[i].sv b) ∨ (b = Ss[i].y ∨ Ss[i].x.kv.ownBlock = some b)) ∨ (b = wb ∨ kv.ownBlock = some b)) (tot2.mono fun x _ hx => .inl hx) hcg fun x hx hxl => by
          rcases hx with e | e | e
          · exact .inr (.inl e)
          · exact .inr (.inr e)
          · exact absurd e (ovk x hxl)
        have kn : K1.length ≤ 64 ∧ (∀ e ∈ K1, (0 ≤ e.port ∧ e.port < Ss[i].x.Q.length) ∧ isGrp e.mac = false) ∧ ∀ e ∈ K1, Young e := by
          rcases frameR_knows HR.out with e | ⟨hpt, v, mac, hl, hg⟩
          · rw [e]; exact ⟨HD.out.k64, HD.out.kp, HD.out.yg⟩
          · rw [hP] at hpt
            refine ⟨hl.length HD.out.k64, fun e he => ?_, fun e he => ?_⟩
            · rcases hl.mem he with e1 | e1
              · rw [e1]; exact ⟨hpt, hg⟩
              · exact HD.out.kp e e1
            · rcases hl.mem he with e1 | e1
              · rw [e1]; exact ⟨Int.le_refl 0, show (0 : Int) ≤ 300 by decide⟩
              · exact HD.out.yg e e1
        have hcol1 : ∀ x, x < w.heap.size → col x ≠ 0 → col' x = col x := fun x hx h0 => (hcol x (by omega) (by rw [clt x hx]; exact h0)).trans (clt x hx)
        have hcn : ∀ x, w.heap.size ≤ x → learnt col w.heap.size i Ss[i].m sv1 kv2 x ≠ 0 → col' x = learnt col w.heap.size i Ss[i].m sv1 kv2 x := fun x hx h0 => by
          by_cases hxl : x < wr.heap.size
          · exact hcol x hxl h0
          · refine absurd ?_ h0
            unfold learnt
            rw [if_neg (by omega), if_neg, if_neg]
            · intro e; have := HX2.out.rk.lt e; omega
            · rintro (e | e)
              · omega
              · have := hsv1 x e; omega
        have hfin := both_done HH.out HS.out hi hkn (.inl rfl) HO1.out one hx2 (fun b e => (HO2.out b e).imp id fun e' => ⟨by omega, by omega, fun e1 => by have := hsv1 b e1; omega⟩) tot hws hcol1 hcn kn.1 kn.2.1 kn.2.2 HX2.out.rk.2 HD.out.now (Int.le_refl _)
        refine ⟨kv', Ks', col', _, hk', hfin.1, hfin.2, ⟨HP.out.fs, HP.out.l, HP.out.v, HP.out.r, HP.out.xf, HP.out.xr, HP.out.xh⟩, ⟨_, tot, fun x hx hxl => ?_⟩, hcol1⟩
        rcases hx with e | e | e
        · have := hcc x e; omega
        · rw [e, HH.out.cw]; omega
        · rw [HH.out.cK x e]; omega
      have HF := hide FIN
      clear FIN hcol hcg hws hk' CL1 HB
      go_wp2
      go_ret
      exact ⟨rfl, HF.out⟩
end Go.Proofs.YtnjalelblbjfiaaGreatDoor

namespace Go.Proofs.YtnjalelblbjfiaaGreatDoor
open Go.RowKit
attribute [local go_sem] Oper.semAt_some cell?_regrown

set_option maxRecDepth 100000 in
set_option maxHeartbeats 4000000 in
theorem lknown_any (w : World) (wb i : Nat) (tv sv kv : Value) (n : Nat) (Ts : List TabD) (Ss : List SwD) (Ks : List KeptD) (col : Nat → Nat) (M : Int) (h : LW w wb tv sv kv n Ts Ks col) (hs : LS w sv Ss col M) (hi : i < Ss.length) (_hM : M ≤ 1000000000000000000) (hn : n < 1000000000) (hK : Ks.length + 4 ≤ 1000000000) :
    Calls Tryz.prog 13 #[.pointer (some ⟨wb, 0, none⟩), .pointer (some ⟨Ss[i].p, 0, none⟩)] w fun e W => e = .returned (.bool true) ∧ ∃ kv' Ks' col', Ks'.length = Ks.length + 4 ∧ LW W wb tv sv kv' (n + 1) Ts Ks' col' ∧ LS W sv Ss col' M ∧ Left w W col col' := by
  have hd := hs.sw i hi
  obtain ⟨d, hde⟩ : ∃ d, d = Ss[i] := ⟨_, rfl⟩
  rw [← hde] at hd ⊢
  have q0 := hd.c0
  have q1 := hd.c1
  have hpl : d.p < w.heap.size := block_lt_of_cell q0
  obtain ⟨a2, cap2, g2, hkv, hrow2⟩ := hd.ref.knowns
  have r4 := hd.ref.c4
  have r5 := hd.ref.c5
  have hyl : d.y < w.heap.size := hd.ref.lt
  rw [hkv] at r4
  obtain ⟨K, hKe⟩ : ∃ K, K = d.x.K := ⟨_, rfl⟩
  have CR := sMacs_any d.s d.k d.m d.sv d.K w hd.imp.p.h5 hd.imp.p.hK
  rw [hd.eK, ← hKe] at CR
  have CR1 := hide CR
  obtain ⟨now, hnow⟩ : ∃ now, now = d.x.now := ⟨_, rfl⟩
  have hnb := hd.now
  have hyg := hd.yg
  have hk64 := hd.k64
  rw [← hnow] at r5 hnb hrow2
  rw [← hKe] at r4 hrow2 hyg hk64
  have HH := hide h
  have HS := hide hs
  have HN := hide hn
  have HK := hide hK
  have HR2 := hide hrow2
  have HY := hide hyg
  have hmi : (K.length : Int) ≤ 64 := by omega
  clear h hs hd hn hK hrow2 hkv hde hyg CR hKe hnow
  go_enter Tryz.func13, Tryz.ntmps13
  go_wp2_with fail
  refine CR1.out.mono ?_
  rintro e W1 ⟨g, cap, rfl, hown, hb1⟩
  have p1 := cell_later hb1 q1
  have y4 := cell_later hb1 r4
  have y5 := cell_later hb1 r5
  have hpl1 : d.p < W1.heap.size := block_lt_of_cell p1
  have hyl1 : d.y < W1.heap.size := block_lt_of_cell y4
  have HO := hide hown
  have HB1 := hide hb1
  clear CR1 hown hb1 q0 q1 r4 r5 hpl hyl
  go_wp2_with fail
  go_loopw [7, 8] (fun o i wr => o = .bool true ∧ ∃ j : Nat, j ≤ K.length ∧ i = .int .i64 j ∧ Below W1.heap.size W1 wr) (fun _ i _ => K.length - (intOf i).toNat)
  case atStart => exact ⟨by simp, 0, by omega, rfl, Below.refl _ _⟩
  case round =>
    obtain ⟨rfl, j, hj, rfl, hbj⟩ := hrel
    by_cases hjl : j < K.length
    · have hji : (j : Int) < K.length := by omega
      have p2 := cell_later hbj p1
      have z4 := cell_later hbj y4
      have z5 := cell_later hbj y5
      have hpl2 : d.p < wr.heap.size := block_lt_of_cell p2
      have hyl2 : d.y < wr.heap.size := block_lt_of_cell z4
      obtain ⟨rfl, x0, x1, x2, x3⟩ := HR2.out j hjl
      have hrc : RecOwn (mcRec 0) w.heap.size W1 68 4 (.slice (some ⟨g, 0, none⟩) K.length cap) (K.map fun e => { e with age := -e.age }) := by
        refine ⟨?_, fun e => by rw [List.map_eq_nil_iff] at e; rw [e] at hjl; exact absurd hjl (Nat.not_lt_zero j)⟩
        have e : recs (mcRec 0) (K.map fun e => { e with age := -e.age }) = rowP K := by
          unfold recs rowP mcRec
          rw [List.flatMap_map]
          simp
        rw [e, List.length_map]
        exact HO.out
      obtain ⟨a3, cap3, g3, e3, hro⟩ := hrc.row (mcRec_length 0)
      obtain ⟨ha, hra⟩ := hro j (by rw [List.length_map]; exact hjl)
      rw [List.length_map] at e3
      cases e3
      cases ha
      rw [List.getElem_map] at hra
      obtain ⟨z, hz⟩ : ∃ z, z = K[j] := ⟨_, rfl⟩
      have hyz := HY.out K[j] (List.getElem_mem hjl)
      rw [← hz] at x0 x1 x2 x3 hra hyz
      have f0 := cell_later hbj (hra 0 _ rfl)
      have f1 := cell_later hbj (hra 1 _ rfl)
      have f2 := cell_later hbj (hra 2 _ rfl)
      have f3 := cell_later hbj (hra 3 _ rfl)
      simp only [Int.zero_sub, Int.neg_neg, Nat.add_zero] at f0 f1 f2 f3
      have v0 := cell_later hbj (cell_later HB1.out x0)
      have v1 := cell_later hbj (cell_later HB1.out x1)
      have v2 := cell_later hbj (cell_later HB1.out x2)
      have v3 := cell_later hbj (cell_later HB1.out x3)
      have hgl : g < wr.heap.size := block_lt_of_cell f0
      have hgl2 : g2 < wr.heap.size := block_lt_of_cell v0
      obtain ⟨zv, zm, zp, za⟩ := z
      obtain ⟨tm, htm⟩ : ∃ tm, tm = now - za := ⟨_, rfl⟩
      simp only at f0 f1 f2 f3 v0 v1 v2 v3
      rw [← htm] at v3
      have hsub : IntKind.i64.wrap (now - tm) = za := by
        unfold Young at hyz
        rw [IntKind.wrap_i64]
        simp only at hyz
        omega
      have HBJ := hide hbj
      clear hbj hz hrc hro hra hyz htm x0 x1 x2 x3 HR2 HO HY
      go_wp2_with fail
      refine wp_region_quiet_below (by kernel_rfl) (by kernel_rfl) ?_
      repeat (quiet_step (fail))
      refine wpQuiet_nil ?_; intro wq hwq; replace hwq := below_of_regrown hwq; obtain ⟨hcq, hfq⟩ := bcell hwq; have hzq := hwq.size
      have HQ := hide hwq
      clear hwq hcq hfq hzq p2 z4 z5 f0 f1 f2 f3 v0 v1 v2 v3
      go_wp2_with fail
      go_roundw
      case rel => exact ⟨by simp, j + 1, by omega, by go_num, HBJ.out.trans (HQ.out.mono HBJ.out.size)⟩
      case measure => simp [intOf]; omega
    · have hji : ¬ (j : Int) < K.length := by omega
      have hb : Below w.heap.size w wr := HB1.out.trans (hbj.mono HB1.out.size)
      have ws : WS wr wb tv sv kv n Ks (paint col w.heap.size 0) := HH.out.ws.keep (X := fun _ => False) (Chg.of_below hb) (fun _ hx => hx.elim) (fun x hx _ => paint_lt hx)
      have lst : Lst wr 68 4 (.slice (some ⟨g, 0, none⟩) K.length cap) K.length := ownsRow_lst (ownsRow_same HO.out fun x hx => hbj.block x (HO.out.lt x hx).2)
      have hgb : w.heap.size ≤ g := (HO.out.lt g rfl).1
      have CL := hide (lmacs_any wr wb tv sv kv (.slice (some ⟨g, 0, none⟩) K.length cap) n K.length Ks (paint col w.heap.size 0) ws lst (fun x hx => by cases hx; exact paint_ge hgb) (by omega) HN.out HK.out)
      have HB := hide hb
      clear ws lst hb hbj p1 y4 y5 hpl1 hyl1
      go_wp2_with fail
      refine CL.out.mono ?_
      rintro e W ⟨rfl, kv', Ks', col', hk, hws, hcg, hcol⟩
      have FIN : ∃ kv' Ks' col', Ks'.length = Ks.length + 4 ∧ LW W wb tv sv kv' (n + 1) Ts Ks' col' ∧ LS W sv Ss col' M ∧ Left w W col col' := by
        have hcol' : ∀ x, x < w.heap.size → col x ≠ 0 → col' x = col x := fun x hx h0 => by
          have := hcol x (Nat.lt_of_lt_of_le hx HB.out.size) (by rw [paint_lt hx]; exact h0)
          rwa [paint_lt hx] at this
        have hct : Chg (fun x => x = wb ∨ kv.ownBlock = some x) w W := ((Chg.of_below HB.out).trans hcg).mono fun x hx h => by
          rcases h with h | h | h
          · exact .inl h
          · exact .inr h
          · have hx' : g = x := Option.some.inj h
            omega
        refine ⟨kv', Ks', col', hk, HH.out.turned hct hcol' hws, HS.out.keep hct (fun x hx _ => ?_) hcol', ⟨_, hct, fun x hx _ => ?_⟩, hcol'⟩
        rotate_left
        · rcases hx with rfl | hx
          · rw [HH.out.cw]; omega
          · rw [HH.out.cK x hx]; omega
        rcases hx with rfl | hx
        · exact ⟨HH.out.farW, by rw [HH.out.cw]; omega, by rw [HH.out.cw]; omega, fun j => by rw [HH.out.cw]; omega⟩
        · exact ⟨HH.out.farK hx, by rw [HH.out.cK x hx]; omega, by rw [HH.out.cK x hx]; omega, fun j => by rw [HH.out.cK x hx]; omega⟩
      have HF := hide FIN
      clear FIN hcol hcg hws hk CL HB HO HB1
      go_wp2
      go_ret
      exact ⟨rfl, HF.out⟩
end Go.Proofs.YtnjalelblbjfiaaGreatDoor

namespace Go.Proofs.YtnjalelblbjfiaaGreatDoor
open Go.RowKit

set_option maxRecDepth 100000 in
theorem sNew_bad (n : Int) (w : World) (hn : n < 1 ∨ 8 < n) : Calls Tryz.prog 19 #[.int .i64 n] w fun e W => e = .returned (.tuple #[.pointer none, .int .i64 1]) ∧ W = w := by
  by_cases h : n < 1
  · go_enter Tryz.func19, Tryz.ntmps19
    go_wp2
    go_ret2
    exact ⟨rfl, rfl⟩
  · have h8 : 8 < n := by omega
    clear hn
    go_enter Tryz.func19, Tryz.ntmps19
    go_wp2
    go_ret2
    exact ⟨rfl, rfl⟩
end Go.Proofs.YtnjalelblbjfiaaGreatDoor
