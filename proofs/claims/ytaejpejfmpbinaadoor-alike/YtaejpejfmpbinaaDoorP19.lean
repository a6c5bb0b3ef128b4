import Derived.Test.YtaejpejfmpbinaaDoorP18
namespace Go.Proofs.YtaejpejfmpbinaaDoor
open Go.RowKit
open Go.Sort (grow)

attribute [local go_sem ↓ high] neqRule1
attribute [local go_sem] cell?_regrown

set_option maxRecDepth 100000 in
set_option maxHeartbeats 4000000 in
theorem alike_any (a0 a1 a2 : Option Addr) (n0 n1 n2 c0 c1 c2 g0 g1 g2 o0 o1 o2 : Nat) (w : World) (hl : Laid w) (h0 : RawsAt w a0 n0 g0 o0) (h1 : RawsAt w a1 n1 g1 o1) (h2 : IntsAt w a2 n2 g2 o2) (hn0 : n0 ≤ 9223372036854775000) (hn1 : n1 ≤ 9223372036854775000) (hn2 : n2 ≤ 9223372036854775000) :
    Calls Tryd.prog 4 #[.slice a0 n0 c0, .slice a1 n1 c1, .slice a2 n2 c2] w fun e w' => e = .returned (.bool true) ∧ Below w.heap.size w w' := by
  obtain ⟨dr, hur, hdr⟩ := underRule
  obtain ⟨dw, huw, hdw⟩ := underRaw
  obtain ⟨rl, hrl⟩ := h0.rules (fun j => (j : Int))
  obtain ⟨ol, hol⟩ := h1.rules (fun j => 1000 + (j : Int))
  obtain ⟨n, hn⟩ : ∃ n, n = min n0 100 := ⟨_, rfl⟩
  obtain ⟨m, hm⟩ : ∃ m, m = min n1 60 := ⟨_, rfl⟩
  have hnn : n ≤ 100 := by omega
  have hmm : m ≤ 60 := by omega
  have hnn0 : n ≤ n0 := by omega
  have hmm1 : m ≤ n1 := by omega
  have hmi0 : min (n0 : Int) 100 = n := by omega
  have hmi1 : min (n1 : Int) 60 = m := by omega
  have IDR : Hid (∀ j, j < n → (rl j).id = j) := hide fun j hj => hrl.id (by omega)
  have IDO : Hid (∀ j, j < m → (ol j).id = 1000 + (j : Int)) := hide fun j hj => hol.id (by omega)
  have OKR : Hid (∀ j, j < n → (rl j).ok = true) := hide fun j hj => hrl.ok (by omega) (by omega)
  have OKO : Hid (∀ j, j < m → (ol j).ok = true) := hide fun j hj => hol.ok (by omega) (by omega)
  have CS := hide (sieve_any w hl)
  have H0 := hide hrl
  have H1 := hide hol
  have H2 := hide h2
  have HL := hide hl
  clear hl h0 h1 h2 hrl hol hn hm
  go_enter Tryd.func4, Tryd.ntmps4
  go_wp2_with fail
  refine CS.out.mono ?_
  rintro e w1 ⟨t, F0, rfl, hT1, hF1, hB1⟩
  have CS2 := hide (sieve_any w1 (HL.out.below hB1 HL.out.pos))
  have T1 := hide hT1
  have HF1 := hide hF1
  have HB1 := hide hB1
  clear CS hT1 hF1 hB1 HL
  go_wp2_with fail
  refine CS2.out.mono ?_
  rintro e w2 ⟨u, G0, rfl, hT2, hG2, hB2⟩
  have HS : Hid (Two w w2 t F0 [] u G0 []) := hide ⟨T1.out.still hB2, hT2, fun x hf hg => by have := T1.out.lt hf; have := hG2 x hg; omega, HF1.out, fun x hx => Nat.le_trans HB1.out.size (hG2 x hx), HB1.out.trans (hB2.mono HB1.out.size)⟩
  clear CS2 hT2 hG2 hB2 T1 HF1 HB1
  go_wp2_with fail
  go_loopw [11] (fun i wr => ∃ (k : Nat) (F : Nat → Prop) (L : List Ent), k ≤ n ∧ i = .int .i64 k ∧ Two w wr t F L u G0 [] ∧ Has L (fun r => ∃ j, j < k ∧ r = rl j) ∧ L.length = k) (fun i _ => n - (intOf i).toNat)
  case atStart => exact ⟨0, F0, [], by omega, rfl, HS.out, Has.nil.congr fun r => ⟨fun h => h.elim, fun ⟨j, hj, _⟩ => absurd hj (by omega)⟩, rfl⟩
  case round =>
    obtain ⟨k, F, L, hk, rfl, hT, hH, hLk⟩ := hrel
    have HT := hide hT
    have HH := hide hH
    have HLK := hide hLk
    clear HS hT hH hLk
    by_cases hkn : k < n
    · have hki : (k : Int) < n := by omega
      have hk0 : (k : Int) < n0 := by omega
      obtain ⟨pr, kd, a, b, hraw, hpr, hkd, ha, hb, hRe⟩ := H0.out.2 k (by omega)
      obtain rfl := H0.out.1 (by omega)
      have hrw : wr.rangeAt g0 (o0 + k * 16) [.int .i64 pr, .int .i64 (kd 0), .int .i64 (kd 1), .int .i64 (kd 2), .int .i64 (kd 3), .int .i64 (kd 4), .int .i64 (a 0), .int .i64 (a 1), .int .i64 (a 2), .int .i64 (a 3), .int .i64 (a 4), .int .i64 (b 0), .int .i64 (b 1), .int .i64 (b 2), .int .i64 (b 3), .int .i64 (b 4)] := rangeAt_below hraw HT.out.below
      obtain ⟨R, hR⟩ : ∃ R, R = rl k := ⟨_, rfl⟩
      have CR : Hid (Calls Tryd.prog 6 #[.agg #[.int .i64 pr, .int .i64 (kd 0), .int .i64 (kd 1), .int .i64 (kd 2), .int .i64 (kd 3), .int .i64 (kd 4), .int .i64 (a 0), .int .i64 (a 1), .int .i64 (a 2), .int .i64 (a 3), .int .i64 (a 4), .int .i64 (b 0), .int .i64 (b 1), .int .i64 (b 2), .int .i64 (b 3), .int .i64 (b 4)], .int .i64 (k : Int)] wr fun e w' => e = .returned (.agg #[.int .i64 R.id, .int .i64 R.pr, .int .i64 R.k0, .int .i64 R.v0, .int .i64 R.m0, .int .i64 R.k1, .int .i64 R.v1, .int .i64 R.m1, .int .i64 R.k2, .int .i64 R.v2, .int .i64 R.m2, .int .i64 R.k3, .int .i64 R.v3, .int .i64 R.m3, .int .i64 R.k4, .int .i64 R.v4, .int .i64 R.m4, .int .i64 R.ac, .int .i64 R.po]) ∧ Below wr.heap.size wr w') := hide (by
        have := rule_any pr (k : Int) kd a b wr hpr hkd ha hb
        rw [← hRe, ← hR] at this
        exact this)
      have HRR := hide hR
      clear hR hRe hraw hpr hkd ha hb
      go_wp2_with ((with_reducible show wpList _ _ _ _ _ _); refine wpList_load_mid rfl 35 _ rfl g0 (o0 + k * 16) rfl [.int .i64 pr, .int .i64 (kd 0), .int .i64 (kd 1), .int .i64 (kd 2), .int .i64 (kd 3), .int .i64 (kd 4), .int .i64 (a 0), .int .i64 (a 1), .int .i64 (a 2), .int .i64 (a 3), .int .i64 (a 4), .int .i64 (b 0), .int .i64 (b 1), .int .i64 (b 2), .int .i64 (b 3), .int .i64 (b 4)] dw hrw huw hdw sizeRaw ?_)
      refine CR.out.mono ?_
      rintro e w1' ⟨rfl, hb1⟩
      have T1 := hide (HT.out.still hb1)
      have CI := hide (tins_any t R w1' _ _ T1.out.tt)
      clear CR hb1 hrw
      go_wp2_with fail
      refine CI.out.mono ?_
      rintro e w2 ⟨rfl, hI⟩
      obtain ⟨F2, L2, bb, hT2, hm2, hl2⟩ := T1.out.ins hI (HH.out.code (by rw [HRR.out]; exact OKR.out k hkn) (by rw [HLK.out]; omega) (fun r ⟨j, hj, e⟩ => by rw [HRR.out, e, IDR.out j (by omega), IDR.out k hkn]; omega))
      have HT2 := hide hT2
      have HH2 := hide ((HRR.out ▸ HH.out.ins hm2).congr (setA_step k))
      have HLK2 : Hid (L2.length = k + 1) := hide (by rw [hl2, HLK.out])
      clear hI hT2 hm2 hl2 CI T1
      go_wp2
      go_roundw
      case rel => exact ⟨k + 1, F2, L2, by omega, by go_num, HT2.out, HH2.out, HLK2.out⟩
      case measure => simp [intOf]; omega
    · obtain rfl : n = k := by omega
      have hnki : ¬ ((n : Int) < n) := by omega
      go_wp2_with fail
      go_loopw [12] (fun i wr => ∃ (k : Nat) (G : Nat → Prop) (M : List Ent), k ≤ m ∧ i = .int .i64 k ∧ Two w wr t F L u G M ∧ Has M (fun r => ∃ j, j < k ∧ r = ol j) ∧ M.length = k) (fun i _ => m - (intOf i).toNat)
      case atStart => exact ⟨0, G0, [], by omega, rfl, HT.out, Has.nil.congr fun r => ⟨fun h => h.elim, fun ⟨j, hj, _⟩ => absurd hj (by omega)⟩, rfl⟩
      case round =>
        obtain ⟨k, G, M, hk, rfl, hT, hM, hMk⟩ := hrel
        clear HT hnki
        have HT := hide hT
        have HM := hide hM
        have HMK := hide hMk
        clear hT hM hMk
        by_cases hkm : k < m
        · have hki : (k : Int) < m := by omega
          have hk0 : (k : Int) < n1 := by omega
          obtain ⟨pr, kd, a, b, hraw, hpr, hkd, ha, hb, hRe⟩ := H1.out.2 k (by omega)
          obtain rfl := H1.out.1 (by omega)
          have hrw : wr.rangeAt g1 (o1 + k * 16) [.int .i64 pr, .int .i64 (kd 0), .int .i64 (kd 1), .int .i64 (kd 2), .int .i64 (kd 3), .int .i64 (kd 4), .int .i64 (a 0), .int .i64 (a 1), .int .i64 (a 2), .int .i64 (a 3), .int .i64 (a 4), .int .i64 (b 0), .int .i64 (b 1), .int .i64 (b 2), .int .i64 (b 3), .int .i64 (b 4)] := rangeAt_below hraw HT.out.below
          obtain ⟨R, hR⟩ : ∃ R, R = ol k := ⟨_, rfl⟩
          have CR : Hid (Calls Tryd.prog 6 #[.agg #[.int .i64 pr, .int .i64 (kd 0), .int .i64 (kd 1), .int .i64 (kd 2), .int .i64 (kd 3), .int .i64 (kd 4), .int .i64 (a 0), .int .i64 (a 1), .int .i64 (a 2), .int .i64 (a 3), .int .i64 (a 4), .int .i64 (b 0), .int .i64 (b 1), .int .i64 (b 2), .int .i64 (b 3), .int .i64 (b 4)], .int .i64 (1000 + (k : Int))] wr fun e w' => e = .returned (.agg #[.int .i64 R.id, .int .i64 R.pr, .int .i64 R.k0, .int .i64 R.v0, .int .i64 R.m0, .int .i64 R.k1, .int .i64 R.v1, .int .i64 R.m1, .int .i64 R.k2, .int .i64 R.v2, .int .i64 R.m2, .int .i64 R.k3, .int .i64 R.v3, .int .i64 R.m3, .int .i64 R.k4, .int .i64 R.v4, .int .i64 R.m4, .int .i64 R.ac, .int .i64 R.po]) ∧ Below wr.heap.size wr w') := hide (by
            have := rule_any pr (1000 + (k : Int)) kd a b wr hpr hkd ha hb
            rw [← hRe, ← hR] at this
            exact this)
          have HRR := hide hR
          clear hR hRe hraw hpr hkd ha hb
          go_wp2_with ((with_reducible show wpList _ _ _ _ _ _); refine wpList_load_mid rfl 35 _ rfl g1 (o1 + k * 16) rfl [.int .i64 pr, .int .i64 (kd 0), .int .i64 (kd 1), .int .i64 (kd 2), .int .i64 (kd 3), .int .i64 (kd 4), .int .i64 (a 0), .int .i64 (a 1), .int .i64 (a 2), .int .i64 (a 3), .int .i64 (a 4), .int .i64 (b 0), .int .i64 (b 1), .int .i64 (b 2), .int .i64 (b 3), .int .i64 (b 4)] dw hrw huw hdw sizeRaw ?_)
          refine CR.out.mono ?_
          rintro e w1' ⟨rfl, hb1⟩
          have T1 := hide (HT.out.still hb1)
          have CI := hide (tins_any u R w1' _ _ T1.out.tu)
          clear CR hb1 hrw
          go_wp2_with fail
          refine CI.out.mono ?_
          rintro e w2 ⟨rfl, hI⟩
          obtain ⟨G2, M2, bb, hT2, hm2, hl2⟩ := T1.out.swap.ins hI (HM.out.code (by rw [HRR.out]; exact OKO.out k hkm) (by rw [HMK.out]; omega) (fun r ⟨j, hj, e⟩ => by rw [HRR.out, e, IDO.out j (by omega), IDO.out k hkm]; omega))
          have HT2 := hide hT2.swap
          have HM2 := hide ((HRR.out ▸ HM.out.ins hm2).congr (setA_step k))
          have HMK2 : Hid (M2.length = k + 1) := hide (by rw [hl2, HMK.out])
          clear hI hT2 hm2 hl2 CI T1
          go_wp2
          go_roundw
          case rel => exact ⟨k + 1, G2, M2, by omega, by go_num, HT2.out, HM2.out, HMK2.out⟩
          case measure => simp [intOf]; omega
        · obtain rfl : m = k := by omega
          have hmki : ¬ ((m : Int) < m) := by omega
          go_wp2_with fail
          go_loopw [13] (fun i wr => ∃ (k : Nat) (G : Nat → Prop) (M : List Ent), k ≤ n ∧ i = .int .i64 ((k : Int) - 1) ∧ Two w wr t F L u G M ∧ Has M (setC rl ol n m k) ∧ M.length ≤ m + (n - k)) (fun i _ => (intOf i + 1).toNat)
          case atStart => exact ⟨n, G, M, by omega, rfl, HT.out, HM.out.congr setC_start, by rw [HMK.out]; omega⟩
          case round =>
            obtain ⟨k, G, M, hk, rfl, hT, hM, hMk⟩ := hrel
            clear HT HM HMK hmki
            have HT := hide hT
            have HM := hide hM
            have HMK := hide hMk
            clear hT hM hMk
            by_cases hk0 : 0 < k
            · obtain ⟨q, rfl⟩ : ∃ q, k = q + 1 := ⟨k - 1, by omega⟩
              have hqe : ((q + 1 : Nat) : Int) - 1 = q := by omega
              rw [hqe]
              have hq0 : (0 : Int) ≤ q := by omega
              have hqn : (q : Int) < n0 := by omega
              clear hqe
              obtain ⟨pr, kd, a, b, hraw, hpr, hkd, ha, hb, hRe⟩ := H0.out.2 q (by omega)
              obtain rfl := H0.out.1 (by omega)
              have hrw : wr.rangeAt g0 (o0 + q * 16) [.int .i64 pr, .int .i64 (kd 0), .int .i64 (kd 1), .int .i64 (kd 2), .int .i64 (kd 3), .int .i64 (kd 4), .int .i64 (a 0), .int .i64 (a 1), .int .i64 (a 2), .int .i64 (a 3), .int .i64 (a 4), .int .i64 (b 0), .int .i64 (b 1), .int .i64 (b 2), .int .i64 (b 3), .int .i64 (b 4)] := rangeAt_below hraw HT.out.below
              obtain ⟨R, hR⟩ : ∃ R, R = rl q := ⟨_, rfl⟩
              have CR : Hid (Calls Tryd.prog 6 #[.agg #[.int .i64 pr, .int .i64 (kd 0), .int .i64 (kd 1), .int .i64 (kd 2), .int .i64 (kd 3), .int .i64 (kd 4), .int .i64 (a 0), .int .i64 (a 1), .int .i64 (a 2), .int .i64 (a 3), .int .i64 (a 4), .int .i64 (b 0), .int .i64 (b 1), .int .i64 (b 2), .int .i64 (b 3), .int .i64 (b 4)], .int .i64 (q : Int)] wr fun e w' => e = .returned (.agg #[.int .i64 R.id, .int .i64 R.pr, .int .i64 R.k0, .int .i64 R.v0, .int .i64 R.m0, .int .i64 R.k1, .int .i64 R.v1, .int .i64 R.m1, .int .i64 R.k2, .int .i64 R.v2, .int .i64 R.m2, .int .i64 R.k3, .int .i64 R.v3, .int .i64 R.m3, .int .i64 R.k4, .int .i64 R.v4, .int .i64 R.m4, .int .i64 R.ac, .int .i64 R.po]) ∧ Below wr.heap.size wr w') := hide (by
                have := rule_any pr (q : Int) kd a b wr hpr hkd ha hb
                rw [← hRe, ← hR] at this
                exact this)
              have HRR := hide hR
              clear hR hRe hraw hpr hkd ha hb
              go_wp2_with ((with_reducible show wpList _ _ _ _ _ _); refine wpList_load_mid rfl 35 _ rfl g0 (o0 + q * 16) rfl [.int .i64 pr, .int .i64 (kd 0), .int .i64 (kd 1), .int .i64 (kd 2), .int .i64 (kd 3), .int .i64 (kd 4), .int .i64 (a 0), .int .i64 (a 1), .int .i64 (a 2), .int .i64 (a 3), .int .i64 (a 4), .int .i64 (b 0), .int .i64 (b 1), .int .i64 (b 2), .int .i64 (b 3), .int .i64 (b 4)] dw hrw huw hdw sizeRaw ?_)
              refine CR.out.mono ?_
              rintro e w1' ⟨rfl, hb1⟩
              have T1 := hide (HT.out.still hb1)
              have CI := hide (tins_any u R w1' _ _ T1.out.tu)
              clear CR hb1 hrw
              go_wp2_with fail
              refine CI.out.mono ?_
              rintro e w2 ⟨rfl, hI⟩
              have hc := HM.out.code (R := R) (by rw [HRR.out]; exact OKR.out q (by omega)) (by have := HMK.out; omega) (by rw [HRR.out]; exact setC_ids (by omega) (by omega) IDR.out IDO.out)
              obtain ⟨G2, M2, bb, hT2, hm2, hl2⟩ := T1.out.swap.ins hI hc
              have HT2 := hide hT2.swap
              have HM2 := hide (HRR.out ▸ HM.out.ins hm2)
              have HMK2 : Hid (M2.length ≤ m + (n - q)) := hide (by have := HMK.out; omega)
              clear hI hT2 hm2 hl2 CI T1 hc HT HM HMK
              by_cases hqm : q < m
              · have hqi : (q : Int) < m := by omega
                have CD0 := tdel_any u (1000 + (q : Int)) w2 G2 M2 HT2.out.tu
                obtain ⟨z, hz⟩ : ∃ z : Int, z = (if (M2.any fun a => a.2.id == 1000 + (q : Int)) then 0 else 7) := ⟨_, rfl⟩
                rw [← hz] at CD0
                have CD := hide CD0
                clear CD0 hz
                go_wp2_with fail
                refine CD.out.mono ?_
                rintro e w3 ⟨rfl, hT3, hC3⟩
                have HT3 := hide (HT2.out.swap.del hT3 hC3).swap
                have HM3 := hide ((HM2.out.del (1000 + (q : Int))).congr (setC_cut (by omega) (by omega) IDR.out IDO.out))
                have HMK3 : Hid ((M2.filter fun a => a.2.id != 1000 + (q : Int)).length ≤ m + (n - q)) := hide (Nat.le_trans (List.length_filter_le _ _) HMK2.out)
                clear CD hT3 hC3 HT2 HM2 HMK2
                go_wp2
                go_roundw
                case rel => exact ⟨q, G2, _, by omega, by go_num, HT3.out, HM3.out, HMK3.out⟩
                case measure => simp [intOf]
              · have hqi : ¬ ((q : Int) < m) := by omega
                have HM3 := hide (HM2.out.congr (setC_keep (by omega) hqm))
                clear HM2
                go_wp2
                go_roundw
                case rel => exact ⟨q, G2, M2, by omega, by go_num, HT2.out, HM3.out, HMK2.out⟩
                case measure => simp [intOf]
            · obtain rfl : k = 0 := by omega
              have e0 : ((0 : Nat) : Int) - 1 = -1 := by omega
              rw [e0]
              clear e0
              go_wp2_with fail
              go_loopw [14] (fun i wr => ∃ (k : Nat) (G : Nat → Prop) (M : List Ent), n ≤ k ∧ i = .int .i64 k ∧ Two w wr t F L u G M ∧ Has M (setD rl ol n m k)) (fun i _ => m - (intOf i).toNat)
              case atStart => exact ⟨n, G, M, by omega, rfl, HT.out, HM.out.congr setC_end⟩
              case round =>
                obtain ⟨k, G, M, hkn2, rfl, hT, hM⟩ := hrel
                clear HT HM HMK
                have HT := hide hT
                have HM := hide hM
                clear hT hM
                by_cases hkm2 : k < m
                · have hki : (k : Int) < m := by omega
                  have CD0 := tdel_any u (1000 + (k : Int)) wr G M HT.out.tu
                  obtain ⟨z, hz⟩ : ∃ z : Int, z = (if (M.any fun a => a.2.id == 1000 + (k : Int)) then 0 else 7) := ⟨_, rfl⟩
                  rw [← hz] at CD0
                  have CD := hide CD0
                  clear CD0 hz
                  go_wp2_with fail
                  refine CD.out.mono ?_
                  rintro e w3 ⟨rfl, hT3, hC3⟩
                  have HT3 := hide (HT.out.swap.del hT3 hC3).swap
                  have HM3 := hide ((HM.out.del (1000 + (k : Int))).congr (setD_cut (by omega) IDR.out IDO.out))
                  clear CD hT3 hC3 HT HM
                  go_wp2
                  go_roundw
                  case rel => exact ⟨k + 1, G, _, by omega, by go_num, HT3.out, HM3.out⟩
                  case measure => simp [intOf]; omega
                · have hki : ¬ ((k : Int) < m) := by omega
                  have HMF := hide (HM.out.congr (setD_end (by omega)))
                  obtain ⟨rs, hrs⟩ : ∃ rs, rs = L.map (·.2) := ⟨_, rfl⟩
                  have hsame : rs = M.map (·.2) := hrs.trans (HH.out.same HMF.out HT.out.tt.sorted HT.out.tu.sorted)
                  have hrn : rs.length = n := by rw [hrs, List.length_map, HLK.out]
                  have hMn : M.length = n := by rw [← hrn, hsame, List.length_map]
                  have CRt := trules_any t wr F L HT.out.tt
                  rw [HLK.out, ← hrs] at CRt
                  have HCRt := hide CRt
                  have HRN := hide hrn
                  have HMN := hide hMn
                  have HSAME := hide hsame
                  clear CRt hrn hMn hsame hrs HM
                  go_wp2_with fail
                  refine HCRt.out.mono ?_
                  rintro e w3 ⟨ga, ca, rfl, hoA, hb3⟩
                  have HT3 := hide (HT.out.still hb3)
                  have CRu := trules_any u w3 G M HT3.out.tu
                  rw [HMN.out, ← HSAME.out] at CRu
                  have HCRu := hide CRu
                  have HOA := hide hoA
                  clear HCRt hoA hb3 CRu HT
                  go_wp2_with fail
                  refine HCRu.out.mono ?_
                  rintro e w4 ⟨gb, cb, rfl, hoB, hb4⟩
                  have HT4 := hide (HT3.out.still hb4)
                  have hrA : ∀ j (hj : j < rs.length), w4.rangeAt ga (j * 19) rs[j].cells.toList := fun j hj i v hv => by
                    have hi : i < 19 := by have := (List.getElem?_eq_some_iff.1 hv).1; rwa [cells_length] at this
                    have hc := HOA.out.cellAt (j * 19 + i) (by rw [← HRN.out]; omega)
                    rw [rowL_get rs j hj i hi] at hc
                    have hv' : rs[j].cells[i]? = some v := by simpa using hv
                    rw [hv'] at hc
                    exact (hb4.cell (p := ⟨ga, j * 19 + i, none⟩) (block_lt_of_cell hc)).trans hc
                  have hrB : ∀ j (hj : j < rs.length), w4.rangeAt gb (j * 19) rs[j].cells.toList := fun j hj i v hv => by
                    have hi : i < 19 := by have := (List.getElem?_eq_some_iff.1 hv).1; rwa [cells_length] at this
                    have hc := hoB.cellAt (j * 19 + i) (by rw [← HRN.out]; omega)
                    rw [rowL_get rs j hj i hi] at hc
                    have hv' : rs[j].cells[i]? = some v := by simpa using hv
                    rw [hv'] at hc
                    exact hc
                  have HA := hide hrA
                  have HB := hide hrB
                  clear HCRu hoB hb4 hrA hrB HT3 HOA
                  go_wp2_with fail
                  go_loopw [17] (fun i wr => ∃ (k : Nat), k ≤ n ∧ i = .int .i64 k ∧ Below w4.heap.size w4 wr) (fun i _ => n - (intOf i).toNat)
                  case atStart => exact ⟨0, by omega, rfl, Below.refl _ _⟩
                  case round =>
                    obtain ⟨k, hk2, rfl, hb⟩ := hrel
                    have HBE := hide hb
                    clear hb
                    by_cases hkn3 : k < n
                    · have hki : (k : Int) < n := by omega
                      have hkr : k < rs.length := by rw [HRN.out]; omega
                      obtain ⟨R, hR⟩ : ∃ R, R = rs[k] := ⟨_, rfl⟩
                      have hra : wr.rangeAt ga (k * 19) [.int .i64 R.id, .int .i64 R.pr, .int .i64 R.k0, .int .i64 R.v0, .int .i64 R.m0, .int .i64 R.k1, .int .i64 R.v1, .int .i64 R.m1, .int .i64 R.k2, .int .i64 R.v2, .int .i64 R.m2, .int .i64 R.k3, .int .i64 R.v3, .int .i64 R.m3, .int .i64 R.k4, .int .i64 R.v4, .int .i64 R.m4, .int .i64 R.ac, .int .i64 R.po] := by
                        have := rangeAt_below (HA.out k hkr) HBE.out
                        rw [← hR] at this
                        exact this
                      have hrb : wr.rangeAt gb (k * 19) [.int .i64 R.id, .int .i64 R.pr, .int .i64 R.k0, .int .i64 R.v0, .int .i64 R.m0, .int .i64 R.k1, .int .i64 R.v1, .int .i64 R.m1, .int .i64 R.k2, .int .i64 R.v2, .int .i64 R.m2, .int .i64 R.k3, .int .i64 R.v3, .int .i64 R.m3, .int .i64 R.k4, .int .i64 R.v4, .int .i64 R.m4, .int .i64 R.ac, .int .i64 R.po] := by
                        have := rangeAt_below (HB.out k hkr) HBE.out
                        rw [← hR] at this
                        exact this
                      clear hR hkr
                      go_wp2_with fail
                      refine wp_region_quiet_below (by kernel_rfl) (by kernel_rfl) ?_
                      repeat (first | (refine wpQuiet_load_mid rfl 31 _ rfl ga (k * 19) rfl [.int .i64 R.id, .int .i64 R.pr, .int .i64 R.k0, .int .i64 R.v0, .int .i64 R.m0, .int .i64 R.k1, .int .i64 R.v1, .int .i64 R.m1, .int .i64 R.k2, .int .i64 R.v2, .int .i64 R.m2, .int .i64 R.k3, .int .i64 R.v3, .int .i64 R.m3, .int .i64 R.k4, .int .i64 R.v4, .int .i64 R.m4, .int .i64 R.ac, .int .i64 R.po] dr (fun w' h => range_regrown hra h) hur hdr sizeRule ?_) | (refine wpQuiet_load_mid rfl 31 _ rfl gb (k * 19) rfl [.int .i64 R.id, .int .i64 R.pr, .int .i64 R.k0, .int .i64 R.v0, .int .i64 R.m0, .int .i64 R.k1, .int .i64 R.v1, .int .i64 R.m1, .int .i64 R.k2, .int .i64 R.v2, .int .i64 R.m2, .int .i64 R.k3, .int .i64 R.v3, .int .i64 R.m3, .int .i64 R.k4, .int .i64 R.v4, .int .i64 R.m4, .int .i64 R.ac, .int .i64 R.po] dr (fun w' h => range_regrown hrb h) hur hdr sizeRule ?_) | quiet_step (fail))
                      refine wpQuiet_nil ?_; intro wq hwq; replace hwq := below_of_regrown hwq; obtain ⟨hcq, hfq⟩ := bcell hwq; have hzq := hwq.size
                      have HBE2 := hide (HBE.out.trans (hwq.mono HBE.out.size))
                      clear hcq hfq hzq hwq hra hrb HBE
                      go_wp2
                      go_roundw
                      case rel => exact ⟨k + 1, by omega, by go_num, HBE2.out⟩
                      case measure => simp [intOf]; omega
                    · obtain rfl : n = k := by omega
                      have hnki : ¬ ((n : Int) < n) := by omega
                      have HT5 := hide (HT4.out.still HBE.out)
                      clear HBE HT4 HA HB
                      go_wp2_with fail
                      go_loopw [18] (fun i wr => ∃ (k : Nat), k ≤ n2 ∧ i = .int .i64 k ∧ Two w wr t F L u G M) (fun i _ => n2 - (intOf i).toNat)
                      case atStart => exact ⟨0, by omega, rfl, HT5.out⟩
                      case round =>
                        obtain ⟨k, hk3, rfl, hT6⟩ := hrel
                        have HT6 := hide hT6
                        clear hT6 HT5
                        by_cases hk4 : k < n2
                        · have hki2 : (k : Int) < n2 := by omega
                          have CK := hide (key_any a2 n2 c2 g2 o2 k wr (H2.out.below HT6.out.below) (by omega) (by omega))
                          go_wp2_with fail
                          refine CK.out.mono ?_
                          rintro e w5 ⟨x0, x1, x2, x3, x4, rfl, hkb, hb5⟩
                          have HT7 := hide (HT6.out.still hb5)
                          have CF1 := hide fun (W : World) (hb : Below w5.heap.size w5 W) => tfind_any t x0 x1 x2 x3 x4 W F L (HT7.out.still hb).tt
                          clear CK hkb hb5 HT6
                          go_wp2_with fail
                          obtain ⟨W, hW⟩ : ∃ W, W = w5.alloc (.cells #[.int .i64 x0, .int .i64 x1, .int .i64 x2, .int .i64 x3, .int .i64 x4] 41) := ⟨_, rfl⟩
                          rw [← hW]
                          have hbW : Below w5.heap.size w5 W := by rw [hW]; exact (Below.refl _ w5).alloc (Nat.le_refl _) _
                          have hkW : W.rangeAt w5.heap.size 0 [.int .i64 x0, .int .i64 x1, .int .i64 x2, .int .i64 x3, .int .i64 x4] := by rw [hW]; exact range_new _ _ _
                          refine (CF1.out W hbW).mono ?_
                          rintro e w6 ⟨x, e1, rfl, hf1, hb6⟩
                          have HT8 := hide ((HT7.out.still hbW).still hb6)
                          have hk6 := rangeAt_below hkW hb6
                          have q0 : w6.cell? ⟨w5.heap.size, 0, none⟩ = some (.int .i64 x0) := hk6 0 _ rfl
                          have q1 : w6.cell? ⟨w5.heap.size, 1, none⟩ = some (.int .i64 x1) := hk6 1 _ rfl
                          have q2 : w6.cell? ⟨w5.heap.size, 2, none⟩ = some (.int .i64 x2) := hk6 2 _ rfl
                          have q3 : w6.cell? ⟨w5.heap.size, 3, none⟩ = some (.int .i64 x3) := hk6 3 _ rfl
                          have q4 : w6.cell? ⟨w5.heap.size, 4, none⟩ = some (.int .i64 x4) := hk6 4 _ rfl
                          have CF2 := hide (tfind_any u x0 x1 x2 x3 x4 w6 G M HT8.out.tu)
                          have HF1 := hide hf1
                          clear CF1 hW hbW hkW hf1 hb6 hk6 HT7
                          go_wp2_with fail
                          refine CF2.out.mono ?_
                          rintro e w7 ⟨y, e2, rfl, hf2, hb7⟩
                          obtain ⟨rfl, rfl⟩ := HH.out.find HMF.out HF1.out hf2
                          have HT9 := hide (HT8.out.still hb7)
                          clear CF2 hf2 hb7 HT8 HF1 q0 q1 q2 q3 q4
                          go_wp2
                          go_roundw
                          case rel => exact ⟨k + 1, by omega, by go_num, HT9.out⟩
                          case measure => simp [intOf]; omega
                        · have hki2 : ¬ ((k : Int) < n2) := by omega
                          go_wp2
                          go_ret
                          exact ⟨rfl, HT6.out.below⟩

end Go.Proofs.YtaejpejfmpbinaaDoor
