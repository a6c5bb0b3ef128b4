import Derived.Test.YtnjalelblbjfiaaGreatDoorP6
import Derived.Test.YtnjalelblbjfiaaGreatDoorP15
import Derived.BigQuiet
import Derived.Test.YtnjalelblbjfiaaGreatDoorP14
namespace Go.Proofs.YtnjalelblbjfiaaGreatDoor
open Go.RowKit

theorem andNot_and {v m : Int} (hv : 0 ≤ v ∧ v ≤ 4294967295) (hm : 0 ≤ m ∧ m ≤ 4294967295) : (bits .andNot .i64 v m == 0) = (bits .and .i64 v m == v) := by
  obtain ⟨a, rfl⟩ : ∃ a : Nat, v = a := ⟨v.toNat, by omega⟩
  obtain ⟨b, rfl⟩ : ∃ b : Nat, m = b := ⟨m.toNat, by omega⟩
  rw [i64_andNot_nat a b (by omega) (by omega), i64_and_nat a b (by omega) (by omega), Bool.eq_iff_iff, beq_iff_eq, beq_iff_eq]
  have hx : b < 2 ^ 64 := by omega
  have e : (18446744073709551615 - b : Nat) = 2 ^ 64 - (b + 1) := by omega
  have ha : a < 2 ^ 64 := by omega
  rw [e]
  constructor
  · intro h
    have h' : a &&& (2 ^ 64 - (b + 1)) = 0 := by omega
    have : a &&& b = a := by
      apply Nat.eq_of_testBit_eq
      intro i
      have hi := congrArg (fun z => Nat.testBit z i) h'
      simp only [Nat.testBit_and, Nat.testBit_two_pow_sub_succ hx, Nat.zero_testBit] at hi
      rw [Nat.testBit_and]
      by_cases h64 : i < 64
      · simp [h64] at hi
        cases hab : a.testBit i
        · simp
        · simp [hi hab]
      · have : a.testBit i = false := Nat.testBit_lt_two_pow (Nat.lt_of_lt_of_le ha (Nat.pow_le_pow_right (by omega) (by omega)))
        simp [this]
    omega
  · intro h
    have h' : a &&& b = a := by omega
    have : a &&& (2 ^ 64 - (b + 1)) = 0 := by
      apply Nat.eq_of_testBit_eq
      intro i
      have hi := congrArg (fun z => Nat.testBit z i) h'
      simp only [Nat.testBit_and] at hi
      rw [Nat.testBit_and, Nat.testBit_two_pow_sub_succ hx, Nat.zero_testBit]
      cases hab : a.testBit i
      · simp
      · rw [hab] at hi
        simp at hi
        simp [hi]
    omega
theorem ok_no0 (r : Rl) (h : matB r.k0 r.v0 r.m0 0 4294967295 = false) : r.ok = false := by unfold Rl.ok ruleB; rw [h]; simp
theorem ok_no1 (r : Rl) (h : matB r.k1 r.v1 r.m1 0 4294967295 = false) : r.ok = false := by unfold Rl.ok ruleB; rw [h]; simp
theorem ok_no2 (r : Rl) (h : matB r.k2 r.v2 r.m2 0 255 = false) : r.ok = false := by unfold Rl.ok ruleB; rw [h]; simp
theorem ok_no3 (r : Rl) (h : matB r.k3 r.v3 r.m3 0 65535 = false) : r.ok = false := by unfold Rl.ok ruleB; rw [h]; simp
theorem ok_no4 (r : Rl) (h : matB r.k4 r.v4 r.m4 0 65535 = false) : r.ok = false := by unfold Rl.ok ruleB; rw [h]; simp
theorem head_no (r : Rl) (h : r.id < 0 ∨ r.pr < 0 ∨ 1000 < r.pr ∨ r.ac < 0 ∨ 2 < r.ac ∨ r.po < 0 ∨ 8 ≤ r.po ∨ (r.ac ≠ 2 ∧ r.po ≠ 0)) : r.ok = false := by
  cases ho : r.ok with
  | false => rfl
  | true =>
    exfalso
    unfold Rl.ok ruleB actB at ho
    simp only [Bool.and_eq_true, Bool.not_eq_true', decide_eq_false_iff_not] at ho
    obtain ⟨h1, h2, h3, _, _, _, _, _, h9⟩ := ho
    split at h9
    · simp at h9; omega
    · split at h9
      · simp at h9; omega
      · split at h9
        · simp at h9; omega
        · cases h9
theorem all_ok (r : Rl) (h : ¬ (r.id < 0 ∨ r.pr < 0 ∨ 1000 < r.pr ∨ r.ac < 0 ∨ 2 < r.ac ∨ r.po < 0 ∨ 8 ≤ r.po ∨ (r.ac ≠ 2 ∧ r.po ≠ 0))) (h0 : matB r.k0 r.v0 r.m0 0 4294967295 = true) (h1 : matB r.k1 r.v1 r.m1 0 4294967295 = true) (h2 : matB r.k2 r.v2 r.m2 0 255 = true) (h3 : matB r.k3 r.v3 r.m3 0 65535 = true) (h4 : matB r.k4 r.v4 r.m4 0 65535 = true) : r.ok = true := by
  have ha : actB r.ac r.po = true := by
    unfold actB
    split
    · simp; omega
    · split
      · simp; omega
      · rw [if_pos (by omega)]
        simp; omega
  unfold Rl.ok ruleB
  rw [h0, h1, h2, h3, h4, ha, decide_eq_false (by omega), decide_eq_false (by omega), decide_eq_false (by omega)]
  rfl

set_option maxRecDepth 100000 in
set_option maxHeartbeats 2000000 in
theorem xIsRule_any (r : Rl) (w : World) : Calls Tryz.prog 123 #[.agg #[.int .i64 r.id, .int .i64 r.pr, .int .i64 r.k0, .int .i64 r.v0, .int .i64 r.m0, .int .i64 r.k1, .int .i64 r.v1, .int .i64 r.m1, .int .i64 r.k2, .int .i64 r.v2, .int .i64 r.m2, .int .i64 r.k3, .int .i64 r.v3, .int .i64 r.m3, .int .i64 r.k4, .int .i64 r.v4, .int .i64 r.m4, .int .i64 r.ac, .int .i64 r.po]] w fun e w' => e = .returned (.bool r.ok) ∧ Below w.heap.size w w' := by
  by_cases hi : r.id < 0
  · have HNO : Hid (r.ok = false) := hide (head_no r (by omega))
    go_enter Tryz.func123, Tryz.ntmps123
    go_wp2
    go_ret
    exact ⟨by first | (rw [HNO.out]; done) | (rw [HNO.out]; rfl), (by repeat (first | exact Below.refl _ _ | assumption | refine Below.drewN ?_ | refine Below.drew ?_ | refine Below.setCell ?_ (by first | exact Nat.le_refl _ | omega | (simp; done) | (simp; omega)) _ | refine Below.alloc ?_ (by first | exact Nat.le_refl _ | omega | (simp; done) | (simp; omega)) _))⟩
  by_cases hp : r.pr < 0
  · have HNO : Hid (r.ok = false) := hide (head_no r (by omega))
    go_enter Tryz.func123, Tryz.ntmps123
    go_wp2
    go_ret
    exact ⟨by first | (rw [HNO.out]; done) | (rw [HNO.out]; rfl), (by repeat (first | exact Below.refl _ _ | assumption | refine Below.drewN ?_ | refine Below.drew ?_ | refine Below.setCell ?_ (by first | exact Nat.le_refl _ | omega | (simp; done) | (simp; omega)) _ | refine Below.alloc ?_ (by first | exact Nat.le_refl _ | omega | (simp; done) | (simp; omega)) _))⟩
  by_cases hp2 : 1000 < r.pr
  · have HNO : Hid (r.ok = false) := hide (head_no r (by omega))
    go_enter Tryz.func123, Tryz.ntmps123
    go_wp2
    go_ret
    exact ⟨by first | (rw [HNO.out]; done) | (rw [HNO.out]; rfl), (by repeat (first | exact Below.refl _ _ | assumption | refine Below.drewN ?_ | refine Below.drew ?_ | refine Below.setCell ?_ (by first | exact Nat.le_refl _ | omega | (simp; done) | (simp; omega)) _ | refine Below.alloc ?_ (by first | exact Nat.le_refl _ | omega | (simp; done) | (simp; omega)) _))⟩
  by_cases ha : r.ac < 0
  · have HNO : Hid (r.ok = false) := hide (head_no r (by omega))
    go_enter Tryz.func123, Tryz.ntmps123
    go_wp2
    go_ret
    exact ⟨by first | (rw [HNO.out]; done) | (rw [HNO.out]; rfl), (by repeat (first | exact Below.refl _ _ | assumption | refine Below.drewN ?_ | refine Below.drew ?_ | refine Below.setCell ?_ (by first | exact Nat.le_refl _ | omega | (simp; done) | (simp; omega)) _ | refine Below.alloc ?_ (by first | exact Nat.le_refl _ | omega | (simp; done) | (simp; omega)) _))⟩
  by_cases ha2 : 2 < r.ac
  · have HNO : Hid (r.ok = false) := hide (head_no r (by omega))
    go_enter Tryz.func123, Tryz.ntmps123
    go_wp2
    go_ret
    exact ⟨by first | (rw [HNO.out]; done) | (rw [HNO.out]; rfl), (by repeat (first | exact Below.refl _ _ | assumption | refine Below.drewN ?_ | refine Below.drew ?_ | refine Below.setCell ?_ (by first | exact Nat.le_refl _ | omega | (simp; done) | (simp; omega)) _ | refine Below.alloc ?_ (by first | exact Nat.le_refl _ | omega | (simp; done) | (simp; omega)) _))⟩
  by_cases ho : r.po < 0
  · have HNO : Hid (r.ok = false) := hide (head_no r (by omega))
    go_enter Tryz.func123, Tryz.ntmps123
    go_wp2
    go_ret
    exact ⟨by first | (rw [HNO.out]; done) | (rw [HNO.out]; rfl), (by repeat (first | exact Below.refl _ _ | assumption | refine Below.drewN ?_ | refine Below.drew ?_ | refine Below.setCell ?_ (by first | exact Nat.le_refl _ | omega | (simp; done) | (simp; omega)) _ | refine Below.alloc ?_ (by first | exact Nat.le_refl _ | omega | (simp; done) | (simp; omega)) _))⟩
  by_cases ho2 : 8 ≤ r.po
  · have HNO : Hid (r.ok = false) := hide (head_no r (by omega))
    go_enter Tryz.func123, Tryz.ntmps123
    go_wp2
    go_ret
    exact ⟨by first | (rw [HNO.out]; done) | (rw [HNO.out]; rfl), (by repeat (first | exact Below.refl _ _ | assumption | refine Below.drewN ?_ | refine Below.drew ?_ | refine Below.setCell ?_ (by first | exact Nat.le_refl _ | omega | (simp; done) | (simp; omega)) _ | refine Below.alloc ?_ (by first | exact Nat.le_refl _ | omega | (simp; done) | (simp; omega)) _))⟩
  by_cases hac : r.ac ≠ 2 ∧ r.po ≠ 0
  · have HNO : Hid (r.ok = false) := hide (head_no r (by omega))
    have e1 : (r.ac != 2) = true := by simpa using hac.1
    have e2 : (r.po != 0) = true := by simpa using hac.2
    clear hac
    go_enter Tryz.func123, Tryz.ntmps123
    go_wp2
    go_ret
    exact ⟨by first | (rw [HNO.out]; done) | (rw [HNO.out]; rfl), (by repeat (first | exact Below.refl _ _ | assumption | refine Below.drewN ?_ | refine Below.drew ?_ | refine Below.setCell ?_ (by first | exact Nat.le_refl _ | omega | (simp; done) | (simp; omega)) _ | refine Below.alloc ?_ (by first | exact Nat.le_refl _ | omega | (simp; done) | (simp; omega)) _))⟩
  have HALL := hide (all_ok r (by omega))
  have hd : (r.ac != 2) = false ∨ ((r.ac != 2) = true ∧ (r.po != 0) = false) := by
    by_cases h : r.ac = 2
    · exact .inl (by simp [h])
    · refine .inr ⟨by simpa using h, ?_⟩
      have : r.po = 0 := by omega
      simp [this]
  have P1 := hide (range_new w #[.int .i64 r.id, .int .i64 r.pr, .int .i64 r.k0, .int .i64 r.v0, .int .i64 r.m0, .int .i64 r.k1, .int .i64 r.v1, .int .i64 r.m1, .int .i64 r.k2, .int .i64 r.v2, .int .i64 r.m2, .int .i64 r.k3, .int .i64 r.v3, .int .i64 r.m3, .int .i64 r.k4, .int .i64 r.v4, .int .i64 r.m4, .int .i64 r.ac, .int .i64 r.po] 37)
  have CN := hide fun (i : Nat) (n : Int) (W : World) (hi : i < 5) => xnumber_any i n W hi
  clear hac
  rcases hd with d1 | ⟨d1, d2⟩
  all_goals
    go_enter Tryz.func123, Tryz.ntmps123
    go_wp2
    go_loopw [3, 4, 5, 6, 72, 82] (fun i _ _ _ _ _ wr => ∃ k : Nat, k ≤ 5 ∧ i = .int .i64 k ∧ Below w.heap.size w wr ∧ w.heap.size < wr.heap.size ∧ wr.rangeAt w.heap.size 0 [.int .i64 r.id, .int .i64 r.pr, .int .i64 r.k0, .int .i64 r.v0, .int .i64 r.m0, .int .i64 r.k1, .int .i64 r.v1, .int .i64 r.m1, .int .i64 r.k2, .int .i64 r.v2, .int .i64 r.m2, .int .i64 r.k3, .int .i64 r.v3, .int .i64 r.m3, .int .i64 r.k4, .int .i64 r.v4, .int .i64 r.m4, .int .i64 r.ac, .int .i64 r.po] ∧ (0 < k → matB r.k0 r.v0 r.m0 0 4294967295 = true) ∧ (1 < k → matB r.k1 r.v1 r.m1 0 4294967295 = true) ∧ (2 < k → matB r.k2 r.v2 r.m2 0 255 = true) ∧ (3 < k → matB r.k3 r.v3 r.m3 0 65535 = true) ∧ (4 < k → matB r.k4 r.v4 r.m4 0 65535 = true)) (fun i _ _ _ _ _ _ => 5 - (intOf i).toNat)
    case atStart => exact ⟨0, by omega, rfl, (by repeat (first | exact Below.refl _ _ | assumption | refine Below.drewN ?_ | refine Below.drew ?_ | refine Below.setCell ?_ (by first | exact Nat.le_refl _ | omega | (simp; done) | (simp; omega)) _ | refine Below.alloc ?_ (by first | exact Nat.le_refl _ | omega | (simp; done) | (simp; omega)) _)), by simp, P1.out, by omega, by omega, by omega, by omega, by omega⟩
    case round =>
      clear P1
      obtain ⟨k, hk, rfl, hb, hlt, hr, h0, h1, h2, h3, h4⟩ := hrel
      match k, hk with
      | 0, _ =>
        have ck : wr.cell? ⟨w.heap.size, 2, none⟩ = some (.int .i64 r.k0) := hr 2 _ rfl
        have cv : wr.cell? ⟨w.heap.size, 3, none⟩ = some (.int .i64 r.v0) := hr 3 _ rfl
        have cm : wr.cell? ⟨w.heap.size, 4, none⟩ = some (.int .i64 r.m0) := hr 4 _ rfl
        have HR' := hide (range_blw hr ((Below.refl _ wr).alloc (Nat.le_refl _) (.cells #[.int .i64 r.k0, .int .i64 r.v0, .int .i64 r.m0] 34)))
        have HB' : Hid (Below w.heap.size w (wr.alloc (.cells #[.int .i64 r.k0, .int .i64 r.v0, .int .i64 r.m0] 34))) := hide (hb.alloc hb.size _)
        clear hr h0 h1 h2 h3 h4
        go_wp2_with fail
        refine (CN.out 0 r.v0 _ (by omega)).mono ?_
        rintro e W ⟨rfl, hww⟩
        rw [hww]
        clear hww W
        have HM : Hid (matB r.k0 r.v0 r.m0 0 4294967295 = (hasB 0 (mostN 0) r.v0 && (hasB 0 (mostN 0) r.m0 && (if r.k0 = 0 then bits .andNot .i64 r.v0 r.m0 == 0 else if r.k0 = 1 then decide (r.v0 ≤ r.m0) else false)))) := hide rfl
        have MB : mostN 0 ≤ 4294967295 := by decide
        have HV : Hid (hasB 0 (mostN 0) r.v0 = true → hasB 0 (mostN 0) r.m0 = true → (bits .andNot .i64 r.v0 r.m0 == 0) = (bits .and .i64 r.v0 r.m0 == r.v0)) := hide fun a b => andNot_and (by have := hasB_iff.1 a; omega) (by have := hasB_iff.1 b; omega)
        clear MB
        generalize hasB 0 (mostN 0) r.v0 = qa at *
        go_wp2_with fail
        refine (CN.out 0 r.m0 _ (by omega)).mono ?_
        rintro e W ⟨rfl, hww⟩
        rw [hww]
        clear hww W
        generalize hasB 0 (mostN 0) r.m0 = qb at *
        cases qa with
        | false =>
          have HNO : Hid (r.ok = false) := hide (ok_no0 r (by rw [HM.out]; rfl))
          go_wp2
          go_ret
          exact ⟨by first | (rw [HNO.out]; done) | (rw [HNO.out]; rfl), HB'.out⟩
        | true =>
          cases qb with
          | false =>
            have HNO : Hid (r.ok = false) := hide (ok_no0 r (by rw [HM.out]; rfl))
            go_wp2
            go_ret
            exact ⟨by first | (rw [HNO.out]; done) | (rw [HNO.out]; rfl), HB'.out⟩
          | true =>
            have HV2 := hide (HV.out rfl rfl)
            clear HV
            by_cases k0 : r.k0 = 0
            · have b0 : (r.k0 == 0) = true := by simp [k0]
              cases hh : (bits .and .i64 r.v0 r.m0 == r.v0) with
              | true =>
                have hn : (bits .and .i64 r.v0 r.m0 != r.v0) = false := by rw [bne, hh]; rfl
                have HIT : Hid (matB r.k0 r.v0 r.m0 0 4294967295 = true) := hide (by rw [HM.out, if_pos k0, HV2.out, hh]; rfl)
                clear hh k0
                go_wp2
                go_roundw
                case rel => exact ⟨1, by omega, rfl, HB'.out, by simp; omega, HR'.out, fun _ => HIT.out, by omega, by omega, by omega, by omega⟩
                case measure => simp [intOf]
              | false =>
                have hn : (bits .and .i64 r.v0 r.m0 != r.v0) = true := by rw [bne, hh]; rfl
                have HNO : Hid (r.ok = false) := hide (ok_no0 r (by rw [HM.out, if_pos k0, HV2.out, hh]; rfl))
                clear hh k0
                go_wp2
                go_ret
                exact ⟨by first | (rw [HNO.out]; done) | (rw [HNO.out]; rfl), HB'.out⟩
            · have b0 : (r.k0 == 0) = false := by simpa using k0
              by_cases k1 : r.k0 = 1
              · have b1 : (r.k0 == 1) = true := by simp [k1]
                by_cases hle : r.v0 ≤ r.m0
                · have hgt : ¬ r.m0 < r.v0 := by omega
                  have HIT : Hid (matB r.k0 r.v0 r.m0 0 4294967295 = true) := hide (by rw [HM.out, if_neg k0, if_pos k1, decide_eq_true hle]; rfl)
                  clear k0 k1
                  go_wp2
                  go_roundw
                  case rel => exact ⟨1, by omega, rfl, HB'.out, by simp; omega, HR'.out, fun _ => HIT.out, by omega, by omega, by omega, by omega⟩
                  case measure => simp [intOf]
                · have hgt : r.m0 < r.v0 := by omega
                  have HNO : Hid (r.ok = false) := hide (ok_no0 r (by rw [HM.out, if_neg k0, if_pos k1, decide_eq_false hle]; rfl))
                  clear k0 k1
                  go_wp2
                  go_ret
                  exact ⟨by first | (rw [HNO.out]; done) | (rw [HNO.out]; rfl), HB'.out⟩
              · have b1 : (r.k0 == 1) = false := by simpa using k1
                have HNO : Hid (r.ok = false) := hide (ok_no0 r (by rw [HM.out, if_neg k0, if_neg k1]; rfl))
                go_wp2
                go_ret
                exact ⟨by first | (rw [HNO.out]; done) | (rw [HNO.out]; rfl), HB'.out⟩
      | 1, _ =>
        have ck : wr.cell? ⟨w.heap.size, 5, none⟩ = some (.int .i64 r.k1) := hr 5 _ rfl
        have cv : wr.cell? ⟨w.heap.size, 6, none⟩ = some (.int .i64 r.v1) := hr 6 _ rfl
        have cm : wr.cell? ⟨w.heap.size, 7, none⟩ = some (.int .i64 r.m1) := hr 7 _ rfl
        have HR' := hide (range_blw hr ((Below.refl _ wr).alloc (Nat.le_refl _) (.cells #[.int .i64 r.k1, .int .i64 r.v1, .int .i64 r.m1] 34)))
        have HB' : Hid (Below w.heap.size w (wr.alloc (.cells #[.int .i64 r.k1, .int .i64 r.v1, .int .i64 r.m1] 34))) := hide (hb.alloc hb.size _)
        have H0 := hide (h0 (by omega))
        clear hr h0 h1 h2 h3 h4
        go_wp2_with fail
        refine (CN.out 1 r.v1 _ (by omega)).mono ?_
        rintro e W ⟨rfl, hww⟩
        rw [hww]
        clear hww W
        have HM : Hid (matB r.k1 r.v1 r.m1 0 4294967295 = (hasB 0 (mostN 1) r.v1 && (hasB 0 (mostN 1) r.m1 && (if r.k1 = 0 then bits .andNot .i64 r.v1 r.m1 == 0 else if r.k1 = 1 then decide (r.v1 ≤ r.m1) else false)))) := hide rfl
        have MB : mostN 1 ≤ 4294967295 := by decide
        have HV : Hid (hasB 0 (mostN 1) r.v1 = true → hasB 0 (mostN 1) r.m1 = true → (bits .andNot .i64 r.v1 r.m1 == 0) = (bits .and .i64 r.v1 r.m1 == r.v1)) := hide fun a b => andNot_and (by have := hasB_iff.1 a; omega) (by have := hasB_iff.1 b; omega)
        clear MB
        generalize hasB 0 (mostN 1) r.v1 = qa at *
        go_wp2_with fail
        refine (CN.out 1 r.m1 _ (by omega)).mono ?_
        rintro e W ⟨rfl, hww⟩
        rw [hww]
        clear hww W
        generalize hasB 0 (mostN 1) r.m1 = qb at *
        cases qa with
        | false =>
          have HNO : Hid (r.ok = false) := hide (ok_no1 r (by rw [HM.out]; rfl))
          go_wp2
          go_ret
          exact ⟨by first | (rw [HNO.out]; done) | (rw [HNO.out]; rfl), HB'.out⟩
        | true =>
          cases qb with
          | false =>
            have HNO : Hid (r.ok = false) := hide (ok_no1 r (by rw [HM.out]; rfl))
            go_wp2
            go_ret
            exact ⟨by first | (rw [HNO.out]; done) | (rw [HNO.out]; rfl), HB'.out⟩
          | true =>
            have HV2 := hide (HV.out rfl rfl)
            clear HV
            by_cases k0 : r.k1 = 0
            · have b0 : (r.k1 == 0) = true := by simp [k0]
              cases hh : (bits .and .i64 r.v1 r.m1 == r.v1) with
              | true =>
                have hn : (bits .and .i64 r.v1 r.m1 != r.v1) = false := by rw [bne, hh]; rfl
                have HIT : Hid (matB r.k1 r.v1 r.m1 0 4294967295 = true) := hide (by rw [HM.out, if_pos k0, HV2.out, hh]; rfl)
                clear hh k0
                go_wp2
                go_roundw
                case rel => exact ⟨2, by omega, rfl, HB'.out, by simp; omega, HR'.out, fun _ => H0.out, fun _ => HIT.out, by omega, by omega, by omega⟩
                case measure => simp [intOf]
              | false =>
                have hn : (bits .and .i64 r.v1 r.m1 != r.v1) = true := by rw [bne, hh]; rfl
                have HNO : Hid (r.ok = false) := hide (ok_no1 r (by rw [HM.out, if_pos k0, HV2.out, hh]; rfl))
                clear hh k0
                go_wp2
                go_ret
                exact ⟨by first | (rw [HNO.out]; done) | (rw [HNO.out]; rfl), HB'.out⟩
            · have b0 : (r.k1 == 0) = false := by simpa using k0
              by_cases k1 : r.k1 = 1
              · have b1 : (r.k1 == 1) = true := by simp [k1]
                by_cases hle : r.v1 ≤ r.m1
                · have hgt : ¬ r.m1 < r.v1 := by omega
                  have HIT : Hid (matB r.k1 r.v1 r.m1 0 4294967295 = true) := hide (by rw [HM.out, if_neg k0, if_pos k1, decide_eq_true hle]; rfl)
                  clear k0 k1
                  go_wp2
                  go_roundw
                  case rel => exact ⟨2, by omega, rfl, HB'.out, by simp; omega, HR'.out, fun _ => H0.out, fun _ => HIT.out, by omega, by omega, by omega⟩
                  case measure => simp [intOf]
                · have hgt : r.m1 < r.v1 := by omega
                  have HNO : Hid (r.ok = false) := hide (ok_no1 r (by rw [HM.out, if_neg k0, if_pos k1, decide_eq_false hle]; rfl))
                  clear k0 k1
                  go_wp2
                  go_ret
                  exact ⟨by first | (rw [HNO.out]; done) | (rw [HNO.out]; rfl), HB'.out⟩
              · have b1 : (r.k1 == 1) = false := by simpa using k1
                have HNO : Hid (r.ok = false) := hide (ok_no1 r (by rw [HM.out, if_neg k0, if_neg k1]; rfl))
                go_wp2
                go_ret
                exact ⟨by first | (rw [HNO.out]; done) | (rw [HNO.out]; rfl), HB'.out⟩
      | 2, _ =>
        have ck : wr.cell? ⟨w.heap.size, 8, none⟩ = some (.int .i64 r.k2) := hr 8 _ rfl
        have cv : wr.cell? ⟨w.heap.size, 9, none⟩ = some (.int .i64 r.v2) := hr 9 _ rfl
        have cm : wr.cell? ⟨w.heap.size, 10, none⟩ = some (.int .i64 r.m2) := hr 10 _ rfl
        have HR' := hide (range_blw hr ((Below.refl _ wr).alloc (Nat.le_refl _) (.cells #[.int .i64 r.k2, .int .i64 r.v2, .int .i64 r.m2] 34)))
        have HB' : Hid (Below w.heap.size w (wr.alloc (.cells #[.int .i64 r.k2, .int .i64 r.v2, .int .i64 r.m2] 34))) := hide (hb.alloc hb.size _)
        have H0 := hide (h0 (by omega))
        have H1 := hide (h1 (by omega))
        clear hr h0 h1 h2 h3 h4
        go_wp2_with fail
        refine (CN.out 2 r.v2 _ (by omega)).mono ?_
        rintro e W ⟨rfl, hww⟩
        rw [hww]
        clear hww W
        have HM : Hid (matB r.k2 r.v2 r.m2 0 255 = (hasB 0 (mostN 2) r.v2 && (hasB 0 (mostN 2) r.m2 && (if r.k2 = 0 then bits .andNot .i64 r.v2 r.m2 == 0 else if r.k2 = 1 then decide (r.v2 ≤ r.m2) else false)))) := hide rfl
        have MB : mostN 2 ≤ 4294967295 := by decide
        have HV : Hid (hasB 0 (mostN 2) r.v2 = true → hasB 0 (mostN 2) r.m2 = true → (bits .andNot .i64 r.v2 r.m2 == 0) = (bits .and .i64 r.v2 r.m2 == r.v2)) := hide fun a b => andNot_and (by have := hasB_iff.1 a; omega) (by have := hasB_iff.1 b; omega)
        clear MB
        generalize hasB 0 (mostN 2) r.v2 = qa at *
        go_wp2_with fail
        refine (CN.out 2 r.m2 _ (by omega)).mono ?_
        rintro e W ⟨rfl, hww⟩
        rw [hww]
        clear hww W
        generalize hasB 0 (mostN 2) r.m2 = qb at *
        cases qa with
        | false =>
          have HNO : Hid (r.ok = false) := hide (ok_no2 r (by rw [HM.out]; rfl))
          go_wp2
          go_ret
          exact ⟨by first | (rw [HNO.out]; done) | (rw [HNO.out]; rfl), HB'.out⟩
        | true =>
          cases qb with
          | false =>
            have HNO : Hid (r.ok = false) := hide (ok_no2 r (by rw [HM.out]; rfl))
            go_wp2
            go_ret
            exact ⟨by first | (rw [HNO.out]; done) | (rw [HNO.out]; rfl), HB'.out⟩
          | true =>
            have HV2 := hide (HV.out rfl rfl)
            clear HV
            by_cases k0 : r.k2 = 0
            · have b0 : (r.k2 == 0) = true := by simp [k0]
              cases hh : (bits .and .i64 r.v2 r.m2 == r.v2) with
              | true =>
                have hn : (bits .and .i64 r.v2 r.m2 != r.v2) = false := by rw [bne, hh]; rfl
                have HIT : Hid (matB r.k2 r.v2 r.m2 0 255 = true) := hide (by rw [HM.out, if_pos k0, HV2.out, hh]; rfl)
                clear hh k0
                go_wp2
                go_roundw
                case rel => exact ⟨3, by omega, rfl, HB'.out, by simp; omega, HR'.out, fun _ => H0.out, fun _ => H1.out, fun _ => HIT.out, by omega, by omega⟩
                case measure => simp [intOf]
              | false =>
                have hn : (bits .and .i64 r.v2 r.m2 != r.v2) = true := by rw [bne, hh]; rfl
                have HNO : Hid (r.ok = false) := hide (ok_no2 r (by rw [HM.out, if_pos k0, HV2.out, hh]; rfl))
                clear hh k0
                go_wp2
                go_ret
                exact ⟨by first | (rw [HNO.out]; done) | (rw [HNO.out]; rfl), HB'.out⟩
            · have b0 : (r.k2 == 0) = false := by simpa using k0
              by_cases k1 : r.k2 = 1
              · have b1 : (r.k2 == 1) = true := by simp [k1]
                by_cases hle : r.v2 ≤ r.m2
                · have hgt : ¬ r.m2 < r.v2 := by omega
                  have HIT : Hid (matB r.k2 r.v2 r.m2 0 255 = true) := hide (by rw [HM.out, if_neg k0, if_pos k1, decide_eq_true hle]; rfl)
                  clear k0 k1
                  go_wp2
                  go_roundw
                  case rel => exact ⟨3, by omega, rfl, HB'.out, by simp; omega, HR'.out, fun _ => H0.out, fun _ => H1.out, fun _ => HIT.out, by omega, by omega⟩
                  case measure => simp [intOf]
                · have hgt : r.m2 < r.v2 := by omega
                  have HNO : Hid (r.ok = false) := hide (ok_no2 r (by rw [HM.out, if_neg k0, if_pos k1, decide_eq_false hle]; rfl))
                  clear k0 k1
                  go_wp2
                  go_ret
                  exact ⟨by first | (rw [HNO.out]; done) | (rw [HNO.out]; rfl), HB'.out⟩
              · have b1 : (r.k2 == 1) = false := by simpa using k1
                have HNO : Hid (r.ok = false) := hide (ok_no2 r (by rw [HM.out, if_neg k0, if_neg k1]; rfl))
                go_wp2
                go_ret
                exact ⟨by first | (rw [HNO.out]; done) | (rw [HNO.out]; rfl), HB'.out⟩
      | 3, _ =>
        have ck : wr.cell? ⟨w.heap.size, 11, none⟩ = some (.int .i64 r.k3) := hr 11 _ rfl
        have cv : wr.cell? ⟨w.heap.size, 12, none⟩ = some (.int .i64 r.v3) := hr 12 _ rfl
        have cm : wr.cell? ⟨w.heap.size, 13, none⟩ = some (.int .i64 r.m3) := hr 13 _ rfl
        have HR' := hide (range_blw hr ((Below.refl _ wr).alloc (Nat.le_refl _) (.cells #[.int .i64 r.k3, .int .i64 r.v3, .int .i64 r.m3] 34)))
        have HB' : Hid (Below w.heap.size w (wr.alloc (.cells #[.int .i64 r.k3, .int .i64 r.v3, .int .i64 r.m3] 34))) := hide (hb.alloc hb.size _)
        have H0 := hide (h0 (by omega))
        have H1 := hide (h1 (by omega))
        have H2 := hide (h2 (by omega))
        clear hr h0 h1 h2 h3 h4
        go_wp2_with fail
        refine (CN.out 3 r.v3 _ (by omega)).mono ?_
        rintro e W ⟨rfl, hww⟩
        rw [hww]
        clear hww W
        have HM : Hid (matB r.k3 r.v3 r.m3 0 65535 = (hasB 0 (mostN 3) r.v3 && (hasB 0 (mostN 3) r.m3 && (if r.k3 = 0 then bits .andNot .i64 r.v3 r.m3 == 0 else if r.k3 = 1 then decide (r.v3 ≤ r.m3) else false)))) := hide rfl
        have MB : mostN 3 ≤ 4294967295 := by decide
        have HV : Hid (hasB 0 (mostN 3) r.v3 = true → hasB 0 (mostN 3) r.m3 = true → (bits .andNot .i64 r.v3 r.m3 == 0) = (bits .and .i64 r.v3 r.m3 == r.v3)) := hide fun a b => andNot_and (by have := hasB_iff.1 a; omega) (by have := hasB_iff.1 b; omega)
        clear MB
        generalize hasB 0 (mostN 3) r.v3 = qa at *
        go_wp2_with fail
        refine (CN.out 3 r.m3 _ (by omega)).mono ?_
        rintro e W ⟨rfl, hww⟩
        rw [hww]
        clear hww W
        generalize hasB 0 (mostN 3) r.m3 = qb at *
        cases qa with
        | false =>
          have HNO : Hid (r.ok = false) := hide (ok_no3 r (by rw [HM.out]; rfl))
          go_wp2
          go_ret
          exact ⟨by first | (rw [HNO.out]; done) | (rw [HNO.out]; rfl), HB'.out⟩
        | true =>
          cases qb with
          | false =>
            have HNO : Hid (r.ok = false) := hide (ok_no3 r (by rw [HM.out]; rfl))
            go_wp2
            go_ret
            exact ⟨by first | (rw [HNO.out]; done) | (rw [HNO.out]; rfl), HB'.out⟩
          | true =>
            have HV2 := hide (HV.out rfl rfl)
            clear HV
            by_cases k0 : r.k3 = 0
            · have b0 : (r.k3 == 0) = true := by simp [k0]
              cases hh : (bits .and .i64 r.v3 r.m3 == r.v3) with
              | true =>
                have hn : (bits .and .i64 r.v3 r.m3 != r.v3) = false := by rw [bne, hh]; rfl
                have HIT : Hid (matB r.k3 r.v3 r.m3 0 65535 = true) := hide (by rw [HM.out, if_pos k0, HV2.out, hh]; rfl)
                clear hh k0
                go_wp2
                go_roundw
                case rel => exact ⟨4, by omega, rfl, HB'.out, by simp; omega, HR'.out, fun _ => H0.out, fun _ => H1.out, fun _ => H2.out, fun _ => HIT.out, by omega⟩
                case measure => simp [intOf]
              | false =>
                have hn : (bits .and .i64 r.v3 r.m3 != r.v3) = true := by rw [bne, hh]; rfl
                have HNO : Hid (r.ok = false) := hide (ok_no3 r (by rw [HM.out, if_pos k0, HV2.out, hh]; rfl))
                clear hh k0
                go_wp2
                go_ret
                exact ⟨by first | (rw [HNO.out]; done) | (rw [HNO.out]; rfl), HB'.out⟩
            · have b0 : (r.k3 == 0) = false := by simpa using k0
              by_cases k1 : r.k3 = 1
              · have b1 : (r.k3 == 1) = true := by simp [k1]
                by_cases hle : r.v3 ≤ r.m3
                · have hgt : ¬ r.m3 < r.v3 := by omega
                  have HIT : Hid (matB r.k3 r.v3 r.m3 0 65535 = true) := hide (by rw [HM.out, if_neg k0, if_pos k1, decide_eq_true hle]; rfl)
                  clear k0 k1
                  go_wp2
                  go_roundw
                  case rel => exact ⟨4, by omega, rfl, HB'.out, by simp; omega, HR'.out, fun _ => H0.out, fun _ => H1.out, fun _ => H2.out, fun _ => HIT.out, by omega⟩
                  case measure => simp [intOf]
                · have hgt : r.m3 < r.v3 := by omega
                  have HNO : Hid (r.ok = false) := hide (ok_no3 r (by rw [HM.out, if_neg k0, if_pos k1, decide_eq_false hle]; rfl))
                  clear k0 k1
                  go_wp2
                  go_ret
                  exact ⟨by first | (rw [HNO.out]; done) | (rw [HNO.out]; rfl), HB'.out⟩
              · have b1 : (r.k3 == 1) = false := by simpa using k1
                have HNO : Hid (r.ok = false) := hide (ok_no3 r (by rw [HM.out, if_neg k0, if_neg k1]; rfl))
                go_wp2
                go_ret
                exact ⟨by first | (rw [HNO.out]; done) | (rw [HNO.out]; rfl), HB'.out⟩
      | 4, _ =>
        have ck : wr.cell? ⟨w.heap.size, 14, none⟩ = some (.int .i64 r.k4) := hr 14 _ rfl
        have cv : wr.cell? ⟨w.heap.size, 15, none⟩ = some (.int .i64 r.v4) := hr 15 _ rfl
        have cm : wr.cell? ⟨w.heap.size, 16, none⟩ = some (.int .i64 r.m4) := hr 16 _ rfl
        have HR' := hide (range_blw hr ((Below.refl _ wr).alloc (Nat.le_refl _) (.cells #[.int .i64 r.k4, .int .i64 r.v4, .int .i64 r.m4] 34)))
        have HB' : Hid (Below w.heap.size w (wr.alloc (.cells #[.int .i64 r.k4, .int .i64 r.v4, .int .i64 r.m4] 34))) := hide (hb.alloc hb.size _)
        have H0 := hide (h0 (by omega))
        have H1 := hide (h1 (by omega))
        have H2 := hide (h2 (by omega))
        have H3 := hide (h3 (by omega))
        clear hr h0 h1 h2 h3 h4
        go_wp2_with fail
        refine (CN.out 4 r.v4 _ (by omega)).mono ?_
        rintro e W ⟨rfl, hww⟩
        rw [hww]
        clear hww W
        have HM : Hid (matB r.k4 r.v4 r.m4 0 65535 = (hasB 0 (mostN 4) r.v4 && (hasB 0 (mostN 4) r.m4 && (if r.k4 = 0 then bits .andNot .i64 r.v4 r.m4 == 0 else if r.k4 = 1 then decide (r.v4 ≤ r.m4) else false)))) := hide rfl
        have MB : mostN 4 ≤ 4294967295 := by decide
        have HV : Hid (hasB 0 (mostN 4) r.v4 = true → hasB 0 (mostN 4) r.m4 = true → (bits .andNot .i64 r.v4 r.m4 == 0) = (bits .and .i64 r.v4 r.m4 == r.v4)) := hide fun a b => andNot_and (by have := hasB_iff.1 a; omega) (by have := hasB_iff.1 b; omega)
        clear MB
        generalize hasB 0 (mostN 4) r.v4 = qa at *
        go_wp2_with fail
        refine (CN.out 4 r.m4 _ (by omega)).mono ?_
        rintro e W ⟨rfl, hww⟩
        rw [hww]
        clear hww W
        generalize hasB 0 (mostN 4) r.m4 = qb at *
        cases qa with
        | false =>
          have HNO : Hid (r.ok = false) := hide (ok_no4 r (by rw [HM.out]; rfl))
          go_wp2
          go_ret
          exact ⟨by first | (rw [HNO.out]; done) | (rw [HNO.out]; rfl), HB'.out⟩
        | true =>
          cases qb with
          | false =>
            have HNO : Hid (r.ok = false) := hide (ok_no4 r (by rw [HM.out]; rfl))
            go_wp2
            go_ret
            exact ⟨by first | (rw [HNO.out]; done) | (rw [HNO.out]; rfl), HB'.out⟩
          | true =>
            have HV2 := hide (HV.out rfl rfl)
            clear HV
            by_cases k0 : r.k4 = 0
            · have b0 : (r.k4 == 0) = true := by simp [k0]
              cases hh : (bits .and .i64 r.v4 r.m4 == r.v4) with
              | true =>
                have hn : (bits .and .i64 r.v4 r.m4 != r.v4) = false := by rw [bne, hh]; rfl
                have HIT : Hid (matB r.k4 r.v4 r.m4 0 65535 = true) := hide (by rw [HM.out, if_pos k0, HV2.out, hh]; rfl)
                clear hh k0
                go_wp2
                go_roundw
                case rel => exact ⟨5, by omega, rfl, HB'.out, by simp; omega, HR'.out, fun _ => H0.out, fun _ => H1.out, fun _ => H2.out, fun _ => H3.out, fun _ => HIT.out⟩
                case measure => simp [intOf]
              | false =>
                have hn : (bits .and .i64 r.v4 r.m4 != r.v4) = true := by rw [bne, hh]; rfl
                have HNO : Hid (r.ok = false) := hide (ok_no4 r (by rw [HM.out, if_pos k0, HV2.out, hh]; rfl))
                clear hh k0
                go_wp2
                go_ret
                exact ⟨by first | (rw [HNO.out]; done) | (rw [HNO.out]; rfl), HB'.out⟩
            · have b0 : (r.k4 == 0) = false := by simpa using k0
              by_cases k1 : r.k4 = 1
              · have b1 : (r.k4 == 1) = true := by simp [k1]
                by_cases hle : r.v4 ≤ r.m4
                · have hgt : ¬ r.m4 < r.v4 := by omega
                  have HIT : Hid (matB r.k4 r.v4 r.m4 0 65535 = true) := hide (by rw [HM.out, if_neg k0, if_pos k1, decide_eq_true hle]; rfl)
                  clear k0 k1
                  go_wp2
                  go_roundw
                  case rel => exact ⟨5, by omega, rfl, HB'.out, by simp; omega, HR'.out, fun _ => H0.out, fun _ => H1.out, fun _ => H2.out, fun _ => H3.out, fun _ => HIT.out⟩
                  case measure => simp [intOf]
                · have hgt : r.m4 < r.v4 := by omega
                  have HNO : Hid (r.ok = false) := hide (ok_no4 r (by rw [HM.out, if_neg k0, if_pos k1, decide_eq_false hle]; rfl))
                  clear k0 k1
                  go_wp2
                  go_ret
                  exact ⟨by first | (rw [HNO.out]; done) | (rw [HNO.out]; rfl), HB'.out⟩
              · have b1 : (r.k4 == 1) = false := by simpa using k1
                have HNO : Hid (r.ok = false) := hide (ok_no4 r (by rw [HM.out, if_neg k0, if_neg k1]; rfl))
                go_wp2
                go_ret
                exact ⟨by first | (rw [HNO.out]; done) | (rw [HNO.out]; rfl), HB'.out⟩
      | 5, _ =>
        have HB := hide hb
        have HT := hide (HALL.out (h0 (by omega)) (h1 (by omega)) (h2 (by omega)) (h3 (by omega)) (h4 (by omega)))
        clear h0 h1 h2 h3 h4 hr hb
        go_wp2
        go_ret
        exact ⟨by first | (rw [HT.out]; done) | (rw [HT.out]; rfl), HB.out⟩
end Go.Proofs.YtnjalelblbjfiaaGreatDoor

namespace Go.Proofs.YtnjalelblbjfiaaGreatDoor
open Go.RowKit
open Go.Sort (grow)

theorem cell_at0 {w : World} {g o : Nat} {v : Value} {cs : List Value} (h : w.rangeAt g o (v :: cs)) : w.cell? ⟨g, o, none⟩ = some v := h 0 _ rfl

theorem wpQuiet_load_mid {P : Program} {ops : Array Oper} {C : World → Prop} {Q : Act → Prop} {o : Oper} {rest : List Oper} {a : Act} (hgd : o.guard = none) (ty : TypeId) (x : Operand) (ho : o.op = .load ty x)
    (b off : Nat) (hx : a.eval x = .pointer (some ⟨b, off, none⟩)) (cs : List Value) (d : TypeDesc) (hc : ∀ w, C w → w.rangeAt b off cs)
    (hu : P.underlying ty = some d) (hd : d.isRow = true) (hi : (P.info? ty).map (·.size) = some cs.length)
    (h : wpQuiet P ops C Q rest (a.put o.dst (.agg cs.toArray))) : wpQuiet P ops C Q (o :: rest) a :=
  wpQuiet_step fun K hK => by
    have hw : Region.wanted o (yielded ops a.tmps) = true := by simp [Region.wanted, hgd]
    rw [if_pos hw]
    refine ⟨_, fun w hw' => ?_, hK _ h⟩
    unfold Oper.quietAt execOp
    simp only [ho, hx, Instr.loadAt, Instr.sureAddr, Sem.run_bind, Sem.run_pure, Result.andThen_ok, run_loadVar_mid w b off ty cs d (hc w hw') hu hd hi]
    exact ⟨rfl, rfl⟩
theorem range_regrown {w w' : World} {b o : Nat} {cs : List Value} (h : w.rangeAt b o cs) (hw : ∃ p : Regrown, w' = grow (redrawn w p.d) p.os) : w'.rangeAt b o cs := fun j u hu => by
  obtain ⟨p, rfl⟩ := hw
  exact cell_regrown (h j u hu) _ _
attribute [local go_sem] cell?_regrown

theorem underKey : ∃ d, Tryz.prog.underlying 39 = some d ∧ d.isRow = true := isRow_of (by kernel_rfl)
theorem sizeKey : (Tryz.prog.info? 39).map (·.size) = some 5 := by kernel_rfl
theorem mat_kind {k v m lo hi : Int} (h : matB k v m lo hi = true) : k = 0 ∨ k = 1 := by
  unfold matB at h
  simp only [Bool.and_eq_true] at h
  have h2 := h.2.2
  by_cases h0 : k = 0
  · exact .inl h0
  · rw [if_neg h0] at h2
    by_cases h1 : k = 1
    · exact .inr h1
    · rw [if_neg h1] at h2; cases h2
theorem ok_kinds {r : Rl} (h : r.ok = true) : Hid ((r.k0 = 0 ∨ r.k0 = 1) ∧ (r.k1 = 0 ∨ r.k1 = 1) ∧ (r.k2 = 0 ∨ r.k2 = 1) ∧ (r.k3 = 0 ∨ r.k3 = 1) ∧ (r.k4 = 0 ∨ r.k4 = 1)) := by
  unfold Rl.ok ruleB at h
  simp only [Bool.and_eq_true] at h
  exact hide ⟨mat_kind h.2.2.2.1, mat_kind h.2.2.2.2.1, mat_kind h.2.2.2.2.2.1, mat_kind h.2.2.2.2.2.2.1, mat_kind h.2.2.2.2.2.2.2.1⟩
/-- The first rule of a list that matches. -/
def XFirst (rs : List Rl) (x0 x1 x2 x3 x4 : Int) (z : Int) : Prop := (z = -1 ∧ ∀ q ∈ rs, q.hits x0 x1 x2 x3 x4 = false) ∨ ∃ k, ∃ hk : k < rs.length, z = k ∧ rs[k].hits x0 x1 x2 x3 x4 = true ∧ ∀ j (hj : j < k), (rs[j]'(by omega)).hits x0 x1 x2 x3 x4 = false

set_option maxRecDepth 100000 in
set_option maxHeartbeats 2000000 in
theorem xFirst_any (B y o : Nat) (v : Value) (rs : List Rl) (x0 x1 x2 x3 x4 : Int) (w : World) (h : RefAt B w y o v rs) (hok : ∀ r ∈ rs, r.ok = true) :
    Calls Tryz.prog 133 #[.pointer (some ⟨y, o, none⟩), .agg #[.int .i64 x0, .int .i64 x1, .int .i64 x2, .int .i64 x3, .int .i64 x4]] w fun e w' => (∃ z : Int, e = .returned (.int .i64 z) ∧ XFirst rs x0 x1 x2 x3 x4 z) ∧ Below w.heap.size w w' := by
  obtain ⟨dr, hur, hdr⟩ := underRule
  obtain ⟨dk, huk, hdk⟩ := underKey
  obtain ⟨a, cap, g, rfl, hc⟩ := h.slice
  have h0 := h.1
  have hn := h.2.2.2.1
  have hyl := block_lt_of_cell h0
  have HC := hide hc
  have HOK := hide hok
  clear h hc hok
  go_enter Tryz.func133, Tryz.ntmps133
  go_wp2_with fail
  go_loopw [5, 6] (fun i _ wr => ∃ k : Nat, k ≤ rs.length ∧ i = .int .i64 k ∧ Hid (∀ j (hj : j < k) (hl : j < rs.length), rs[j].hits x0 x1 x2 x3 x4 = false) ∧ Below w.heap.size w wr ∧ wr.rangeAt w.heap.size 0 [.int .i64 x0, .int .i64 x1, .int .i64 x2, .int .i64 x3, .int .i64 x4]) (fun i _ _ => rs.length - (intOf i).toNat)
  case atStart => exact ⟨0, by omega, rfl, hide fun j hj => absurd hj (by omega), (by repeat (first | exact Below.refl _ _ | assumption | refine Below.drewN ?_ | refine Below.drew ?_ | refine Below.setCell ?_ (by first | exact Nat.le_refl _ | omega | (simp; done) | (simp; omega)) _ | refine Below.alloc ?_ (by first | exact Nat.le_refl _ | omega | (simp; done) | (simp; omega)) _)), range_new _ _ _⟩
  case round =>
    obtain ⟨k, hk, rfl, HNE, hb, hkr⟩ := hrel
    have y0 := (hb.cell (p := ⟨y, o, none⟩) hyl).trans h0
    have hyw := block_lt_of_cell y0
    by_cases hlt : k < rs.length
    · obtain ⟨r, hr⟩ : ∃ r, r = rs[k] := ⟨_, rfl⟩
      obtain ⟨rfl, hrk⟩ := HC.out k hlt
      rw [← hr] at hrk
      have hrw : wr.rangeAt g (k * 19) [.int .i64 r.id, .int .i64 r.pr, .int .i64 r.k0, .int .i64 r.v0, .int .i64 r.m0, .int .i64 r.k1, .int .i64 r.v1, .int .i64 r.m1, .int .i64 r.k2, .int .i64 r.v2, .int .i64 r.m2, .int .i64 r.k3, .int .i64 r.v3, .int .i64 r.m3, .int .i64 r.k4, .int .i64 r.v4, .int .i64 r.m4, .int .i64 r.ac, .int .i64 r.po] := fun j u hu => (hb.cell (p := ⟨g, k * 19 + j, none⟩) (block_lt_of_cell (hrk j u hu))).trans (hrk j u hu)
      have hrok : r.ok = true := HOK.out r (by rw [hr]; exact List.getElem_mem hlt)
      have CS := hide fun d os => xmatches_any r x0 x1 x2 x3 x4 (grow (redrawn wr d) os) (ok_kinds hrok)
      have hki : (k : Int) < rs.length := by omega
      have HR := hide hr
      have HB := hide hb
      have hkl : w.heap.size < wr.heap.size := block_lt_of_cell (hkr 0 _ rfl)
      clear hr hb hrk hrok
      go_wp2_with fail
      refine wp_region_quiet_below (by kernel_rfl) (by kernel_rfl) ?_
      repeat (first | (refine wpQuiet_load_mid rfl 37 _ rfl g (k * 19) rfl [.int .i64 r.id, .int .i64 r.pr, .int .i64 r.k0, .int .i64 r.v0, .int .i64 r.m0, .int .i64 r.k1, .int .i64 r.v1, .int .i64 r.m1, .int .i64 r.k2, .int .i64 r.v2, .int .i64 r.m2, .int .i64 r.k3, .int .i64 r.v3, .int .i64 r.m3, .int .i64 r.k4, .int .i64 r.v4, .int .i64 r.m4, .int .i64 r.ac, .int .i64 r.po] dr (fun w' h => range_regrown hrw h) hur hdr sizeRule ?_) | (refine wpQuiet_load_mid rfl 39 _ rfl w.heap.size 0 rfl [.int .i64 x0, .int .i64 x1, .int .i64 x2, .int .i64 x3, .int .i64 x4] dk (fun w' h => range_regrown hkr h) huk hdk sizeKey ?_) | quiet_step (exact Calls.regrown_of (CS.out _ _)))
      refine wpQuiet_nil ?_; intro wq hwq; replace hwq := below_of_regrown hwq; obtain ⟨hcq, hfq⟩ := bcell hwq; have hzq := hwq.size
      have HKQ := hide (range_blw hkr hwq)
      have B2 := hide (HB.out.trans (hwq.mono HB.out.size))
      clear hrw hkr hcq hfq hwq CS HB
      cases hh : r.hits x0 x1 x2 x3 x4 with
      | true =>
        have HH := hide hh
        clear hh
        go_wp2
        go_ret
        exact ⟨⟨k, rfl, .inr ⟨k, hlt, rfl, HR.out ▸ HH.out, fun j hj => HNE.out j hj (by omega)⟩⟩, B2.out⟩
      | false =>
        have HH := hide hh
        clear hh
        go_wp2
        go_roundw
        case rel =>
          refine ⟨k + 1, by omega, by go_num, hide fun j hj hl => ?_, B2.out, HKQ.out⟩
          rcases Nat.lt_or_eq_of_le (show j ≤ k by omega) with h' | h'
          · exact HNE.out j h' hl
          · subst h'
            rw [← HR.out]
            exact HH.out
        case measure => simp [intOf]; omega
    · have hki : ¬ (k : Int) < rs.length := by omega
      have HB := hide hb
      have HK := hide hk
      clear hb hkr
      go_wp2
      go_ret
      refine ⟨⟨-1, rfl, .inl ⟨rfl, fun q hq => ?_⟩⟩, HB.out⟩
      obtain ⟨j, hj, rfl⟩ := List.getElem_of_mem hq
      exact HNE.out j (by omega) hj
end Go.Proofs.YtnjalelblbjfiaaGreatDoor

namespace Go.Proofs.YtnjalelblbjfiaaGreatDoor
open Go.RowKit

/-- A list of rules in the order of a table. -/
abbrev SortedR (l : List Rl) : Prop := l.Pairwise fun a b => a.before b = true
theorem sortedR_of {L : List Ent} (h : Sorted L) : SortedR (L.map (·.2)) := List.pairwise_map.2 h
theorem Rl.before_total {a b : Rl} (h : a.id ≠ b.id) : a.before b = true ∨ b.before a = true := by
  rw [Rl.before_iff, Rl.before_iff]; omega
theorem sortedR_ext : ∀ {A B : List Rl}, SortedR A → SortedR B → (∀ x, x ∈ A ↔ x ∈ B) → A = B
  | [], [], _, _, _ => rfl
  | [], b :: B, _, _, h => absurd ((h b).2 (List.mem_cons_self)) (List.not_mem_nil)
  | a :: A, [], _, _, h => absurd ((h a).1 (List.mem_cons_self)) (List.not_mem_nil)
  | a :: A, b :: B, ha, hb, h => by
    have ha1 := List.pairwise_cons.1 ha
    have hb1 := List.pairwise_cons.1 hb
    have e : a = b := by
      rcases List.mem_cons.1 ((h a).1 (List.mem_cons_self)) with e | e
      · exact e
      · rcases List.mem_cons.1 ((h b).2 (List.mem_cons_self)) with e' | e'
        · exact e'.symm
        · have h1 := hb1.1 a e
          have h2 := ha1.1 b e'
          rw [Rl.before_asymm h1] at h2
          cases h2
    subst e
    have hA : ∀ x, x ∈ A → x ≠ a := fun x hx e => by
      have := ha1.1 x hx
      rw [e, Rl.before_irrefl] at this
      cases this
    have hB : ∀ x, x ∈ B → x ≠ a := fun x hx e => by
      have := hb1.1 x hx
      rw [e, Rl.before_irrefl] at this
      cases this
    rw [sortedR_ext ha1.2 hb1.2 fun x => ⟨fun hx => ?_, fun hx => ?_⟩]
    · rcases List.mem_cons.1 ((h x).1 (List.mem_cons_of_mem _ hx)) with e | e
      · exact absurd e (hA x hx)
      · exact e
    · rcases List.mem_cons.1 ((h x).2 (List.mem_cons_of_mem _ hx)) with e | e
      · exact absurd e (hB x hx)
      · exact e
/-- A rule put where it belongs. -/
theorem ins_sorted {rs : List Rl} {r : Rl} {i : Nat} (hs : SortedR rs) (hi : i ≤ rs.length) (hid : ∀ x ∈ rs, x.id ≠ r.id) (hR : ∀ j (hj : j < rs.length), i ≤ j → r.before rs[j] = true) (hL : ∀ (h : 0 < i), r.before (rs[i - 1]'(by omega)) = false) : SortedR (rs.take i ++ r :: rs.drop i) := by
  refine pw_ins i r hs (fun x hx => ?_) (fun x hx => ?_)
  · obtain ⟨j, hj, rfl⟩ := List.getElem_of_mem hx
    rw [List.length_take] at hj
    rw [List.getElem_take]
    have hp : 0 < i := by omega
    have h1 : (rs[i - 1]'(by omega)).before r = true := by
      rcases Rl.before_total (hid _ (List.getElem_mem (show i - 1 < rs.length by omega))) with h | h
      · exact h
      · rw [hL hp] at h; cases h
    rcases Nat.lt_or_eq_of_le (show j ≤ i - 1 by omega) with h | h
    · exact Rl.before_trans (List.pairwise_iff_getElem.1 hs j (i - 1) (by omega) (by omega) h) h1
    · subst h; exact h1
  · obtain ⟨j, hj, rfl⟩ := List.getElem_of_mem hx
    rw [List.length_drop] at hj
    rw [List.getElem_drop]
    exact hR _ _ (by omega)
theorem ins_same {L L' : List Ent} {r : Rl} {b i : Nat} (hs : Sorted L) (hs' : Sorted L') (hm : ∀ x, x ∈ L' ↔ x = (b, r) ∨ x ∈ L) (hi : i ≤ L.length) (hid : ∀ x ∈ L.map (·.2), x.id ≠ r.id) (hR : ∀ j (hj : j < (L.map (·.2)).length), i ≤ j → r.before (L.map (·.2))[j] = true) (hL : ∀ (h : 0 < i), r.before ((L.map (·.2))[i - 1]'(by rw [List.length_map]; omega)) = false) : L'.map (·.2) = (L.map (·.2)).take i ++ r :: (L.map (·.2)).drop i := by
  refine sortedR_ext (sortedR_of hs') (ins_sorted (sortedR_of hs) (by rw [List.length_map]; exact hi) hid hR hL) fun x => ?_
  rw [mem_ins]
  constructor
  · intro hx
    obtain ⟨e, he, rfl⟩ := List.mem_map.1 hx
    rcases (hm e).1 he with rfl | h
    · exact .inl rfl
    · exact .inr (List.mem_map.2 ⟨e, h, rfl⟩)
  · rintro (rfl | hx)
    · exact List.mem_map.2 ⟨(b, x), (hm _).2 (.inl rfl), rfl⟩
    · obtain ⟨e, he, rfl⟩ := List.mem_map.1 hx
      exact List.mem_map.2 ⟨e, (hm e).2 (.inr he), rfl⟩
/-- A rule taken out. -/
theorem del_same {L : List Ent} {x : Int} {k : Nat} (hk : k < L.length) (hx : L[k].2.id = x) (hid : ∀ i j (hi : i < L.length) (hj : j < L.length), L[i].2.id = L[j].2.id → i = j) : (L.filter fun a => a.2.id != x).map (·.2) = (L.map (·.2)).take k ++ (L.map (·.2)).drop (k + 1) := by
  rw [← filter_cut (fun a => a.2.id != x) hk (by simp [hx]) (fun j hj hne => by
    rw [bne_iff_ne]
    intro e
    exact hne (hid j k hj hk (e.trans hx.symm)))]
  rw [List.map_append, List.map_take, List.map_drop]
theorem del_none {L : List Ent} {x : Int} (h : ∀ a ∈ L, a.2.id ≠ x) : (L.filter fun a => a.2.id != x) = L := by
  rw [List.filter_eq_self]
  intro a ha
  rw [bne_iff_ne]
  exact h a ha
theorem findV_unique {L : List Ent} {x0 x1 x2 x3 x4 a b a' b' : Int} (h : FindIs L x0 x1 x2 x3 x4 a b) (h' : FindIs L x0 x1 x2 x3 x4 a' b') : a = a' ∧ b = b' := by
  unfold FindIs at h h'
  split at h
  · rename_i hk
    rw [if_pos hk] at h'
    obtain ⟨res, hf, rfl, rfl⟩ := h
    obtain ⟨res', hf', rfl, rfl⟩ := h'
    cases res with
    | none =>
      cases res' with
      | none => exact ⟨rfl, rfl⟩
      | some r' =>
        have := hf r' hf'.1
        rw [hf'.2.1] at this
        cases this
    | some r =>
      cases res' with
      | none =>
        have := hf' r hf.1
        rw [hf.2.1] at this
        cases this
      | some r' =>
        have h1 := hf.2.2 r' hf'.1 hf'.2.1
        have h2 := hf'.2.2 r hf.1 hf.2.1
        rw [← Bool.not_eq_true, Rl.before_iff] at h1 h2
        refine ⟨?_, rfl⟩
        show r.2.id = r'.2.id
        omega
  · rename_i hk
    rw [if_neg hk] at h'
    omega
/-- The first rule of the list that matches is the one that the table finds. -/
theorem find_same {L : List Ent} {x0 x1 x2 x3 x4 : Int} {k : Nat} (hs : Sorted L) (hk : keyB x0 x1 x2 x3 x4 = true) (hlt : k < L.length) (hh : L[k].2.hits x0 x1 x2 x3 x4 = true) (hn : ∀ j (hj : j < k), (L[j]'(by omega)).2.hits x0 x1 x2 x3 x4 = false) {a b : Int} (h : FindIs L x0 x1 x2 x3 x4 a b) : a = L[k].2.id ∧ b = 0 := by
  have h1 : FindIs L x0 x1 x2 x3 x4 L[k].2.id 0 := by
    unfold FindIs
    rw [if_pos hk]
    refine ⟨some L[k], ⟨List.getElem_mem hlt, hh, fun e he heh => ?_⟩, rfl, rfl⟩
    obtain ⟨j, hj, rfl⟩ := List.getElem_of_mem he
    rcases Nat.lt_trichotomy j k with hjk | rfl | hjk
    · rw [hn j hjk] at heh; cases heh
    · exact Rl.before_irrefl _
    · exact Rl.before_asymm (List.pairwise_iff_getElem.1 hs k j hlt hj hjk)
  exact findV_unique h h1
theorem find_not {L : List Ent} {x0 x1 x2 x3 x4 : Int} (hk : keyB x0 x1 x2 x3 x4 = true) (hn : ∀ e ∈ L, e.2.hits x0 x1 x2 x3 x4 = false) {a b : Int} (h : FindIs L x0 x1 x2 x3 x4 a b) : a = 0 ∧ b = 7 := by
  have h1 : FindIs L x0 x1 x2 x3 x4 0 7 := by
    unfold FindIs
    rw [if_pos hk]
    exact ⟨none, hn, rfl, rfl⟩
  exact findV_unique h h1
end Go.Proofs.YtnjalelblbjfiaaGreatDoor

namespace Go.Proofs.YtnjalelblbjfiaaGreatDoor
open Go.RowKit

theorem RefAt.below {B y o : Nat} {w w' : World} {v : Value} {rs : List Rl} (h : RefAt B w y o v rs) (hb : Below w.heap.size w w') : RefAt B w' y o v rs :=
  ⟨cell_later hb h.1, (hb.frozen (p := ⟨y, o, none⟩) (block_lt_of_cell h.1)).trans h.2.1, h.2.2.1.same fun _ hg => hb.block _ (h.2.2.1.lt hg), h.2.2.2⟩
/-- What Insert of the document's table leaves. -/
def XIns (B y o : Nat) (v : Value) (rs : List Rl) (r : Rl) (w : World) (e : Ending) (W : World) : Prop :=
  (e = .returned (.int .i64 4) ∧ r.ok = false ∧ Below w.heap.size w W) ∨
  (e = .returned (.int .i64 5) ∧ r.ok = true ∧ (∃ q ∈ rs, q.id = r.id) ∧ Below w.heap.size w W) ∨
  (e = .returned (.int .i64 6) ∧ r.ok = true ∧ (∀ q ∈ rs, q.id ≠ r.id) ∧ 200 ≤ rs.length ∧ Below w.heap.size w W) ∨
  (e = .returned (.int .i64 0) ∧ r.ok = true ∧ (∀ q ∈ rs, q.id ≠ r.id) ∧ rs.length < 200 ∧ ∃ i, ∃ hi : i ≤ rs.length, (∀ j (hj : j < rs.length), i ≤ j → r.before rs[j] = true) ∧ (∀ h : 0 < i, r.before (rs[i - 1]'(by omega)) = false) ∧
    ∃ v', RefAt B W y o v' (rs.take i ++ r :: rs.drop i) ∧ Chg (fun b => b = y ∨ v.ownBlock = some b) w W ∧ OnlyAt w W y o ∧ ∀ b, v'.ownBlock = some b → v.ownBlock = some b ∨ w.heap.size ≤ b)
/-- The new rule on its way to the front. -/
structure Bub (B y o g cap : Nat) (rs : List Rl) (r : Rl) (w : World) (k : Nat) (W : World) : Prop where
  own : RulesOwn B W (.slice (some ⟨g, 0, none⟩) (rs.length + 1) cap) (rs.take k ++ r :: rs.drop k)
  cell : W.cell? ⟨y, o, none⟩ = some (.slice (some ⟨g, 0, none⟩) (rs.length + 1) cap)
  frz : W.frozen? ⟨y, o, none⟩ = false
  bef : ∀ j (hj : j < rs.length), k ≤ j → r.before rs[j] = true
  chg : Chg (fun b => b = y ∨ b = g) w W
  ne : g ≠ y
  only : ∀ j, W.cell? ⟨y, j, none⟩ = w.cell? ⟨y, j, none⟩ ∧ W.frozen? ⟨y, j, none⟩ = w.frozen? ⟨y, j, none⟩
theorem bub_length {rs : List Rl} {r : Rl} {k : Nat} (hk : k ≤ rs.length) : (rs.take k ++ r :: rs.drop k).length = rs.length + 1 := by
  simp only [List.length_append, List.length_take, List.length_cons, List.length_drop]; omega
theorem bub_at {rs : List Rl} {r : Rl} {k : Nat} (hk : k ≤ rs.length) : (rs.take k ++ r :: rs.drop k)[k]'(by rw [bub_length hk]; omega) = r := by
  rw [List.getElem_append_right (by rw [List.length_take]; omega)]
  simp [Nat.min_eq_left hk]
theorem bub_at0 {rs : List Rl} {r : Rl} {j : Nat} (hk : j + 1 ≤ rs.length) : (rs.take (j + 1) ++ r :: rs.drop (j + 1))[j]'(by rw [bub_length hk]; omega) = rs[j]'(by omega) := by
  rw [List.getElem_append_left (by rw [List.length_take]; omega), List.getElem_take]
theorem ownsRow_there {w : World} {B : Nat} {t : TypeId} {s n g cap : Nat} {xs : List Value} (h : w.ownsRow B t s (.slice (some ⟨g, 0, none⟩) n cap) n xs) {o m : Nat} (hm : o + m ≤ n * s) : w.there g o m := fun j hj => by
  rcases h.2 with ⟨e, _⟩ | ⟨g', cap', cur, e, hb, hg, hc, hm', hs, ht⟩
  · cases e
  · cases e
    have hle : n * s ≤ cap * s := Nat.mul_le_mul_right _ hc
    refine ⟨?_, ?_⟩
    · simp [World.cell?, hg]
      omega
    · simp [World.frozen?, hg]
theorem setCells_drew (g : Nat) : ∀ (vs : List Value) (o : Nat) (w : World), w.drew.setCells g o vs = (w.setCells g o vs).drew
  | [], _, _ => rfl
  | v :: t, o, w => by
    rw [World.setCells, World.setCells, ← setCells_drew g t (o + 1)]
    rfl
theorem cell?_setCells_ne {g : Nat} : ∀ (vs : List Value) (o : Nat) (W : World) (p : Addr), p.block ≠ g → (W.setCells g o vs).cell? p = W.cell? p ∧ (W.setCells g o vs).frozen? p = W.frozen? p
  | [], _, _, _, _ => ⟨rfl, rfl⟩
  | v :: t, o, W, p, hp => by
    rw [World.setCells]
    obtain ⟨e1, e2⟩ := cell?_setCells_ne t (o + 1) (W.setCell ⟨g, o, none⟩ v) p hp
    exact ⟨e1.trans (World.cell?_of_block (Below.heap_setCell _ _ _ _ hp)), e2.trans (World.frozen?_setCell ..)⟩
theorem shape_not {w : World} {g o n c : Nat} {a : Option Addr} (h : g ≠ 0 ∧ ∃ cs t fr a b c d, w.heap[g]? = some (.cells cs t fr) ∧ cs.size ≠ 29 ∧ w.cell? ⟨g, 0, none⟩ = some (.int .i64 a) ∧ w.cell? ⟨g, 1, none⟩ = some (.int .i64 b) ∧ w.cell? ⟨g, 2, none⟩ = some (.int .i64 c) ∧ w.cell? ⟨g, 3, none⟩ = some (.int .i64 d)) (ho : o ≤ 3) (hy : w.cell? ⟨g, o, none⟩ = some (.slice a n c)) : False := by
  obtain ⟨_, _, _, _, _, _, _, _, _, _, c0, c1, c2, c3⟩ := h
  have hc : o = 0 ∨ o = 1 ∨ o = 2 ∨ o = 3 := by omega
  rcases hc with rfl | rfl | rfl | rfl
  · rw [hy] at c0; cases c0
  · rw [hy] at c1; cases c1
  · rw [hy] at c2; cases c2
  · rw [hy] at c3; cases c3
section
variable {B y o g cap k : Nat} {rs : List Rl} {r : Rl} {w W : World}
theorem Bub.below (h : Bub B y o g cap rs r w k W) {W' : World} (hb : Below W.heap.size W W') : Bub B y o g cap rs r w k W' :=
  ⟨h.own.same fun _ hg => hb.block _ (h.own.lt hg), cell_later hb h.cell, (hb.frozen (p := ⟨y, o, none⟩) (block_lt_of_cell h.cell)).trans h.frz, h.bef, h.chg.trans (Chg.of_below hb), h.ne, fun j => ⟨(OnlyAt.of_block (hb.block y (block_lt_of_cell h.cell)) j).1.trans (h.only j).1, (OnlyAt.of_block (hb.block y (block_lt_of_cell h.cell)) j).2.trans (h.only j).2⟩⟩
theorem Bub.range (h : Bub B y o g cap rs r w k W) (hk : k ≤ rs.length) : W.rangeAt g (k * 19) r.cells.toList := by
  obtain ⟨a, c, g', e, hr⟩ := h.own.row
  injection e with e0 _ _
  subst e0
  obtain ⟨e1, e2⟩ := hr k (by rw [bub_length hk]; omega)
  cases e1
  rwa [bub_at hk] at e2
theorem Bub.range0 {j : Nat} (h : Bub B y o g cap rs r w (j + 1) W) (hk : j + 1 ≤ rs.length) : W.rangeAt g (j * 19) (rs[j]'(by omega)).cells.toList := by
  obtain ⟨a, c, g', e, hr⟩ := h.own.row
  injection e with e0 _ _
  subst e0
  obtain ⟨e1, e2⟩ := hr j (by rw [bub_length hk]; omega)
  cases e1
  rwa [bub_at0 hk] at e2
theorem Bub.there (h : Bub B y o g cap rs r w k W) (hk : k ≤ rs.length) {i : Nat} (hi : i ≤ rs.length) : W.there g (i * 19) 19 := by
  have h1 := h.own.1
  rw [bub_length hk] at h1
  exact ownsRow_there h1 (by omega)
/-- One place ahead. -/
theorem Bub.swap {j : Nat} (h : Bub B y o g cap rs r w (j + 1) W) (hk : j + 1 ≤ rs.length) (hb : r.before (rs[j]'(by omega)) = true) : Bub B y o g cap rs r w j ((W.setCells g ((j + 1) * 19) (rs[j]'(by omega)).cells.toList).setCells g (j * 19) r.cells.toList) := by
  have hl := bub_length (r := r) hk
  have h1 := h.own.store (by rw [hl]) (i := j + 1) (by rw [hl]; omega) (rs[j]'(by omega))
  have h2 := h1.store (by rw [List.length_set, hl]) (i := j) (by rw [List.length_set, hl]; omega) r
  rw [bubble_step hk] at h2
  have kg : ∀ (vs : List Value) (o : Nat) (W' : World), Chg (fun b => b = y ∨ b = g) w W' → Chg (fun b => b = y ∨ b = g) w (W'.setCells g o vs) := by
    intro vs
    induction vs with
    | nil => intro o W' h; exact h
    | cons v t ih =>
      intro o W' h
      rw [World.setCells]
      exact ih _ _ (h.setCell (p := ⟨g, o, none⟩) (.inl (.inr rfl)) v)
  refine ⟨h2, ?_, ?_, fun i hi hji => ?_, kg _ _ _ (kg _ _ _ h.chg), h.ne, fun i => ?_⟩
  · rw [(cell?_setCells_ne _ _ _ _ (Ne.symm h.ne)).1, (cell?_setCells_ne _ _ _ _ (Ne.symm h.ne)).1]; exact h.cell
  · rw [(cell?_setCells_ne _ _ _ _ (Ne.symm h.ne)).2, (cell?_setCells_ne _ _ _ _ (Ne.symm h.ne)).2]; exact h.frz
  · rcases Nat.lt_or_eq_of_le hji with h' | h'
    · exact h.bef i hi h'
    · subst h'; exact hb
  · rw [(cell?_setCells_ne _ _ _ _ (Ne.symm h.ne)).1, (cell?_setCells_ne _ _ _ _ (Ne.symm h.ne)).1, (cell?_setCells_ne _ _ _ _ (Ne.symm h.ne)).2, (cell?_setCells_ne _ _ _ _ (Ne.symm h.ne)).2]; exact h.only i
theorem Bub.there2 {j : Nat} (h : Bub B y o g cap rs r w (j + 1) W) (hk : j + 1 ≤ rs.length) : (W.setCells g ((j + 1) * 19) (rs[j]'(by omega)).cells.toList).there g (j * 19) 19 := by
  have hl := bub_length (r := r) hk
  have h1 := h.own.store (by rw [hl]) (i := j + 1) (by rw [hl]; omega) (rs[j]'(by omega))
  have h2 := h1.1
  rw [List.length_set, hl] at h2
  exact ownsRow_there h2 (by omega)
/-- The walk's start: behind append. -/
theorem Bub.start {w9 : World} {a : Option Addr} {n c : Nat} (ho : o ≤ 3) (hO : RulesOwn B w9 (.slice (some ⟨g, 0, none⟩) (rs.length + 1) cap) (rs ++ [r])) (hy : w9.cell? ⟨y, o, none⟩ = some (.slice a n c)) (hf : w9.frozen? ⟨y, o, none⟩ = false) : Bub B y o g cap rs r (w9.setCell ⟨y, o, none⟩ (.slice (some ⟨g, 0, none⟩) (rs.length + 1) cap)) rs.length (w9.setCell ⟨y, o, none⟩ (.slice (some ⟨g, 0, none⟩) (rs.length + 1) cap)) := by
  have hne : g ≠ y := by
    rintro rfl
    exact shape_not (hO.shape (g := g) rfl) ho hy
  refine ⟨?_, World.cell?_setCell_same _ _ _ hy, by rw [World.frozen?_setCell]; exact hf, fun j hj h => by omega, Chg.refl _ _, hne, fun _ => ⟨rfl, rfl⟩⟩
  rw [List.take_length, List.drop_length]
  exact hO.same fun b hb => by cases hb; exact Below.heap_setCell _ _ _ _ hne
end
/-- Where append puts its row: into the block that was there, or into a new one. -/
theorem append_block {P : Program} (w : World) (base : Nat) (t ty e : TypeId) (i : TypeInfo) (z : Value) (size bytes : Nat) (ht : P.underlying t = some (.slice e)) (hi : P.info? e = some i) (hz : i.zero = some z)
    (hsize : i.size = size) (hby : i.bytes = bytes)
    (v : Value) (n : Nat) (xs : List Value) (hown : w.ownsRow base e size v n xs)
    (a : Addr) (m c : Nat) (news : List Value) (hl : news.length = m * size) (hnews : ∀ j u, news[j]? = some u → w.cell? (a.add j) = some u) (h1 : ∀ u ∈ news, u.oneCell' = true)
    (h63 : n + m ≤ maxLen) (hbytes : (n + m) * bytes ≤ 140737488355328) {v' : Value} {w' : World} (hr' : (Builtin.append_ #[t, t] ty #[v, .slice (some a) m c]).run P w = .ok v' w') : ∀ b, v'.ownBlock = some b → v.ownBlock = some b ∨ b = w.heap.size := by
  subst hsize
  subst hby
  have hsmall : n + m ≤ 9223372036854775807 := by simp only [maxLen] at h63; omega
  rcases hown.2 with ⟨rfl, rfl⟩ | ⟨g, cap, cur, rfl, hbg, hg, hnc, hcm, hcs, htake⟩
  · by_cases hm : m = 0
    · subst hm
      have hn : news = [] := List.eq_nil_of_length_eq_zero (by simpa using hl)
      subst hn
      simp [Builtin.append_, run_underlying ht, sizeOf, typeInfo, hi, Builtin.lenOf, Builtin.firstCells, loadCells, loadCellsFrom] at hr'
      rw [← hr'.1]
      intro b hb
      cases hb
    · have hr := run_append_nil (P := P) w t ty e i z ht hi hz a m c news hl hnews (by omega) (by omega) (by have hb := hbytes; simp only [Nat.zero_add] at hb; omega)
      rw [hr] at hr'
      cases hr'
      intro b hb
      cases hb
      exact .inr rfl
  · by_cases hroom : n + m ≤ cap
    · have hfit : n * i.size + news.length ≤ cur.size := by rw [hl, hcs, ← Nat.add_mul]; exact Nat.mul_le_mul_right _ hroom
      have hr := run_append_room (P := P) w t ty e i ht hi g n cap cur hg a m c news hl hnews h1 hroom hfit
      rw [hr] at hr'
      cases hr'
      intro b hb
      exact .inl hb
    · have holds : ∀ j u, xs[j]? = some u → w.cell? ((⟨g, 0, none⟩ : Addr).add j) = some u := hown.cells (g := g) rfl
      have hr := run_append_grow (P := P) w t ty e i z ht hi hz ⟨g, 0, none⟩ n cap xs hown.1 holds a m c news hl hnews (by omega) (by omega) (growslice_fits (by omega) hbytes)
      rw [hr] at hr'
      cases hr'
      intro b hb
      cases hb
      exact .inr rfl
/-- append of one rule: all that is asked of it. -/
theorem append_rule {B : Nat} {w : World} {v : Value} {rs : List Rl} {r : Rl} (h : RulesOwn B w v rs) (hB : B ≤ w.heap.size) (hn : rs.length ≤ 1000) : ∃ g cap w', (Builtin.append_ #[54, 54] 54 #[v, .slice (some ⟨w.heap.size, 0, none⟩) 1 1]).run Tryz.prog (w.alloc (.cells #[.int .i64 r.id, .int .i64 r.pr, .int .i64 r.k0, .int .i64 r.v0, .int .i64 r.m0, .int .i64 r.k1, .int .i64 r.v1, .int .i64 r.m1, .int .i64 r.k2, .int .i64 r.v2, .int .i64 r.m2, .int .i64 r.k3, .int .i64 r.v3, .int .i64 r.m3, .int .i64 r.k4, .int .i64 r.v4, .int .i64 r.m4, .int .i64 r.ac, .int .i64 r.po] 37)).drew = .ok (.slice (some ⟨g, 0, none⟩) (rs.length + 1) cap) w' ∧ RulesOwn B w' (.slice (some ⟨g, 0, none⟩) (rs.length + 1) cap) (rs ++ [r]) ∧ Chg (fun b => v.ownBlock = some b) w w' ∧ (v.ownBlock = some g ∨ w.heap.size ≤ g) := by
  obtain ⟨i0, hi, hz0, hz1, hz2⟩ := info_parts infoRule
  have hrd : (w.alloc (.cells #[.int .i64 r.id, .int .i64 r.pr, .int .i64 r.k0, .int .i64 r.v0, .int .i64 r.m0, .int .i64 r.k1, .int .i64 r.v1, .int .i64 r.m1, .int .i64 r.k2, .int .i64 r.v2, .int .i64 r.m2, .int .i64 r.k3, .int .i64 r.v3, .int .i64 r.m3, .int .i64 r.k4, .int .i64 r.v4, .int .i64 r.m4, .int .i64 r.ac, .int .i64 r.po] 37)).drew.ownsRow B 37 19 v rs.length (rowL rs) := h.1.alloc _
  have hcn : ∀ j u, (rowL [r])[j]? = some u → (w.alloc (.cells #[.int .i64 r.id, .int .i64 r.pr, .int .i64 r.k0, .int .i64 r.v0, .int .i64 r.m0, .int .i64 r.k1, .int .i64 r.v1, .int .i64 r.m1, .int .i64 r.k2, .int .i64 r.v2, .int .i64 r.m2, .int .i64 r.k3, .int .i64 r.v3, .int .i64 r.m3, .int .i64 r.k4, .int .i64 r.v4, .int .i64 r.m4, .int .i64 r.ac, .int .i64 r.po] 37)).drew.cell? ((⟨w.heap.size, 0, none⟩ : Addr).add j) = some u := cells_new w r 37
  have hs : (w.alloc (.cells #[.int .i64 r.id, .int .i64 r.pr, .int .i64 r.k0, .int .i64 r.v0, .int .i64 r.m0, .int .i64 r.k1, .int .i64 r.v1, .int .i64 r.m1, .int .i64 r.k2, .int .i64 r.v2, .int .i64 r.m2, .int .i64 r.k3, .int .i64 r.v3, .int .i64 r.m3, .int .i64 r.k4, .int .i64 r.v4, .int .i64 r.m4, .int .i64 r.ac, .int .i64 r.po] 37)).drew.heap.size = w.heap.size + 1 := by simp
  obtain ⟨v', w', hap, hown', hgr, hiff⟩ := run_append_own (P := Tryz.prog) (w.alloc (.cells #[.int .i64 r.id, .int .i64 r.pr, .int .i64 r.k0, .int .i64 r.v0, .int .i64 r.m0, .int .i64 r.k1, .int .i64 r.v1, .int .i64 r.m1, .int .i64 r.k2, .int .i64 r.v2, .int .i64 r.m2, .int .i64 r.k3, .int .i64 r.v3, .int .i64 r.m3, .int .i64 r.k4, .int .i64 r.v4, .int .i64 r.m4, .int .i64 r.ac, .int .i64 r.po] 37)).drew B 54 54 37 i0 _ 19 152 underRules hi hz0 hz1 hz2 rfl (by decide) v rs.length (rowL rs) hrd ⟨w.heap.size, 0, none⟩ 1 1 (rowL [r]) (rowL_length _) hcn (rowL_one _) (by unfold maxLen; omega) (by omega) (by omega)
  have hbl := append_block (P := Tryz.prog) (w.alloc (.cells #[.int .i64 r.id, .int .i64 r.pr, .int .i64 r.k0, .int .i64 r.v0, .int .i64 r.m0, .int .i64 r.k1, .int .i64 r.v1, .int .i64 r.m1, .int .i64 r.k2, .int .i64 r.v2, .int .i64 r.m2, .int .i64 r.k3, .int .i64 r.v3, .int .i64 r.m3, .int .i64 r.k4, .int .i64 r.v4, .int .i64 r.m4, .int .i64 r.ac, .int .i64 r.po] 37)).drew B 54 54 37 i0 _ 19 152 underRules hi hz0 hz1 hz2 v rs.length (rowL rs) hrd ⟨w.heap.size, 0, none⟩ 1 1 (rowL [r]) (rowL_length _) hcn (rowL_one _) (by unfold maxLen; omega) (by omega) hap
  have hv' : ∃ g cap, v' = .slice (some ⟨g, 0, none⟩) (rs.length + 1) cap := by
    rcases hown'.2 with ⟨e, e2⟩ | ⟨g, cap, _, e, _⟩
    · omega
    · exact ⟨g, cap, e⟩
  obtain ⟨g, cap, rfl⟩ := hv'
  refine ⟨g, cap, w', hap, ⟨?_, fun e => by simp at e, h.2.2⟩, ?_, ?_⟩
  · rw [List.length_append, rowL_append]
    exact hown'
  · have c1 : Chg (fun b => v.ownBlock = some b) w (w.alloc (.cells #[.int .i64 r.id, .int .i64 r.pr, .int .i64 r.k0, .int .i64 r.v0, .int .i64 r.m0, .int .i64 r.k1, .int .i64 r.v1, .int .i64 r.m1, .int .i64 r.k2, .int .i64 r.v2, .int .i64 r.m2, .int .i64 r.k3, .int .i64 r.v3, .int .i64 r.m3, .int .i64 r.k4, .int .i64 r.v4, .int .i64 r.m4, .int .i64 r.ac, .int .i64 r.po] 37)).drew := Chg.of_below (((Below.refl _ w).alloc (Nat.le_refl _) _).drew)
    exact c1.trans (Chg.grown hgr fun _ hk => hk)
  · rcases hbl g rfl with h | h
    · exact .inl h
    · exact .inr (by omega)
/-- The document's table does not lie in its own list. -/
theorem RefAt.ne {B y o : Nat} {w : World} {v : Value} {rs : List Rl} (h : RefAt B w y o v rs) : v.ownBlock ≠ some y := by
  intro e
  obtain ⟨_, _, _, hv, _⟩ := h.slice
  exact shape_not (h.2.2.1.shape e) h.2.2.2.2 (h.1.trans (by rw [hv]))
theorem XIns.done {B y o g cap i : Nat} {v : Value} {rs : List Rl} {r : Rl} {w W1 w9 W : World} (ho : o ≤ 3) (hyl : y < w.heap.size) (hny : v.ownBlock ≠ some y) (hr : rs.length < 200) (hok : r.ok = true) (hno : ∀ q ∈ rs, q.id ≠ r.id) (hb : Below w.heap.size w W1) (hc : Chg (fun b => v.ownBlock = some b) W1 w9) (hg : v.ownBlock = some g ∨ W1.heap.size ≤ g)
    (hu : Bub B y o g cap rs r (w9.setCell ⟨y, o, none⟩ (.slice (some ⟨g, 0, none⟩) (rs.length + 1) cap)) i W) (hi : i ≤ rs.length) (hL : ∀ h : 0 < i, r.before (rs[i - 1]'(by omega)) = false) : XIns B y o v rs r w (.returned (.int .i64 0)) W := by
  refine .inr (.inr (.inr ⟨rfl, hok, hno, hr, i, hi, hu.bef, hL, _, ⟨hu.cell, hu.frz, hu.own, by rw [bub_length hi]; omega, ho⟩, ?_, fun j hj => ?_, fun b hb' => ?_⟩))
  · have c1 : Chg (fun b => b = y ∨ v.ownBlock = some b) w w9 := (Chg.of_below hb).trans (hc.mono fun x _ hx => .inr hx)
    have c2 : Chg (fun b => b = y ∨ v.ownBlock = some b) w (w9.setCell ⟨y, o, none⟩ (.slice (some ⟨g, 0, none⟩) (rs.length + 1) cap)) := c1.setCell (p := ⟨y, o, none⟩) (.inl (.inl rfl)) _
    refine ⟨hu.chg.os.trans c2.os, hu.chg.tape.trans c2.tape, hu.chg.output.trans c2.output, Nat.le_trans c2.size hu.chg.size, fun b hlt hn => ?_⟩
    refine (hu.chg.block b (Nat.lt_of_lt_of_le hlt c2.size) ?_).trans (c2.block b hlt hn)
    rintro (h | h)
    · exact hn (.inl h)
    · rcases hg with h' | h'
      · exact hn (.inr (by rw [h]; exact h'))
      · have := hb.size; omega
  · have e1 := OnlyAt.set (o := o) (fun j => OnlyAt.of_block ((hc.block y (Nat.lt_of_lt_of_le hyl hb.size) hny).trans (hb.block y hyl)) j) (.slice (some ⟨g, 0, none⟩) (rs.length + 1) cap) j hj
    exact ⟨(hu.only j).1.trans e1.1, (hu.only j).2.trans e1.2⟩
  · cases hb'
    rcases hg with h' | h'
    · exact .inl h'
    · have := hb.size
      exact .inr (by show w.heap.size ≤ g; omega)
end Go.Proofs.YtnjalelblbjfiaaGreatDoor
