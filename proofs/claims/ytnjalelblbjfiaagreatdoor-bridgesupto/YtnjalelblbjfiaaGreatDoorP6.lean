import Derived.Test.YtnjalelblbjfiaaGreatDoorP4
import Derived.Test.YtnjalelblbjfiaaGreatDoorP3
import Derived.BigQuiet
import Derived.Test.YtnjalelblbjfiaaGreatDoorP5
namespace Go.Proofs.YtnjalelblbjfiaaGreatDoor
open Go.RowKit

theorem range_blw {w w' : World} {b o : Nat} {cs : List Value} (h : w.rangeAt b o cs) (hb : Below w.heap.size w w') : w'.rangeAt b o cs := fun j v hv => (hb.cell (p := ⟨b, o + j, none⟩) (block_lt_of_cell (h j v hv))).trans (h j v hv)
theorem range_pair (w : World) (a b : Array Value) (s t : TypeId) : ((w.alloc (.cells a s)).alloc (.cells b t)).rangeAt w.heap.size 0 a.toList ∧ ((w.alloc (.cells a s)).alloc (.cells b t)).rangeAt (w.heap.size + 1) 0 b.toList := by
  refine ⟨range_blw (range_new w a s) ((Below.refl _ _).alloc (Nat.le_refl _) _), ?_⟩
  have h := range_new (w.alloc (.cells a s)) b t
  rwa [World.size_alloc] at h
theorem hits_no0 (r : Rl) (x0 x1 x2 x3 x4 : Int) (h : hitB r.k0 r.v0 r.m0 4294967295 x0 = false) : r.hits x0 x1 x2 x3 x4 = false := by unfold Rl.hits; rw [h]; simp
theorem hits_no1 (r : Rl) (x0 x1 x2 x3 x4 : Int) (h : hitB r.k1 r.v1 r.m1 4294967295 x1 = false) : r.hits x0 x1 x2 x3 x4 = false := by unfold Rl.hits; rw [h]; simp
theorem hits_no2 (r : Rl) (x0 x1 x2 x3 x4 : Int) (h : hitB r.k2 r.v2 r.m2 255 x2 = false) : r.hits x0 x1 x2 x3 x4 = false := by unfold Rl.hits; rw [h]; simp
theorem hits_no3 (r : Rl) (x0 x1 x2 x3 x4 : Int) (h : hitB r.k3 r.v3 r.m3 65535 x3 = false) : r.hits x0 x1 x2 x3 x4 = false := by unfold Rl.hits; rw [h]; simp
theorem hits_no4 (r : Rl) (x0 x1 x2 x3 x4 : Int) (h : hitB r.k4 r.v4 r.m4 65535 x4 = false) : r.hits x0 x1 x2 x3 x4 = false := by unfold Rl.hits; rw [h]; simp
set_option maxRecDepth 100000 in
set_option maxHeartbeats 2000000 in
theorem xmatches_any (r : Rl) (x0 x1 x2 x3 x4 : Int) (w : World) (hkk : Hid ((r.k0 = 0 ∨ r.k0 = 1) ∧ (r.k1 = 0 ∨ r.k1 = 1) ∧ (r.k2 = 0 ∨ r.k2 = 1) ∧ (r.k3 = 0 ∨ r.k3 = 1) ∧ (r.k4 = 0 ∨ r.k4 = 1))) :
    Calls Tryz.prog 186 #[.agg #[.int .i64 r.id, .int .i64 r.pr, .int .i64 r.k0, .int .i64 r.v0, .int .i64 r.m0, .int .i64 r.k1, .int .i64 r.v1, .int .i64 r.m1, .int .i64 r.k2, .int .i64 r.v2, .int .i64 r.m2, .int .i64 r.k3, .int .i64 r.v3, .int .i64 r.m3, .int .i64 r.k4, .int .i64 r.v4, .int .i64 r.m4, .int .i64 r.ac, .int .i64 r.po], .agg #[.int .i64 x0, .int .i64 x1, .int .i64 x2, .int .i64 x3, .int .i64 x4]] w fun e w' => e = .returned (.bool (r.hits x0 x1 x2 x3 x4)) ∧ Below w.heap.size w w' := by
  obtain ⟨p1, p2⟩ := range_pair w #[.int .i64 r.id, .int .i64 r.pr, .int .i64 r.k0, .int .i64 r.v0, .int .i64 r.m0, .int .i64 r.k1, .int .i64 r.v1, .int .i64 r.m1, .int .i64 r.k2, .int .i64 r.v2, .int .i64 r.m2, .int .i64 r.k3, .int .i64 r.v3, .int .i64 r.m3, .int .i64 r.k4, .int .i64 r.v4, .int .i64 r.m4, .int .i64 r.ac, .int .i64 r.po] #[.int .i64 x0, .int .i64 x1, .int .i64 x2, .int .i64 x3, .int .i64 x4] 37 39
  have P1 := hide p1
  have P2 := hide p2
  clear p1 p2
  go_enter Tryz.func186, Tryz.ntmps186
  go_wp2
  go_loopw [5, 6] (fun i _ wr => ∃ k : Nat, k ≤ 5 ∧ i = .int .i64 k ∧ Below w.heap.size w wr ∧ w.heap.size + 1 < wr.heap.size ∧ wr.rangeAt w.heap.size 0 [.int .i64 r.id, .int .i64 r.pr, .int .i64 r.k0, .int .i64 r.v0, .int .i64 r.m0, .int .i64 r.k1, .int .i64 r.v1, .int .i64 r.m1, .int .i64 r.k2, .int .i64 r.v2, .int .i64 r.m2, .int .i64 r.k3, .int .i64 r.v3, .int .i64 r.m3, .int .i64 r.k4, .int .i64 r.v4, .int .i64 r.m4, .int .i64 r.ac, .int .i64 r.po] ∧ wr.rangeAt (w.heap.size + 1) 0 [.int .i64 x0, .int .i64 x1, .int .i64 x2, .int .i64 x3, .int .i64 x4] ∧ (0 < k → hitB r.k0 r.v0 r.m0 4294967295 x0 = true) ∧ (1 < k → hitB r.k1 r.v1 r.m1 4294967295 x1 = true) ∧ (2 < k → hitB r.k2 r.v2 r.m2 255 x2 = true) ∧ (3 < k → hitB r.k3 r.v3 r.m3 65535 x3 = true) ∧ (4 < k → hitB r.k4 r.v4 r.m4 65535 x4 = true)) (fun i _ _ => 5 - (intOf i).toNat)
  case atStart => exact ⟨0, by omega, rfl, (by repeat (first | exact Below.refl _ _ | assumption | refine Below.drewN ?_ | refine Below.drew ?_ | refine Below.setCell ?_ (by first | exact Nat.le_refl _ | omega | (simp; done) | (simp; omega)) _ | refine Below.alloc ?_ (by first | exact Nat.le_refl _ | omega | (simp; done) | (simp; omega)) _)), by simp, P1.out, P2.out, by omega, by omega, by omega, by omega, by omega⟩
  case round =>
    clear P1 P2
    obtain ⟨k, hk, rfl, hb, hlt, hr, hx, h0, h1, h2, h3, h4⟩ := hrel
    match k, hk with
    | 0, _ =>
      have ck : wr.cell? ⟨w.heap.size, 2, none⟩ = some (.int .i64 r.k0) := hr 2 _ rfl
      have cv : wr.cell? ⟨w.heap.size, 3, none⟩ = some (.int .i64 r.v0) := hr 3 _ rfl
      have cm : wr.cell? ⟨w.heap.size, 4, none⟩ = some (.int .i64 r.m0) := hr 4 _ rfl
      have cx : wr.cell? ⟨w.heap.size + 1, 0, none⟩ = some (.int .i64 x0) := hx 0 _ rfl
      have HR := hide hr
      have HX := hide hx
      have hb' : Below w.heap.size w (wr.alloc (.cells #[.int .i64 r.k0, .int .i64 r.v0, .int .i64 r.m0] 34)) := hb.alloc hb.size _
      have HB' := hide hb'
      have HR' := hide (range_blw hr ((Below.refl _ wr).alloc (Nat.le_refl _) (.cells #[.int .i64 r.k0, .int .i64 r.v0, .int .i64 r.m0] 34)))
      have HX' := hide (range_blw hx ((Below.refl _ wr).alloc (Nat.le_refl _) (.cells #[.int .i64 r.k0, .int .i64 r.v0, .int .i64 r.m0] 34)))
      clear hr hx hb'
      clear h0 h1 h2 h3 h4
      rcases hkk.out.1 with hk0 | hk0
      · have b0 : (r.k0 == 0) = true := by simp [hk0]
        have b1 : (r.k0 == 1) = false := by simp [hk0]
        have HQ : Hid (hitB r.k0 r.v0 r.m0 4294967295 x0 = (bits .and .i64 x0 r.m0 == r.v0)) := hide (by unfold hitB; rw [if_pos hk0])
        clear hk0
        cases hh : (bits .and .i64 x0 r.m0 == r.v0) with
        | true =>
          have hn : (bits .and .i64 x0 r.m0 != r.v0) = false := by rw [bne, hh]; rfl
          have HIT : Hid (hitB r.k0 r.v0 r.m0 4294967295 x0 = true) := hide (by rw [HQ.out, hh])
          clear hh
          go_wp2_with fail
          go_quiet (fail)
          go_wp2_with fail
          go_quiet (fail)
          go_wp2
          go_roundw
          case rel => exact ⟨1, by omega, rfl, (by repeat (first | exact Below.refl _ _ | assumption | refine Below.drewN ?_ | refine Below.drew ?_ | refine Below.setCell ?_ (by first | exact Nat.le_refl _ | omega | (simp; done) | (simp; omega)) _ | refine Below.alloc ?_ (by first | exact Nat.le_refl _ | omega | (simp; done) | (simp; omega)) _)), by simp; omega, HR'.out, HX'.out, fun _ => HIT.out, by omega, by omega, by omega, by omega⟩
          case measure => simp [intOf]
        | false =>
          have hn : (bits .and .i64 x0 r.m0 != r.v0) = true := by rw [bne, hh]; rfl
          have HIT : Hid (hitB r.k0 r.v0 r.m0 4294967295 x0 = false) := hide (by rw [HQ.out, hh])
          clear hh
          go_wp2_with fail
          go_quiet (fail)
          go_wp2
          go_ret
          exact ⟨by first | (rw [hits_no0 r x0 x1 x2 x3 x4 HIT.out]; done) | (rw [hits_no0 r x0 x1 x2 x3 x4 HIT.out]; rfl), (by repeat (first | exact Below.refl _ _ | assumption | refine Below.drewN ?_ | refine Below.drew ?_ | refine Below.setCell ?_ (by first | exact Nat.le_refl _ | omega | (simp; done) | (simp; omega)) _ | refine Below.alloc ?_ (by first | exact Nat.le_refl _ | omega | (simp; done) | (simp; omega)) _))⟩
      · have b0 : (r.k0 == 0) = false := by simp [hk0]
        have b1 : (r.k0 == 1) = true := by simp [hk0]
        have HQ : Hid (hitB r.k0 r.v0 r.m0 4294967295 x0 = hasB r.v0 r.m0 x0) := hide (by unfold hitB topB; rw [if_neg (by omega), if_pos hk0])
        clear hk0
        by_cases lo : x0 < r.v0
        · have HIT : Hid (hitB r.k0 r.v0 r.m0 4294967295 x0 = false) := hide (by rw [HQ.out, ← Bool.not_eq_true, hasB_iff]; omega)
          go_wp2_with fail
          go_quiet (fail)
          go_wp2_with fail
          go_quiet (fail)
          go_wp2
          go_ret
          exact ⟨by first | (rw [hits_no0 r x0 x1 x2 x3 x4 HIT.out]; done) | (rw [hits_no0 r x0 x1 x2 x3 x4 HIT.out]; rfl), (by repeat (first | exact Below.refl _ _ | assumption | refine Below.drewN ?_ | refine Below.drew ?_ | refine Below.setCell ?_ (by first | exact Nat.le_refl _ | omega | (simp; done) | (simp; omega)) _ | refine Below.alloc ?_ (by first | exact Nat.le_refl _ | omega | (simp; done) | (simp; omega)) _))⟩
        · by_cases hi : r.m0 < x0
          · have HIT : Hid (hitB r.k0 r.v0 r.m0 4294967295 x0 = false) := hide (by rw [HQ.out, ← Bool.not_eq_true, hasB_iff]; omega)
            go_wp2_with fail
            go_quiet (fail)
            go_wp2_with fail
            go_quiet (fail)
            go_wp2
            go_ret
            exact ⟨by first | (rw [hits_no0 r x0 x1 x2 x3 x4 HIT.out]; done) | (rw [hits_no0 r x0 x1 x2 x3 x4 HIT.out]; rfl), (by repeat (first | exact Below.refl _ _ | assumption | refine Below.drewN ?_ | refine Below.drew ?_ | refine Below.setCell ?_ (by first | exact Nat.le_refl _ | omega | (simp; done) | (simp; omega)) _ | refine Below.alloc ?_ (by first | exact Nat.le_refl _ | omega | (simp; done) | (simp; omega)) _))⟩
          · have HIT : Hid (hitB r.k0 r.v0 r.m0 4294967295 x0 = true) := hide (by rw [HQ.out, hasB_iff]; omega)
            go_wp2_with fail
            go_quiet (fail)
            go_wp2_with fail
            go_quiet (fail)
            go_wp2
            go_roundw
            case rel => exact ⟨1, by omega, rfl, (by repeat (first | exact Below.refl _ _ | assumption | refine Below.drewN ?_ | refine Below.drew ?_ | refine Below.setCell ?_ (by first | exact Nat.le_refl _ | omega | (simp; done) | (simp; omega)) _ | refine Below.alloc ?_ (by first | exact Nat.le_refl _ | omega | (simp; done) | (simp; omega)) _)), by simp; omega, HR'.out, HX'.out, fun _ => HIT.out, by omega, by omega, by omega, by omega⟩
            case measure => simp [intOf]
    | 1, _ =>
      have ck : wr.cell? ⟨w.heap.size, 5, none⟩ = some (.int .i64 r.k1) := hr 5 _ rfl
      have cv : wr.cell? ⟨w.heap.size, 6, none⟩ = some (.int .i64 r.v1) := hr 6 _ rfl
      have cm : wr.cell? ⟨w.heap.size, 7, none⟩ = some (.int .i64 r.m1) := hr 7 _ rfl
      have cx : wr.cell? ⟨w.heap.size + 1, 1, none⟩ = some (.int .i64 x1) := hx 1 _ rfl
      have HR := hide hr
      have HX := hide hx
      have hb' : Below w.heap.size w (wr.alloc (.cells #[.int .i64 r.k1, .int .i64 r.v1, .int .i64 r.m1] 34)) := hb.alloc hb.size _
      have HB' := hide hb'
      have HR' := hide (range_blw hr ((Below.refl _ wr).alloc (Nat.le_refl _) (.cells #[.int .i64 r.k1, .int .i64 r.v1, .int .i64 r.m1] 34)))
      have HX' := hide (range_blw hx ((Below.refl _ wr).alloc (Nat.le_refl _) (.cells #[.int .i64 r.k1, .int .i64 r.v1, .int .i64 r.m1] 34)))
      clear hr hx hb'
      have H0 := hide (h0 (by omega))
      clear h0 h1 h2 h3 h4
      rcases hkk.out.2.1 with hk0 | hk0
      · have b0 : (r.k1 == 0) = true := by simp [hk0]
        have b1 : (r.k1 == 1) = false := by simp [hk0]
        have HQ : Hid (hitB r.k1 r.v1 r.m1 4294967295 x1 = (bits .and .i64 x1 r.m1 == r.v1)) := hide (by unfold hitB; rw [if_pos hk0])
        clear hk0
        cases hh : (bits .and .i64 x1 r.m1 == r.v1) with
        | true =>
          have hn : (bits .and .i64 x1 r.m1 != r.v1) = false := by rw [bne, hh]; rfl
          have HIT : Hid (hitB r.k1 r.v1 r.m1 4294967295 x1 = true) := hide (by rw [HQ.out, hh])
          clear hh
          go_wp2_with fail
          go_quiet (fail)
          go_wp2_with fail
          go_quiet (fail)
          go_wp2
          go_roundw
          case rel => exact ⟨2, by omega, rfl, (by repeat (first | exact Below.refl _ _ | assumption | refine Below.drewN ?_ | refine Below.drew ?_ | refine Below.setCell ?_ (by first | exact Nat.le_refl _ | omega | (simp; done) | (simp; omega)) _ | refine Below.alloc ?_ (by first | exact Nat.le_refl _ | omega | (simp; done) | (simp; omega)) _)), by simp; omega, HR'.out, HX'.out, fun _ => H0.out, fun _ => HIT.out, by omega, by omega, by omega⟩
          case measure => simp [intOf]
        | false =>
          have hn : (bits .and .i64 x1 r.m1 != r.v1) = true := by rw [bne, hh]; rfl
          have HIT : Hid (hitB r.k1 r.v1 r.m1 4294967295 x1 = false) := hide (by rw [HQ.out, hh])
          clear hh
          go_wp2_with fail
          go_quiet (fail)
          go_wp2
          go_ret
          exact ⟨by first | (rw [hits_no1 r x0 x1 x2 x3 x4 HIT.out]; done) | (rw [hits_no1 r x0 x1 x2 x3 x4 HIT.out]; rfl), (by repeat (first | exact Below.refl _ _ | assumption | refine Below.drewN ?_ | refine Below.drew ?_ | refine Below.setCell ?_ (by first | exact Nat.le_refl _ | omega | (simp; done) | (simp; omega)) _ | refine Below.alloc ?_ (by first | exact Nat.le_refl _ | omega | (simp; done) | (simp; omega)) _))⟩
      · have b0 : (r.k1 == 0) = false := by simp [hk0]
        have b1 : (r.k1 == 1) = true := by simp [hk0]
        have HQ : Hid (hitB r.k1 r.v1 r.m1 4294967295 x1 = hasB r.v1 r.m1 x1) := hide (by unfold hitB topB; rw [if_neg (by omega), if_pos hk0])
        clear hk0
        by_cases lo : x1 < r.v1
        · have HIT : Hid (hitB r.k1 r.v1 r.m1 4294967295 x1 = false) := hide (by rw [HQ.out, ← Bool.not_eq_true, hasB_iff]; omega)
          go_wp2_with fail
          go_quiet (fail)
          go_wp2_with fail
          go_quiet (fail)
          go_wp2
          go_ret
          exact ⟨by first | (rw [hits_no1 r x0 x1 x2 x3 x4 HIT.out]; done) | (rw [hits_no1 r x0 x1 x2 x3 x4 HIT.out]; rfl), (by repeat (first | exact Below.refl _ _ | assumption | refine Below.drewN ?_ | refine Below.drew ?_ | refine Below.setCell ?_ (by first | exact Nat.le_refl _ | omega | (simp; done) | (simp; omega)) _ | refine Below.alloc ?_ (by first | exact Nat.le_refl _ | omega | (simp; done) | (simp; omega)) _))⟩
        · by_cases hi : r.m1 < x1
          · have HIT : Hid (hitB r.k1 r.v1 r.m1 4294967295 x1 = false) := hide (by rw [HQ.out, ← Bool.not_eq_true, hasB_iff]; omega)
            go_wp2_with fail
            go_quiet (fail)
            go_wp2_with fail
            go_quiet (fail)
            go_wp2
            go_ret
            exact ⟨by first | (rw [hits_no1 r x0 x1 x2 x3 x4 HIT.out]; done) | (rw [hits_no1 r x0 x1 x2 x3 x4 HIT.out]; rfl), (by repeat (first | exact Below.refl _ _ | assumption | refine Below.drewN ?_ | refine Below.drew ?_ | refine Below.setCell ?_ (by first | exact Nat.le_refl _ | omega | (simp; done) | (simp; omega)) _ | refine Below.alloc ?_ (by first | exact Nat.le_refl _ | omega | (simp; done) | (simp; omega)) _))⟩
          · have HIT : Hid (hitB r.k1 r.v1 r.m1 4294967295 x1 = true) := hide (by rw [HQ.out, hasB_iff]; omega)
            go_wp2_with fail
            go_quiet (fail)
            go_wp2_with fail
            go_quiet (fail)
            go_wp2
            go_roundw
            case rel => exact ⟨2, by omega, rfl, (by repeat (first | exact Below.refl _ _ | assumption | refine Below.drewN ?_ | refine Below.drew ?_ | refine Below.setCell ?_ (by first | exact Nat.le_refl _ | omega | (simp; done) | (simp; omega)) _ | refine Below.alloc ?_ (by first | exact Nat.le_refl _ | omega | (simp; done) | (simp; omega)) _)), by simp; omega, HR'.out, HX'.out, fun _ => H0.out, fun _ => HIT.out, by omega, by omega, by omega⟩
            case measure => simp [intOf]
    | 2, _ =>
      have ck : wr.cell? ⟨w.heap.size, 8, none⟩ = some (.int .i64 r.k2) := hr 8 _ rfl
      have cv : wr.cell? ⟨w.heap.size, 9, none⟩ = some (.int .i64 r.v2) := hr 9 _ rfl
      have cm : wr.cell? ⟨w.heap.size, 10, none⟩ = some (.int .i64 r.m2) := hr 10 _ rfl
      have cx : wr.cell? ⟨w.heap.size + 1, 2, none⟩ = some (.int .i64 x2) := hx 2 _ rfl
      have HR := hide hr
      have HX := hide hx
      have hb' : Below w.heap.size w (wr.alloc (.cells #[.int .i64 r.k2, .int .i64 r.v2, .int .i64 r.m2] 34)) := hb.alloc hb.size _
      have HB' := hide hb'
      have HR' := hide (range_blw hr ((Below.refl _ wr).alloc (Nat.le_refl _) (.cells #[.int .i64 r.k2, .int .i64 r.v2, .int .i64 r.m2] 34)))
      have HX' := hide (range_blw hx ((Below.refl _ wr).alloc (Nat.le_refl _) (.cells #[.int .i64 r.k2, .int .i64 r.v2, .int .i64 r.m2] 34)))
      clear hr hx hb'
      have H0 := hide (h0 (by omega))
      have H1 := hide (h1 (by omega))
      clear h0 h1 h2 h3 h4
      rcases hkk.out.2.2.1 with hk0 | hk0
      · have b0 : (r.k2 == 0) = true := by simp [hk0]
        have b1 : (r.k2 == 1) = false := by simp [hk0]
        have HQ : Hid (hitB r.k2 r.v2 r.m2 255 x2 = (bits .and .i64 x2 r.m2 == r.v2)) := hide (by unfold hitB; rw [if_pos hk0])
        clear hk0
        cases hh : (bits .and .i64 x2 r.m2 == r.v2) with
        | true =>
          have hn : (bits .and .i64 x2 r.m2 != r.v2) = false := by rw [bne, hh]; rfl
          have HIT : Hid (hitB r.k2 r.v2 r.m2 255 x2 = true) := hide (by rw [HQ.out, hh])
          clear hh
          go_wp2_with fail
          go_quiet (fail)
          go_wp2_with fail
          go_quiet (fail)
          go_wp2
          go_roundw
          case rel => exact ⟨3, by omega, rfl, (by repeat (first | exact Below.refl _ _ | assumption | refine Below.drewN ?_ | refine Below.drew ?_ | refine Below.setCell ?_ (by first | exact Nat.le_refl _ | omega | (simp; done) | (simp; omega)) _ | refine Below.alloc ?_ (by first | exact Nat.le_refl _ | omega | (simp; done) | (simp; omega)) _)), by simp; omega, HR'.out, HX'.out, fun _ => H0.out, fun _ => H1.out, fun _ => HIT.out, by omega, by omega⟩
          case measure => simp [intOf]
        | false =>
          have hn : (bits .and .i64 x2 r.m2 != r.v2) = true := by rw [bne, hh]; rfl
          have HIT : Hid (hitB r.k2 r.v2 r.m2 255 x2 = false) := hide (by rw [HQ.out, hh])
          clear hh
          go_wp2_with fail
          go_quiet (fail)
          go_wp2
          go_ret
          exact ⟨by first | (rw [hits_no2 r x0 x1 x2 x3 x4 HIT.out]; done) | (rw [hits_no2 r x0 x1 x2 x3 x4 HIT.out]; rfl), (by repeat (first | exact Below.refl _ _ | assumption | refine Below.drewN ?_ | refine Below.drew ?_ | refine Below.setCell ?_ (by first | exact Nat.le_refl _ | omega | (simp; done) | (simp; omega)) _ | refine Below.alloc ?_ (by first | exact Nat.le_refl _ | omega | (simp; done) | (simp; omega)) _))⟩
      · have b0 : (r.k2 == 0) = false := by simp [hk0]
        have b1 : (r.k2 == 1) = true := by simp [hk0]
        have HQ : Hid (hitB r.k2 r.v2 r.m2 255 x2 = hasB r.v2 r.m2 x2) := hide (by unfold hitB topB; rw [if_neg (by omega), if_pos hk0])
        clear hk0
        by_cases lo : x2 < r.v2
        · have HIT : Hid (hitB r.k2 r.v2 r.m2 255 x2 = false) := hide (by rw [HQ.out, ← Bool.not_eq_true, hasB_iff]; omega)
          go_wp2_with fail
          go_quiet (fail)
          go_wp2_with fail
          go_quiet (fail)
          go_wp2
          go_ret
          exact ⟨by first | (rw [hits_no2 r x0 x1 x2 x3 x4 HIT.out]; done) | (rw [hits_no2 r x0 x1 x2 x3 x4 HIT.out]; rfl), (by repeat (first | exact Below.refl _ _ | assumption | refine Below.drewN ?_ | refine Below.drew ?_ | refine Below.setCell ?_ (by first | exact Nat.le_refl _ | omega | (simp; done) | (simp; omega)) _ | refine Below.alloc ?_ (by first | exact Nat.le_refl _ | omega | (simp; done) | (simp; omega)) _))⟩
        · by_cases hi : r.m2 < x2
          · have HIT : Hid (hitB r.k2 r.v2 r.m2 255 x2 = false) := hide (by rw [HQ.out, ← Bool.not_eq_true, hasB_iff]; omega)
            go_wp2_with fail
            go_quiet (fail)
            go_wp2_with fail
            go_quiet (fail)
            go_wp2
            go_ret
            exact ⟨by first | (rw [hits_no2 r x0 x1 x2 x3 x4 HIT.out]; done) | (rw [hits_no2 r x0 x1 x2 x3 x4 HIT.out]; rfl), (by repeat (first | exact Below.refl _ _ | assumption | refine Below.drewN ?_ | refine Below.drew ?_ | refine Below.setCell ?_ (by first | exact Nat.le_refl _ | omega | (simp; done) | (simp; omega)) _ | refine Below.alloc ?_ (by first | exact Nat.le_refl _ | omega | (simp; done) | (simp; omega)) _))⟩
          · have HIT : Hid (hitB r.k2 r.v2 r.m2 255 x2 = true) := hide (by rw [HQ.out, hasB_iff]; omega)
            go_wp2_with fail
            go_quiet (fail)
            go_wp2_with fail
            go_quiet (fail)
            go_wp2
            go_roundw
            case rel => exact ⟨3, by omega, rfl, (by repeat (first | exact Below.refl _ _ | assumption | refine Below.drewN ?_ | refine Below.drew ?_ | refine Below.setCell ?_ (by first | exact Nat.le_refl _ | omega | (simp; done) | (simp; omega)) _ | refine Below.alloc ?_ (by first | exact Nat.le_refl _ | omega | (simp; done) | (simp; omega)) _)), by simp; omega, HR'.out, HX'.out, fun _ => H0.out, fun _ => H1.out, fun _ => HIT.out, by omega, by omega⟩
            case measure => simp [intOf]
    | 3, _ =>
      have ck : wr.cell? ⟨w.heap.size, 11, none⟩ = some (.int .i64 r.k3) := hr 11 _ rfl
      have cv : wr.cell? ⟨w.heap.size, 12, none⟩ = some (.int .i64 r.v3) := hr 12 _ rfl
      have cm : wr.cell? ⟨w.heap.size, 13, none⟩ = some (.int .i64 r.m3) := hr 13 _ rfl
      have cx : wr.cell? ⟨w.heap.size + 1, 3, none⟩ = some (.int .i64 x3) := hx 3 _ rfl
      have HR := hide hr
      have HX := hide hx
      have hb' : Below w.heap.size w (wr.alloc (.cells #[.int .i64 r.k3, .int .i64 r.v3, .int .i64 r.m3] 34)) := hb.alloc hb.size _
      have HB' := hide hb'
      have HR' := hide (range_blw hr ((Below.refl _ wr).alloc (Nat.le_refl _) (.cells #[.int .i64 r.k3, .int .i64 r.v3, .int .i64 r.m3] 34)))
      have HX' := hide (range_blw hx ((Below.refl _ wr).alloc (Nat.le_refl _) (.cells #[.int .i64 r.k3, .int .i64 r.v3, .int .i64 r.m3] 34)))
      clear hr hx hb'
      have H0 := hide (h0 (by omega))
      have H1 := hide (h1 (by omega))
      have H2 := hide (h2 (by omega))
      clear h0 h1 h2 h3 h4
      rcases hkk.out.2.2.2.1 with hk0 | hk0
      · have b0 : (r.k3 == 0) = true := by simp [hk0]
        have b1 : (r.k3 == 1) = false := by simp [hk0]
        have HQ : Hid (hitB r.k3 r.v3 r.m3 65535 x3 = (bits .and .i64 x3 r.m3 == r.v3)) := hide (by unfold hitB; rw [if_pos hk0])
        clear hk0
        cases hh : (bits .and .i64 x3 r.m3 == r.v3) with
        | true =>
          have hn : (bits .and .i64 x3 r.m3 != r.v3) = false := by rw [bne, hh]; rfl
          have HIT : Hid (hitB r.k3 r.v3 r.m3 65535 x3 = true) := hide (by rw [HQ.out, hh])
          clear hh
          go_wp2_with fail
          go_quiet (fail)
          go_wp2_with fail
          go_quiet (fail)
          go_wp2
          go_roundw
          case rel => exact ⟨4, by omega, rfl, (by repeat (first | exact Below.refl _ _ | assumption | refine Below.drewN ?_ | refine Below.drew ?_ | refine Below.setCell ?_ (by first | exact Nat.le_refl _ | omega | (simp; done) | (simp; omega)) _ | refine Below.alloc ?_ (by first | exact Nat.le_refl _ | omega | (simp; done) | (simp; omega)) _)), by simp; omega, HR'.out, HX'.out, fun _ => H0.out, fun _ => H1.out, fun _ => H2.out, fun _ => HIT.out, by omega⟩
          case measure => simp [intOf]
        | false =>
          have hn : (bits .and .i64 x3 r.m3 != r.v3) = true := by rw [bne, hh]; rfl
          have HIT : Hid (hitB r.k3 r.v3 r.m3 65535 x3 = false) := hide (by rw [HQ.out, hh])
          clear hh
          go_wp2_with fail
          go_quiet (fail)
          go_wp2
          go_ret
          exact ⟨by first | (rw [hits_no3 r x0 x1 x2 x3 x4 HIT.out]; done) | (rw [hits_no3 r x0 x1 x2 x3 x4 HIT.out]; rfl), (by repeat (first | exact Below.refl _ _ | assumption | refine Below.drewN ?_ | refine Below.drew ?_ | refine Below.setCell ?_ (by first | exact Nat.le_refl _ | omega | (simp; done) | (simp; omega)) _ | refine Below.alloc ?_ (by first | exact Nat.le_refl _ | omega | (simp; done) | (simp; omega)) _))⟩
      · have b0 : (r.k3 == 0) = false := by simp [hk0]
        have b1 : (r.k3 == 1) = true := by simp [hk0]
        have HQ : Hid (hitB r.k3 r.v3 r.m3 65535 x3 = hasB r.v3 r.m3 x3) := hide (by unfold hitB topB; rw [if_neg (by omega), if_pos hk0])
        clear hk0
        by_cases lo : x3 < r.v3
        · have HIT : Hid (hitB r.k3 r.v3 r.m3 65535 x3 = false) := hide (by rw [HQ.out, ← Bool.not_eq_true, hasB_iff]; omega)
          go_wp2_with fail
          go_quiet (fail)
          go_wp2_with fail
          go_quiet (fail)
          go_wp2
          go_ret
          exact ⟨by first | (rw [hits_no3 r x0 x1 x2 x3 x4 HIT.out]; done) | (rw [hits_no3 r x0 x1 x2 x3 x4 HIT.out]; rfl), (by repeat (first | exact Below.refl _ _ | assumption | refine Below.drewN ?_ | refine Below.drew ?_ | refine Below.setCell ?_ (by first | exact Nat.le_refl _ | omega | (simp; done) | (simp; omega)) _ | refine Below.alloc ?_ (by first | exact Nat.le_refl _ | omega | (simp; done) | (simp; omega)) _))⟩
        · by_cases hi : r.m3 < x3
          · have HIT : Hid (hitB r.k3 r.v3 r.m3 65535 x3 = false) := hide (by rw [HQ.out, ← Bool.not_eq_true, hasB_iff]; omega)
            go_wp2_with fail
            go_quiet (fail)
            go_wp2_with fail
            go_quiet (fail)
            go_wp2
            go_ret
            exact ⟨by first | (rw [hits_no3 r x0 x1 x2 x3 x4 HIT.out]; done) | (rw [hits_no3 r x0 x1 x2 x3 x4 HIT.out]; rfl), (by repeat (first | exact Below.refl _ _ | assumption | refine Below.drewN ?_ | refine Below.drew ?_ | refine Below.setCell ?_ (by first | exact Nat.le_refl _ | omega | (simp; done) | (simp; omega)) _ | refine Below.alloc ?_ (by first | exact Nat.le_refl _ | omega | (simp; done) | (simp; omega)) _))⟩
          · have HIT : Hid (hitB r.k3 r.v3 r.m3 65535 x3 = true) := hide (by rw [HQ.out, hasB_iff]; omega)
            go_wp2_with fail
            go_quiet (fail)
            go_wp2_with fail
            go_quiet (fail)
            go_wp2
            go_roundw
            case rel => exact ⟨4, by omega, rfl, (by repeat (first | exact Below.refl _ _ | assumption | refine Below.drewN ?_ | refine Below.drew ?_ | refine Below.setCell ?_ (by first | exact Nat.le_refl _ | omega | (simp; done) | (simp; omega)) _ | refine Below.alloc ?_ (by first | exact Nat.le_refl _ | omega | (simp; done) | (simp; omega)) _)), by simp; omega, HR'.out, HX'.out, fun _ => H0.out, fun _ => H1.out, fun _ => H2.out, fun _ => HIT.out, by omega⟩
            case measure => simp [intOf]
    | 4, _ =>
      have ck : wr.cell? ⟨w.heap.size, 14, none⟩ = some (.int .i64 r.k4) := hr 14 _ rfl
      have cv : wr.cell? ⟨w.heap.size, 15, none⟩ = some (.int .i64 r.v4) := hr 15 _ rfl
      have cm : wr.cell? ⟨w.heap.size, 16, none⟩ = some (.int .i64 r.m4) := hr 16 _ rfl
      have cx : wr.cell? ⟨w.heap.size + 1, 4, none⟩ = some (.int .i64 x4) := hx 4 _ rfl
      have HR := hide hr
      have HX := hide hx
      have hb' : Below w.heap.size w (wr.alloc (.cells #[.int .i64 r.k4, .int .i64 r.v4, .int .i64 r.m4] 34)) := hb.alloc hb.size _
      have HB' := hide hb'
      have HR' := hide (range_blw hr ((Below.refl _ wr).alloc (Nat.le_refl _) (.cells #[.int .i64 r.k4, .int .i64 r.v4, .int .i64 r.m4] 34)))
      have HX' := hide (range_blw hx ((Below.refl _ wr).alloc (Nat.le_refl _) (.cells #[.int .i64 r.k4, .int .i64 r.v4, .int .i64 r.m4] 34)))
      clear hr hx hb'
      have H0 := hide (h0 (by omega))
      have H1 := hide (h1 (by omega))
      have H2 := hide (h2 (by omega))
      have H3 := hide (h3 (by omega))
      clear h0 h1 h2 h3 h4
      rcases hkk.out.2.2.2.2 with hk0 | hk0
      · have b0 : (r.k4 == 0) = true := by simp [hk0]
        have b1 : (r.k4 == 1) = false := by simp [hk0]
        have HQ : Hid (hitB r.k4 r.v4 r.m4 65535 x4 = (bits .and .i64 x4 r.m4 == r.v4)) := hide (by unfold hitB; rw [if_pos hk0])
        clear hk0
        cases hh : (bits .and .i64 x4 r.m4 == r.v4) with
        | true =>
          have hn : (bits .and .i64 x4 r.m4 != r.v4) = false := by rw [bne, hh]; rfl
          have HIT : Hid (hitB r.k4 r.v4 r.m4 65535 x4 = true) := hide (by rw [HQ.out, hh])
          clear hh
          go_wp2_with fail
          go_quiet (fail)
          go_wp2_with fail
          go_quiet (fail)
          go_wp2
          go_roundw
          case rel => exact ⟨5, by omega, rfl, (by repeat (first | exact Below.refl _ _ | assumption | refine Below.drewN ?_ | refine Below.drew ?_ | refine Below.setCell ?_ (by first | exact Nat.le_refl _ | omega | (simp; done) | (simp; omega)) _ | refine Below.alloc ?_ (by first | exact Nat.le_refl _ | omega | (simp; done) | (simp; omega)) _)), by simp; omega, HR'.out, HX'.out, fun _ => H0.out, fun _ => H1.out, fun _ => H2.out, fun _ => H3.out, fun _ => HIT.out⟩
          case measure => simp [intOf]
        | false =>
          have hn : (bits .and .i64 x4 r.m4 != r.v4) = true := by rw [bne, hh]; rfl
          have HIT : Hid (hitB r.k4 r.v4 r.m4 65535 x4 = false) := hide (by rw [HQ.out, hh])
          clear hh
          go_wp2_with fail
          go_quiet (fail)
          go_wp2
          go_ret
          exact ⟨by first | (rw [hits_no4 r x0 x1 x2 x3 x4 HIT.out]; done) | (rw [hits_no4 r x0 x1 x2 x3 x4 HIT.out]; rfl), (by repeat (first | exact Below.refl _ _ | assumption | refine Below.drewN ?_ | refine Below.drew ?_ | refine Below.setCell ?_ (by first | exact Nat.le_refl _ | omega | (simp; done) | (simp; omega)) _ | refine Below.alloc ?_ (by first | exact Nat.le_refl _ | omega | (simp; done) | (simp; omega)) _))⟩
      · have b0 : (r.k4 == 0) = false := by simp [hk0]
        have b1 : (r.k4 == 1) = true := by simp [hk0]
        have HQ : Hid (hitB r.k4 r.v4 r.m4 65535 x4 = hasB r.v4 r.m4 x4) := hide (by unfold hitB topB; rw [if_neg (by omega), if_pos hk0])
        clear hk0
        by_cases lo : x4 < r.v4
        · have HIT : Hid (hitB r.k4 r.v4 r.m4 65535 x4 = false) := hide (by rw [HQ.out, ← Bool.not_eq_true, hasB_iff]; omega)
          go_wp2_with fail
          go_quiet (fail)
          go_wp2_with fail
          go_quiet (fail)
          go_wp2
          go_ret
          exact ⟨by first | (rw [hits_no4 r x0 x1 x2 x3 x4 HIT.out]; done) | (rw [hits_no4 r x0 x1 x2 x3 x4 HIT.out]; rfl), (by repeat (first | exact Below.refl _ _ | assumption | refine Below.drewN ?_ | refine Below.drew ?_ | refine Below.setCell ?_ (by first | exact Nat.le_refl _ | omega | (simp; done) | (simp; omega)) _ | refine Below.alloc ?_ (by first | exact Nat.le_refl _ | omega | (simp; done) | (simp; omega)) _))⟩
        · by_cases hi : r.m4 < x4
          · have HIT : Hid (hitB r.k4 r.v4 r.m4 65535 x4 = false) := hide (by rw [HQ.out, ← Bool.not_eq_true, hasB_iff]; omega)
            go_wp2_with fail
            go_quiet (fail)
            go_wp2_with fail
            go_quiet (fail)
            go_wp2
            go_ret
            exact ⟨by first | (rw [hits_no4 r x0 x1 x2 x3 x4 HIT.out]; done) | (rw [hits_no4 r x0 x1 x2 x3 x4 HIT.out]; rfl), (by repeat (first | exact Below.refl _ _ | assumption | refine Below.drewN ?_ | refine Below.drew ?_ | refine Below.setCell ?_ (by first | exact Nat.le_refl _ | omega | (simp; done) | (simp; omega)) _ | refine Below.alloc ?_ (by first | exact Nat.le_refl _ | omega | (simp; done) | (simp; omega)) _))⟩
          · have HIT : Hid (hitB r.k4 r.v4 r.m4 65535 x4 = true) := hide (by rw [HQ.out, hasB_iff]; omega)
            go_wp2_with fail
            go_quiet (fail)
            go_wp2_with fail
            go_quiet (fail)
            go_wp2
            go_roundw
            case rel => exact ⟨5, by omega, rfl, (by repeat (first | exact Below.refl _ _ | assumption | refine Below.drewN ?_ | refine Below.drew ?_ | refine Below.setCell ?_ (by first | exact Nat.le_refl _ | omega | (simp; done) | (simp; omega)) _ | refine Below.alloc ?_ (by first | exact Nat.le_refl _ | omega | (simp; done) | (simp; omega)) _)), by simp; omega, HR'.out, HX'.out, fun _ => H0.out, fun _ => H1.out, fun _ => H2.out, fun _ => H3.out, fun _ => HIT.out⟩
            case measure => simp [intOf]
    | 5, _ =>
      have HB := hide hb
      have HT : Hid (r.hits x0 x1 x2 x3 x4 = true) := hide (by unfold Rl.hits; rw [h0 (by omega), h1 (by omega), h2 (by omega), h3 (by omega), h4 (by omega)]; rfl)
      clear h0 h1 h2 h3 h4 hr hx hb
      go_wp2
      go_ret
      exact ⟨by first | (rw [HT.out]; done) | (rw [HT.out]; rfl), HB.out⟩
end Go.Proofs.YtnjalelblbjfiaaGreatDoor
