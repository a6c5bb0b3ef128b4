import Derived.Test.YtnjalelblbjfiaaGreatDoorP4
import Derived.Deep.AppendLies
import Derived.Deep.MidRow
namespace Go.Proofs.YtnjalelblbjfiaaGreatDoor
open Go.RowKit
open Go.Sort (grow)

theorem ixT0 (p0 p1 p2 p3 p4 p5 : Option Addr) (w : World) : (Instr.index 104 (.agg #[.pointer p0, .pointer p1, .pointer p2, .pointer p3, .pointer p4, .pointer p5]) (.int .i64 0)).run Tryz.prog w = .ok (.pointer p0) w := by kernel_rfl
theorem ixT1 (p0 p1 p2 p3 p4 p5 : Option Addr) (w : World) : (Instr.index 104 (.agg #[.pointer p0, .pointer p1, .pointer p2, .pointer p3, .pointer p4, .pointer p5]) (.int .i64 1)).run Tryz.prog w = .ok (.pointer p1) w := by kernel_rfl
theorem ixT2 (p0 p1 p2 p3 p4 p5 : Option Addr) (w : World) : (Instr.index 104 (.agg #[.pointer p0, .pointer p1, .pointer p2, .pointer p3, .pointer p4, .pointer p5]) (.int .i64 2)).run Tryz.prog w = .ok (.pointer p2) w := by kernel_rfl
theorem ixT3 (p0 p1 p2 p3 p4 p5 : Option Addr) (w : World) : (Instr.index 104 (.agg #[.pointer p0, .pointer p1, .pointer p2, .pointer p3, .pointer p4, .pointer p5]) (.int .i64 3)).run Tryz.prog w = .ok (.pointer p3) w := by kernel_rfl
theorem ixT4 (p0 p1 p2 p3 p4 p5 : Option Addr) (w : World) : (Instr.index 104 (.agg #[.pointer p0, .pointer p1, .pointer p2, .pointer p3, .pointer p4, .pointer p5]) (.int .i64 4)).run Tryz.prog w = .ok (.pointer p4) w := by kernel_rfl
theorem ixT5 (p0 p1 p2 p3 p4 p5 : Option Addr) (w : World) : (Instr.index 104 (.agg #[.pointer p0, .pointer p1, .pointer p2, .pointer p3, .pointer p4, .pointer p5]) (.int .i64 5)).run Tryz.prog w = .ok (.pointer p5) w := by kernel_rfl

/-- The key's box: block b holds the five numbers. -/
def KeyAt (w : World) (b : Nat) (x : Nat → Int) : Prop := ∀ f, f < 5 → w.cell? ⟨b, f, none⟩ = some (.int .i64 (x f))
theorem KeyAt.below {B : Nat} {w w' : World} {b : Nat} {x : Nat → Int} (h : KeyAt w b x) (hb : Below B w w') (hB : b < B) : KeyAt w' b x := fun f hf => (hb.cell (p := ⟨b, f, none⟩) hB).trans (h f hf)
theorem KeyAt.lt {w : World} {b : Nat} {x : Nat → Int} (h : KeyAt w b x) : b < w.heap.size := block_lt_of_cell (h 0 (by omega))
theorem KeyAt.regrown {w : World} {b : Nat} {x : Nat → Int} (h : KeyAt w b x) (d : Nat) (os : Array Obj) : KeyAt (grow (redrawn w d) os) b x := h.below (below_regrown w d os) h.lt
theorem KeyAt.facts {w : World} {b : Nat} {x0 x1 x2 x3 x4 : Int} (h : KeyAt w b (fld x0 x1 x2 x3 x4)) : w.cell? ⟨b, 0, none⟩ = some (.int .i64 x0) ∧ w.cell? ⟨b, 1, none⟩ = some (.int .i64 x1) ∧ w.cell? ⟨b, 2, none⟩ = some (.int .i64 x2) ∧ w.cell? ⟨b, 3, none⟩ = some (.int .i64 x3) ∧ w.cell? ⟨b, 4, none⟩ = some (.int .i64 x4) :=
  ⟨h 0 (by omega), h 1 (by omega), h 2 (by omega), h 3 (by omega), h 4 (by omega)⟩

theorem ptrO_pointer (o : Option Ent) : ∃ a, ptrO o = .pointer a := ⟨_, rfl⟩
theorem Foremost.congr {S S' : Ent → Prop} {x0 x1 x2 x3 x4 : Int} {res : Option Ent} (hs : ∀ e, S e ↔ S' e) (h : Foremost S x0 x1 x2 x3 x4 res) : Foremost S' x0 x1 x2 x3 x4 res := by
  have e : S = S' := funext fun e => propext (hs e)
  rw [← e]
  exact h
theorem firstE_mem (x0 x1 x2 x3 x4 : Int) {best : Option Ent} {e : Ent} : ∀ {bs : List Ent}, e ∈ firstE x0 x1 x2 x3 x4 best bs → e ∈ best ∨ e ∈ bs
  | [], h => .inl h
  | d :: t, h => by
    unfold firstE at h
    split at h
    · exact .inl h
    · split at h
      · cases h; exact .inr (by simp)
      · exact (firstE_mem x0 x1 x2 x3 x4 h).imp id (List.mem_cons_of_mem _)

attribute [local go_sem] ixT0 ixT1 ixT2 ixT3 ixT4 ixT5 cell?_regrown

set_option maxRecDepth 100000 in
set_option maxHeartbeats 1000000 in
theorem find_key (t : Nat) (x0 x1 x2 x3 x4 : Int) (w : World) (hl : Laid w) (hk : keyB x0 x1 x2 x3 x4 = true) (tb : Nat → Nat) (E : Nat → List Ent)
    (hc : ∀ h, h < 6 → w.cell? ⟨t, 2 + h, none⟩ = some (.pointer (some ⟨tb h, 0, none⟩)))
    (hT : ∀ h, h < 6 → TreeAt w 12 (tb h) (E h) ∧ Sorted (E h) ∧ (E h).length ≤ 200 ∧ ∀ e ∈ E h, EntAt w e.1 e.2 ∧ e.2.ok = true) :
    Calls Tryz.prog 16 #[.pointer (some ⟨t, 0, none⟩), .agg #[.int .i64 x0, .int .i64 x1, .int .i64 x2, .int .i64 x3, .int .i64 x4]] w fun e w' => ∃ res, Foremost (fun e => ∃ h, h < 6 ∧ e ∈ E h) x0 x1 x2 x3 x4 res ∧
      e = .returned (.tuple #[.int .i64 (match res with | some r => r.2.id | none => 0), .int .i64 (match res with | some _ => 0 | none => 7)]) ∧ Below w.heap.size w w' := by
  have c0 := hc 0 (by omega)
  have c1 := hc 1 (by omega)
  have c2 := hc 2 (by omega)
  have c3 := hc 3 (by omega)
  have c4 := hc 4 (by omega)
  have c5 := hc 5 (by omega)
  have hlt := block_lt_of_cell c0
  simp only [Nat.add_zero, Nat.reduceAdd] at c0 c1 c2 c3 c4 c5 hlt
  clear hc
  go_enter Tryz.func16, Tryz.ntmps16
  go_wp2_with fail
  refine (isKey_any _ _ _ _ _ _ (hl.below ((Below.refl _ _).alloc (Nat.le_refl _) _) hl.pos)).mono ?_
  rintro e w1 ⟨rfl, hb1⟩
  rw [hk]
  have hkey0 : KeyAt w1 w.heap.size (fld x0 x1 x2 x3 x4) := KeyAt.below (fun f hf => by match f, hf with | 0, _ => simp [fld] | 1, _ => simp [fld] | 2, _ => simp [fld] | 3, _ => simp [fld] | 4, _ => simp [fld]) hb1 (by simp)
  obtain ⟨hc1, hf1⟩ := bcell hb1
  have hz1 := hb1.size
  go_wp2_with fail
  go_loopw [6, 16] (fun p i wr => ∃ (k : Nat) (best : Option Ent), k ≤ 6 ∧ i = .int .i64 k ∧ p = ptrO best ∧ Below w.heap.size w wr ∧ KeyAt wr w.heap.size (fld x0 x1 x2 x3 x4) ∧ Foremost (fun e => ∃ h, h < k ∧ e ∈ E h) x0 x1 x2 x3 x4 best ∧ ∀ e ∈ best, EntAt w e.1 e.2) (fun _ i _ => 6 - (intOf i).toNat)
  case atStart => exact ⟨0, none, by omega, rfl, rfl, Below.trans (by repeat (first | exact Below.refl _ _ | assumption | refine Below.drewN ?_ | refine Below.drew ?_ | refine Below.setCell ?_ (by first | exact Nat.le_refl _ | omega | (simp; done) | (simp; omega)) _ | refine Below.alloc ?_ (by first | exact Nat.le_refl _ | omega | (simp; done) | (simp; omega)) _)) (hb1.mono (by first | exact Nat.le_refl _ | omega | (simp; done) | (simp; omega))), hkey0, fun e h => absurd h.choose_spec.1 (by omega), fun e h => by cases h⟩
  case round =>
    obtain ⟨k, best, hk6, rfl, rfl, hb, hkey, hbest, hbe⟩ := hrel
    clear hl hb1 hc1 hf1 hz1 hkey0
    match k, hk6 with
    | 0, _ =>
      obtain ⟨v, bs, hL, hB, hsub, hin⟩ := (hT 0 (by omega)).1.leaf (fld x0 x1 x2 x3 x4)
      obtain ⟨a, cap, hv, hB1, hB2⟩ := hB
      have hB : BunchAt w (.slice a bs.length cap) bs := ⟨a, cap, rfl, hB1, hB2⟩
      rw [hv] at hL
      have hlen : bs.length ≤ 200 := Nat.le_trans hsub.length_le (hT 0 (by omega)).2.2.1
      have CL := hide (fun d os => leaf_any w.heap.size (fld x0 x1 x2 x3 x4) (grow (redrawn wr d) os) (hkey.regrown d os) 12 (tb 0) a bs.length cap ((hL.below hb (Nat.le_refl _)).below (below_regrown wr d os) (Nat.le_refl _)))
      have CF := hide (fun d os => first_any (.slice a bs.length cap) bs x0 x1 x2 x3 x4 best (grow (redrawn wr d) os) ((hB.below hb (Nat.le_refl _)).below (below_regrown wr d os) (Nat.le_refl _)) hlen (fun e he => ((hbe e he).below hb (hbe e he).lt).below (below_regrown wr d os) (Nat.lt_of_lt_of_le (hbe e he).lt hb.size)))
      have HF := hide (hbest.step (hT 0 (by omega)).2.1 hsub (fun e he hh => hin e he (Rl.hits_inHull hk ((hT 0 (by omega)).2.2.2 e he).2 hh)))
      have HE := hide (fun e (he : e ∈ bs) => ((hT 0 (by omega)).2.2.2 e (hsub.subset he)).1)
      obtain ⟨g0, g1, g2, g3, g4⟩ := hkey.facts
      have hklt := hkey.lt
      have HBE := hide hbe
      clear hL hB hB1 hB2 hv hT hin hsub hbest hbe
      generalize hpb : ptrO best = pb at *
      obtain ⟨pa, hpa⟩ := ptrO_pointer best
      rw [hpa] at hpb
      subst hpb
      go_wp2_with fail
      refine wp_region_quiet_below (by kernel_rfl) (by kernel_rfl) ?_
      repeat (quiet_step (first | exact Calls.regrown_of (CL.out _ _) | exact Calls.regrown_of (CF.out _ _)))
      refine wpQuiet_nil ?_; intro wq hwq; replace hwq := below_of_regrown hwq; obtain ⟨hcq, hfq⟩ := bcell hwq; have hzq := hwq.size
      go_wp2
      go_roundw
      case rel => exact ⟨1, _, by omega, rfl, rfl, hb.trans (hwq.mono hb.size), hkey.below hwq hkey.lt, Foremost.congr (fun e => ⟨fun h => h.elim (fun ⟨j, hj, he⟩ => ⟨j, by omega, he⟩) (fun he => ⟨0, by omega, he⟩), fun ⟨j, hj, he⟩ => if h : j = 0 then .inr (h ▸ he) else .inl ⟨j, by omega, he⟩⟩) HF.out, fun e he => (firstE_mem _ _ _ _ _ he).elim (fun h => HBE.out e h) (fun h => HE.out e h)⟩
      case measure => simp [intOf]
    | 1, _ =>
      obtain ⟨v, bs, hL, hB, hsub, hin⟩ := (hT 1 (by omega)).1.leaf (fld x0 x1 x2 x3 x4)
      obtain ⟨a, cap, hv, hB1, hB2⟩ := hB
      have hB : BunchAt w (.slice a bs.length cap) bs := ⟨a, cap, rfl, hB1, hB2⟩
      rw [hv] at hL
      have hlen : bs.length ≤ 200 := Nat.le_trans hsub.length_le (hT 1 (by omega)).2.2.1
      have CL := hide (fun d os => leaf_any w.heap.size (fld x0 x1 x2 x3 x4) (grow (redrawn wr d) os) (hkey.regrown d os) 12 (tb 1) a bs.length cap ((hL.below hb (Nat.le_refl _)).below (below_regrown wr d os) (Nat.le_refl _)))
      have CF := hide (fun d os => first_any (.slice a bs.length cap) bs x0 x1 x2 x3 x4 best (grow (redrawn wr d) os) ((hB.below hb (Nat.le_refl _)).below (below_regrown wr d os) (Nat.le_refl _)) hlen (fun e he => ((hbe e he).below hb (hbe e he).lt).below (below_regrown wr d os) (Nat.lt_of_lt_of_le (hbe e he).lt hb.size)))
      have HF := hide (hbest.step (hT 1 (by omega)).2.1 hsub (fun e he hh => hin e he (Rl.hits_inHull hk ((hT 1 (by omega)).2.2.2 e he).2 hh)))
      have HE := hide (fun e (he : e ∈ bs) => ((hT 1 (by omega)).2.2.2 e (hsub.subset he)).1)
      obtain ⟨g0, g1, g2, g3, g4⟩ := hkey.facts
      have hklt := hkey.lt
      have HBE := hide hbe
      clear hL hB hB1 hB2 hv hT hin hsub hbest hbe
      generalize hpb : ptrO best = pb at *
      obtain ⟨pa, hpa⟩ := ptrO_pointer best
      rw [hpa] at hpb
      subst hpb
      go_wp2_with fail
      refine wp_region_quiet_below (by kernel_rfl) (by kernel_rfl) ?_
      repeat (quiet_step (first | exact Calls.regrown_of (CL.out _ _) | exact Calls.regrown_of (CF.out _ _)))
      refine wpQuiet_nil ?_; intro wq hwq; replace hwq := below_of_regrown hwq; obtain ⟨hcq, hfq⟩ := bcell hwq; have hzq := hwq.size
      go_wp2
      go_roundw
      case rel => exact ⟨2, _, by omega, rfl, rfl, hb.trans (hwq.mono hb.size), hkey.below hwq hkey.lt, Foremost.congr (fun e => ⟨fun h => h.elim (fun ⟨j, hj, he⟩ => ⟨j, by omega, he⟩) (fun he => ⟨1, by omega, he⟩), fun ⟨j, hj, he⟩ => if h : j = 1 then .inr (h ▸ he) else .inl ⟨j, by omega, he⟩⟩) HF.out, fun e he => (firstE_mem _ _ _ _ _ he).elim (fun h => HBE.out e h) (fun h => HE.out e h)⟩
      case measure => simp [intOf]
    | 2, _ =>
      obtain ⟨v, bs, hL, hB, hsub, hin⟩ := (hT 2 (by omega)).1.leaf (fld x0 x1 x2 x3 x4)
      obtain ⟨a, cap, hv, hB1, hB2⟩ := hB
      have hB : BunchAt w (.slice a bs.length cap) bs := ⟨a, cap, rfl, hB1, hB2⟩
      rw [hv] at hL
      have hlen : bs.length ≤ 200 := Nat.le_trans hsub.length_le (hT 2 (by omega)).2.2.1
      have CL := hide (fun d os => leaf_any w.heap.size (fld x0 x1 x2 x3 x4) (grow (redrawn wr d) os) (hkey.regrown d os) 12 (tb 2) a bs.length cap ((hL.below hb (Nat.le_refl _)).below (below_regrown wr d os) (Nat.le_refl _)))
      have CF := hide (fun d os => first_any (.slice a bs.length cap) bs x0 x1 x2 x3 x4 best (grow (redrawn wr d) os) ((hB.below hb (Nat.le_refl _)).below (below_regrown wr d os) (Nat.le_refl _)) hlen (fun e he => ((hbe e he).below hb (hbe e he).lt).below (below_regrown wr d os) (Nat.lt_of_lt_of_le (hbe e he).lt hb.size)))
      have HF := hide (hbest.step (hT 2 (by omega)).2.1 hsub (fun e he hh => hin e he (Rl.hits_inHull hk ((hT 2 (by omega)).2.2.2 e he).2 hh)))
      have HE := hide (fun e (he : e ∈ bs) => ((hT 2 (by omega)).2.2.2 e (hsub.subset he)).1)
      obtain ⟨g0, g1, g2, g3, g4⟩ := hkey.facts
      have hklt := hkey.lt
      have HBE := hide hbe
      clear hL hB hB1 hB2 hv hT hin hsub hbest hbe
      generalize hpb : ptrO best = pb at *
      obtain ⟨pa, hpa⟩ := ptrO_pointer best
      rw [hpa] at hpb
      subst hpb
      go_wp2_with fail
      refine wp_region_quiet_below (by kernel_rfl) (by kernel_rfl) ?_
      repeat (quiet_step (first | exact Calls.regrown_of (CL.out _ _) | exact Calls.regrown_of (CF.out _ _)))
      refine wpQuiet_nil ?_; intro wq hwq; replace hwq := below_of_regrown hwq; obtain ⟨hcq, hfq⟩ := bcell hwq; have hzq := hwq.size
      go_wp2
      go_roundw
      case rel => exact ⟨3, _, by omega, rfl, rfl, hb.trans (hwq.mono hb.size), hkey.below hwq hkey.lt, Foremost.congr (fun e => ⟨fun h => h.elim (fun ⟨j, hj, he⟩ => ⟨j, by omega, he⟩) (fun he => ⟨2, by omega, he⟩), fun ⟨j, hj, he⟩ => if h : j = 2 then .inr (h ▸ he) else .inl ⟨j, by omega, he⟩⟩) HF.out, fun e he => (firstE_mem _ _ _ _ _ he).elim (fun h => HBE.out e h) (fun h => HE.out e h)⟩
      case measure => simp [intOf]
    | 3, _ =>
      obtain ⟨v, bs, hL, hB, hsub, hin⟩ := (hT 3 (by omega)).1.leaf (fld x0 x1 x2 x3 x4)
      obtain ⟨a, cap, hv, hB1, hB2⟩ := hB
      have hB : BunchAt w (.slice a bs.length cap) bs := ⟨a, cap, rfl, hB1, hB2⟩
      rw [hv] at hL
      have hlen : bs.length ≤ 200 := Nat.le_trans hsub.length_le (hT 3 (by omega)).2.2.1
      have CL := hide (fun d os => leaf_any w.heap.size (fld x0 x1 x2 x3 x4) (grow (redrawn wr d) os) (hkey.regrown d os) 12 (tb 3) a bs.length cap ((hL.below hb (Nat.le_refl _)).below (below_regrown wr d os) (Nat.le_refl _)))
      have CF := hide (fun d os => first_any (.slice a bs.length cap) bs x0 x1 x2 x3 x4 best (grow (redrawn wr d) os) ((hB.below hb (Nat.le_refl _)).below (below_regrown wr d os) (Nat.le_refl _)) hlen (fun e he => ((hbe e he).below hb (hbe e he).lt).below (below_regrown wr d os) (Nat.lt_of_lt_of_le (hbe e he).lt hb.size)))
      have HF := hide (hbest.step (hT 3 (by omega)).2.1 hsub (fun e he hh => hin e he (Rl.hits_inHull hk ((hT 3 (by omega)).2.2.2 e he).2 hh)))
      have HE := hide (fun e (he : e ∈ bs) => ((hT 3 (by omega)).2.2.2 e (hsub.subset he)).1)
      obtain ⟨g0, g1, g2, g3, g4⟩ := hkey.facts
      have hklt := hkey.lt
      have HBE := hide hbe
      clear hL hB hB1 hB2 hv hT hin hsub hbest hbe
      generalize hpb : ptrO best = pb at *
      obtain ⟨pa, hpa⟩ := ptrO_pointer best
      rw [hpa] at hpb
      subst hpb
      go_wp2_with fail
      refine wp_region_quiet_below (by kernel_rfl) (by kernel_rfl) ?_
      repeat (quiet_step (first | exact Calls.regrown_of (CL.out _ _) | exact Calls.regrown_of (CF.out _ _)))
      refine wpQuiet_nil ?_; intro wq hwq; replace hwq := below_of_regrown hwq; obtain ⟨hcq, hfq⟩ := bcell hwq; have hzq := hwq.size
      go_wp2
      go_roundw
      case rel => exact ⟨4, _, by omega, rfl, rfl, hb.trans (hwq.mono hb.size), hkey.below hwq hkey.lt, Foremost.congr (fun e => ⟨fun h => h.elim (fun ⟨j, hj, he⟩ => ⟨j, by omega, he⟩) (fun he => ⟨3, by omega, he⟩), fun ⟨j, hj, he⟩ => if h : j = 3 then .inr (h ▸ he) else .inl ⟨j, by omega, he⟩⟩) HF.out, fun e he => (firstE_mem _ _ _ _ _ he).elim (fun h => HBE.out e h) (fun h => HE.out e h)⟩
      case measure => simp [intOf]
    | 4, _ =>
      obtain ⟨v, bs, hL, hB, hsub, hin⟩ := (hT 4 (by omega)).1.leaf (fld x0 x1 x2 x3 x4)
      obtain ⟨a, cap, hv, hB1, hB2⟩ := hB
      have hB : BunchAt w (.slice a bs.length cap) bs := ⟨a, cap, rfl, hB1, hB2⟩
      rw [hv] at hL
      have hlen : bs.length ≤ 200 := Nat.le_trans hsub.length_le (hT 4 (by omega)).2.2.1
      have CL := hide (fun d os => leaf_any w.heap.size (fld x0 x1 x2 x3 x4) (grow (redrawn wr d) os) (hkey.regrown d os) 12 (tb 4) a bs.length cap ((hL.below hb (Nat.le_refl _)).below (below_regrown wr d os) (Nat.le_refl _)))
      have CF := hide (fun d os => first_any (.slice a bs.length cap) bs x0 x1 x2 x3 x4 best (grow (redrawn wr d) os) ((hB.below hb (Nat.le_refl _)).below (below_regrown wr d os) (Nat.le_refl _)) hlen (fun e he => ((hbe e he).below hb (hbe e he).lt).below (below_regrown wr d os) (Nat.lt_of_lt_of_le (hbe e he).lt hb.size)))
      have HF := hide (hbest.step (hT 4 (by omega)).2.1 hsub (fun e he hh => hin e he (Rl.hits_inHull hk ((hT 4 (by omega)).2.2.2 e he).2 hh)))
      have HE := hide (fun e (he : e ∈ bs) => ((hT 4 (by omega)).2.2.2 e (hsub.subset he)).1)
      obtain ⟨g0, g1, g2, g3, g4⟩ := hkey.facts
      have hklt := hkey.lt
      have HBE := hide hbe
      clear hL hB hB1 hB2 hv hT hin hsub hbest hbe
      generalize hpb : ptrO best = pb at *
      obtain ⟨pa, hpa⟩ := ptrO_pointer best
      rw [hpa] at hpb
      subst hpb
      go_wp2_with fail
      refine wp_region_quiet_below (by kernel_rfl) (by kernel_rfl) ?_
      repeat (quiet_step (first | exact Calls.regrown_of (CL.out _ _) | exact Calls.regrown_of (CF.out _ _)))
      refine wpQuiet_nil ?_; intro wq hwq; replace hwq := below_of_regrown hwq; obtain ⟨hcq, hfq⟩ := bcell hwq; have hzq := hwq.size
      go_wp2
      go_roundw
      case rel => exact ⟨5, _, by omega, rfl, rfl, hb.trans (hwq.mono hb.size), hkey.below hwq hkey.lt, Foremost.congr (fun e => ⟨fun h => h.elim (fun ⟨j, hj, he⟩ => ⟨j, by omega, he⟩) (fun he => ⟨4, by omega, he⟩), fun ⟨j, hj, he⟩ => if h : j = 4 then .inr (h ▸ he) else .inl ⟨j, by omega, he⟩⟩) HF.out, fun e he => (firstE_mem _ _ _ _ _ he).elim (fun h => HBE.out e h) (fun h => HE.out e h)⟩
      case measure => simp [intOf]
    | 5, _ =>
      obtain ⟨v, bs, hL, hB, hsub, hin⟩ := (hT 5 (by omega)).1.leaf (fld x0 x1 x2 x3 x4)
      obtain ⟨a, cap, hv, hB1, hB2⟩ := hB
      have hB : BunchAt w (.slice a bs.length cap) bs := ⟨a, cap, rfl, hB1, hB2⟩
      rw [hv] at hL
      have hlen : bs.length ≤ 200 := Nat.le_trans hsub.length_le (hT 5 (by omega)).2.2.1
      have CL := hide (fun d os => leaf_any w.heap.size (fld x0 x1 x2 x3 x4) (grow (redrawn wr d) os) (hkey.regrown d os) 12 (tb 5) a bs.length cap ((hL.below hb (Nat.le_refl _)).below (below_regrown wr d os) (Nat.le_refl _)))
      have CF := hide (fun d os => first_any (.slice a bs.length cap) bs x0 x1 x2 x3 x4 best (grow (redrawn wr d) os) ((hB.below hb (Nat.le_refl _)).below (below_regrown wr d os) (Nat.le_refl _)) hlen (fun e he => ((hbe e he).below hb (hbe e he).lt).below (below_regrown wr d os) (Nat.lt_of_lt_of_le (hbe e he).lt hb.size)))
      have HF := hide (hbest.step (hT 5 (by omega)).2.1 hsub (fun e he hh => hin e he (Rl.hits_inHull hk ((hT 5 (by omega)).2.2.2 e he).2 hh)))
      have HE := hide (fun e (he : e ∈ bs) => ((hT 5 (by omega)).2.2.2 e (hsub.subset he)).1)
      obtain ⟨g0, g1, g2, g3, g4⟩ := hkey.facts
      have hklt := hkey.lt
      have HBE := hide hbe
      clear hL hB hB1 hB2 hv hT hin hsub hbest hbe
      generalize hpb : ptrO best = pb at *
      obtain ⟨pa, hpa⟩ := ptrO_pointer best
      rw [hpa] at hpb
      subst hpb
      go_wp2_with fail
      refine wp_region_quiet_below (by kernel_rfl) (by kernel_rfl) ?_
      repeat (quiet_step (first | exact Calls.regrown_of (CL.out _ _) | exact Calls.regrown_of (CF.out _ _)))
      refine wpQuiet_nil ?_; intro wq hwq; replace hwq := below_of_regrown hwq; obtain ⟨hcq, hfq⟩ := bcell hwq; have hzq := hwq.size
      go_wp2
      go_roundw
      case rel => exact ⟨6, _, by omega, rfl, rfl, hb.trans (hwq.mono hb.size), hkey.below hwq hkey.lt, Foremost.congr (fun e => ⟨fun h => h.elim (fun ⟨j, hj, he⟩ => ⟨j, by omega, he⟩) (fun he => ⟨5, by omega, he⟩), fun ⟨j, hj, he⟩ => if h : j = 5 then .inr (h ▸ he) else .inl ⟨j, by omega, he⟩⟩) HF.out, fun e he => (firstE_mem _ _ _ _ _ he).elim (fun h => HBE.out e h) (fun h => HE.out e h)⟩
      case measure => simp [intOf]
    | 6, _ =>
      have HF := hide hbest
      have HBE := hide hbe
      clear hT hbest hbe
      cases best with
      | none =>
        rw [ptrO_none]
        go_wp2
        go_ret2
        exact ⟨none, HF.out, rfl, hb⟩
      | some r =>
        have hid := ((HBE.out r rfl).below hb (HBE.out r rfl).lt).c0
        rw [ptrO_some]
        go_wp2
        go_ret2
        exact ⟨some r, HF.out, rfl, hb⟩

end Go.Proofs.YtnjalelblbjfiaaGreatDoor

namespace Go.Proofs.YtnjalelblbjfiaaGreatDoor
open Go.RowKit
open Go.Sort (grow)

theorem infoPE : (Tryz.prog.info? 96).map (fun i => (i.zero, i.size, i.bytes)) = some (some (.pointer none), 1, 8) := by kernel_rfl
theorem underBunch : Tryz.prog.underlying 118 = some (.slice 96) := by kernel_rfl

def ptrE (e : Ent) : Value := .pointer (some ⟨e.1, 0, none⟩)

theorem EntAt.lo {w : World} {b : Nat} {r : Rl} (h : EntAt w b r) {f : Nat} (hf : f < 5) : w.cell? ⟨b, 19 + f * 2, none⟩ = some (.int .i64 (r.lo f)) := by
  match f, hf with
  | 0, _ => exact h.c19
  | 1, _ => exact h.c21
  | 2, _ => exact h.c23
  | 3, _ => exact h.c25
  | 4, _ => exact h.c27
theorem EntAt.hi {w : World} {b : Nat} {r : Rl} (h : EntAt w b r) {f : Nat} (hf : f < 5) : w.cell? ⟨b, 19 + f * 2 + 1, none⟩ = some (.int .i64 (r.hi f)) := by
  match f, hf with
  | 0, _ => exact h.c20
  | 1, _ => exact h.c22
  | 2, _ => exact h.c24
  | 3, _ => exact h.c26
  | 4, _ => exact h.c28

def lows (f : Nat) (last : Int) (es : List Ent) : List Ent := es.filter fun e => decide (e.2.lo f ≤ last)
def highs (f : Nat) (last : Int) (es : List Ent) : List Ent := es.filter fun e => decide (last < e.2.hi f)

theorem ownsRow_below {B : Nat} {w w' : World} {base : Nat} {e : TypeId} {size : Nat} {v : Value} {n : Nat} {xs : List Value} (h : w.ownsRow base e size v n xs) (hb : Below B w w') (hB : w.heap.size ≤ B) : w'.ownsRow base e size v n xs := by
  refine h.kept (row := none) ⟨hb.os, hb.tape, hb.output, hb.size, fun k hk _ => hb.block k (Nat.lt_of_lt_of_le hk hB)⟩ ?_
  cases hv : v.ownBlock with
  | none => exact .inl rfl
  | some g => exact .inr (by simp)

/-- Behind an append to one of two rows of the call's own: the other one is as it was, and lies elsewhere. -/
theorem other_row {wq w1 : World} {B : Nat} {e : TypeId} {size : Nat} {v1 v2 : Value} {n2 : Nat} {xs2 : List Value} {o : Obj} {g : Nat}
    (o2 : wq.ownsRow B e size v2 n2 xs2) (hdis : ∀ g, v1.ownBlock = some g → v2.ownBlock ≠ some g) (hgrow : (wq.alloc o).grownBy w1 v1.ownBlock) (hat : v1.ownBlock = some g ∨ g = wq.heap.size + 1) :
    w1.ownsRow B e size v2 n2 xs2 ∧ v2.ownBlock ≠ some g := by
  refine ⟨(o2.alloc o).kept hgrow ?_, ?_⟩
  · cases h2 : v2.ownBlock with
    | none => exact .inl rfl
    | some g2 =>
      refine .inr fun h => ?_
      exact hdis g2 h.symm h2
  · intro h2
    rcases hat with h1 | h1
    · exact hdis g h1 h2
    · have := (o2.lt g h2).2
      omega

/-- Behind an append to a row of the call's own: below the base all is as it was. -/
theorem below_append {w wq w1 : World} {B b : Nat} {e : TypeId} {size : Nat} {v1 : Value} {n1 : Nat} {xs1 : List Value} {o : Obj} (hb : Below B w wq) (hB : B ≤ wq.heap.size)
    (o1 : wq.ownsRow b e size v1 n1 xs1) (hbB : B ≤ b) (hgrow : (wq.alloc o).grownBy w1 v1.ownBlock) : Below B w w1 :=
  Below.grown (hb.alloc hB o) hgrow (by simp; omega) fun k hk => by have := (o1.lt k hk).1; omega

theorem bunch_of_row {w : World} {B : Nat} {v : Value} {es : List Ent} (h : w.ownsRow B 96 1 v es.length (es.map ptrE)) (he : ∀ e ∈ es, EntAt w e.1 e.2) : BunchAt w v es := by
  rcases h.2 with ⟨hv, h0⟩ | ⟨g, cap, cur, hv, _⟩
  · exact ⟨none, 0, by rw [hv, h0], fun i hi => by omega, he⟩
  · refine ⟨some ⟨g, 0, none⟩, cap, hv, fun i hi => ⟨g, 0, ⟨rfl, rfl⟩, ?_⟩, he⟩
    rw [hv] at h
    rw [Nat.zero_add, h.cellAt i (by omega)]
    simp [hi, ptrE]

theorem lows_snoc (f : Nat) (last : Int) (es : List Ent) (e : Ent) : lows f last (es ++ [e]) = lows f last es ++ (if e.2.lo f ≤ last then [e] else []) := by
  unfold lows
  rw [List.filter_append]
  by_cases h : e.2.lo f ≤ last <;> simp [h]
theorem highs_snoc (f : Nat) (last : Int) (es : List Ent) (e : Ent) : highs f last (es ++ [e]) = highs f last es ++ (if last < e.2.hi f then [e] else []) := by
  unfold highs
  rw [List.filter_append]
  by_cases h : last < e.2.hi f <;> simp [h]
theorem lows_le (f : Nat) (last : Int) (es : List Ent) : (lows f last es).length ≤ es.length := List.length_filter_le _ _
theorem highs_le (f : Nat) (last : Int) (es : List Ent) : (highs f last es).length ≤ es.length := List.length_filter_le _ _

theorem own_eq {u : Value} {g1 g n c : Nat} (h1 : (Value.slice (some ⟨g1, 0, none⟩) n c).ownBlock = some g) (h5 : u.ownBlock = some g) : u.ownBlock = some g1 := by
  have e : g1 = g := by simpa [Value.ownBlock] using h1
  rw [e]
  exact h5

theorem row_snoc {w : World} {B : Nat} {v : Value} {L : List Ent} {e : Ent} (h : w.ownsRow B 96 1 v (L.length + 1) (L.map ptrE ++ [ptrE e])) : w.ownsRow B 96 1 v (L ++ [e]).length ((L ++ [e]).map ptrE) := by
  simpa using h

attribute [local go_sem] cell?_regrown

set_option maxRecDepth 100000 in
set_option maxHeartbeats 400000 in
theorem sides_walk (v : Value) (es : List Ent) (f : Nat) (last : Int) (w : World) (hes : BunchAt w v es) (hn : es.length ≤ 200) (hf : f < 5) :
    Calls Tryz.prog 152 #[v, .agg #[.int .i64 f, .int .i64 last]] w fun e w' => ∃ v1 v2, e = .returned (.tuple #[v1, v2]) ∧ BunchAt w' v1 (lows f last es) ∧ BunchAt w' v2 (highs f last es) ∧ Below w.heap.size w w' := by
  obtain ⟨a, cap, rfl, hc, he⟩ := hes
  obtain ⟨i0, hi, hz0, hz1, hz2⟩ := info_parts infoPE
  go_enter Tryz.func152, Tryz.ntmps152
  go_wp2
  go_loopw [4, 5, 12] (fun v1 v2 i wr => ∃ k : Nat, k ≤ es.length ∧ i = .int .i64 k ∧ wr.ownsRow (w.heap.size + 1) 96 1 v1 (lows f last (es.take k)).length ((lows f last (es.take k)).map ptrE) ∧ wr.ownsRow (w.heap.size + 1) 96 1 v2 (highs f last (es.take k)).length ((highs f last (es.take k)).map ptrE) ∧ (∀ g, v1.ownBlock = some g → v2.ownBlock ≠ some g) ∧ Below (w.heap.size + 1) (w.alloc (.cells #[.int .i64 f, .int .i64 last] 193)) wr) (fun _ _ i _ => es.length - (intOf i).toNat)
  case atStart => exact ⟨0, by omega, rfl, World.ownsRow_nil _ _ _ _, World.ownsRow_nil _ _ _ _, (fun g h => by cases h), Below.refl _ _⟩
  case round =>
    obtain ⟨k, hk, rfl, ho1, ho2, hdis, hb⟩ := hrel
    have hbw : Below w.heap.size w wr := Below.trans (by repeat (first | exact Below.refl _ _ | assumption | refine Below.drewN ?_ | refine Below.drew ?_ | refine Below.setCell ?_ (by first | exact Nat.le_refl _ | omega | (simp; done) | (simp; omega)) _ | refine Below.alloc ?_ (by first | exact Nat.le_refl _ | omega | (simp; done) | (simp; omega)) _)) (hb.mono (by omega))
    have hlt : w.heap.size < wr.heap.size := by have := hb.size; simp at this; omega
    have c0 : wr.cell? ⟨w.heap.size, 0, none⟩ = some (.int .i64 f) := (hb.cell (p := ⟨w.heap.size, 0, none⟩) (by exact Nat.lt_succ_self _)).trans (by simp)
    have c1 : wr.cell? ⟨w.heap.size, 1, none⟩ = some (.int .i64 last) := (hb.cell (p := ⟨w.heap.size, 1, none⟩) (by exact Nat.lt_succ_self _)).trans (by simp)
    have O1 := hide ho1
    have O2 := hide ho2
    have HD := hide hdis
    clear ho1 ho2 hdis
    by_cases hkl : k < es.length
    · obtain ⟨ab, off, ⟨rfl, hz00⟩, hcell⟩ := hc k hkl
      clear hz00
      have hcell' : wr.cell? ⟨ab, off + k, none⟩ = some (.pointer (some ⟨es[k].1, 0, none⟩)) := (hbw.cell (p := ⟨ab, off + k, none⟩) (block_lt_of_cell hcell)).trans hcell
      have hek := (he es[k] (List.getElem_mem hkl)).below hbw (he es[k] (List.getElem_mem hkl)).lt
      have hlo := hek.lo hf
      have hhi := hek.hi hf
      have heklt := hek.lt
      have hfi : (f : Int) < 5 := by omega
      generalize hee : es[k] = ek at *
      have HE := hide hee
      clear hcell hc he hee hek
      go_wp2_with fail
      refine wp_region_quiet_below (by kernel_rfl) (by kernel_rfl) ?_
      repeat (quiet_step (exact Calls.regrown_of (sides_any _ _ _ _)))
      refine wpQuiet_nil ?_; intro wq hwq; replace hwq := below_of_regrown hwq; obtain ⟨hcq, hfq⟩ := bcell hwq; have hzq := hwq.size
      have hbq : Below (w.heap.size + 1) (w.alloc (.cells #[.int .i64 f, .int .i64 last] 193)) wq := hb.trans (hwq.mono (by omega))
      have hltq : w.heap.size < wq.heap.size := Nat.lt_of_lt_of_le hlt hzq
      have o1 := hide (ownsRow_below O1.out hwq (Nat.le_refl _))
      have o2 := hide (ownsRow_below O2.out hwq (Nat.le_refl _))
      have l1 := lows_le f last (es.take k)
      have l2 := highs_le f last (es.take k)
      have lt' : (es.take k).length = k := by simp; omega
      rw [lt'] at l1 l2
      have HT : Hid (es.take (k + 1) = es.take k ++ [ek]) := by rw [List.take_succ_eq_append_getElem hkl, HE.out]; exact rfl
      clear hcq hfq hlo hhi hcell' c0 c1 hwq heklt lt'
      generalize hL : lows f last (es.take k) = L at *
      generalize hH : highs f last (es.take k) = H at *
      have HL := hide hL
      have HH := hide hH
      have HB := hide hbq
      clear hL hH O1 O2 hb hlt hbw hbq
      by_cases b1 : ek.2.lo f ≤ last
      · by_cases b2 : last < ek.2.hi f
        · go_wp2_with (first | (at_builtin; refine wpList_append_lies _ rfl _ _ 118 rfl (w.heap.size + 1) 96 i0 (.pointer none) 1 8 underBunch hi hz0 hz1 hz2 rfl (by decide) _ _ _ rfl (o1.out.alloc _) ⟨wq.heap.size, 0, none⟩ 1 1 [ptrE ek] rfl rfl (cell_one_new _ _ _) (by simp [ptrE, Value.oneCell']) (by decide) (by unfold maxLen; omega) (by omega) (by simp; omega) _ rfl ?_))
          intro g1 cap1 w1 hown1 hgrow1 hat1 hlt1
          have P1 := hide (other_row o2.out HD.out hgrow1 hat1)
          have B1 := hide (below_append HB.out hltq o1.out (Nat.le_refl _) hgrow1)
          have hlt1' : w.heap.size < w1.heap.size := by have := B1.out.size; simp at this; omega
          have H1 := hide hown1
          clear hown1 hgrow1 hat1
          go_wp2_with (first | (at_builtin; refine wpList_append_lies _ rfl _ _ 118 rfl (w.heap.size + 1) 96 i0 (.pointer none) 1 8 underBunch hi hz0 hz1 hz2 rfl (by decide) _ _ _ rfl (P1.out.1.alloc _) ⟨w1.heap.size, 0, none⟩ 1 1 [ptrE ek] rfl rfl (cell_one_new _ _ _) (by simp [ptrE, Value.oneCell']) (by decide) (by unfold maxLen; omega) (by omega) (by simp; omega) _ rfl ?_))
          intro g2 cap2 w2 hown2 hgrow2 hat2 hlt2
          have P2 := hide (other_row (v1 := u5) H1.out (fun g h5 h1 => P1.out.2 (own_eq h1 h5)) hgrow2 hat2)
          have B2 := hide (below_append B1.out hlt1' P1.out.1 (Nat.le_refl _) hgrow2)
          have H2 := hide hown2
          clear hown2 hgrow2 hat2
          go_wp2
          go_roundw
          case rel => exact ⟨k + 1, by omega, by go_num, by rw [HT.out, lows_snoc, HL.out, if_pos b1]; exact row_snoc P2.out.1, by rw [HT.out, highs_snoc, HH.out, if_pos b2]; exact row_snoc H2.out, fun g h1 h2 => P2.out.2 (h1.trans h2.symm |>.trans (by rfl)), B2.out⟩
          case measure => simp [intOf]; omega
        · go_wp2_with (first | (at_builtin; refine wpList_append_lies _ rfl _ _ 118 rfl (w.heap.size + 1) 96 i0 (.pointer none) 1 8 underBunch hi hz0 hz1 hz2 rfl (by decide) _ _ _ rfl (o1.out.alloc _) ⟨wq.heap.size, 0, none⟩ 1 1 [ptrE ek] rfl rfl (cell_one_new _ _ _) (by simp [ptrE, Value.oneCell']) (by decide) (by unfold maxLen; omega) (by omega) (by simp; omega) _ rfl ?_))
          intro g1 cap1 w1 hown1 hgrow1 hat1 hlt1
          have P1 := hide (other_row o2.out HD.out hgrow1 hat1)
          have B1 := hide (below_append HB.out hltq o1.out (Nat.le_refl _) hgrow1)
          have H1 := hide hown1
          clear hown1 hgrow1 hat1
          go_wp2
          go_roundw
          case rel => exact ⟨k + 1, by omega, by go_num, by rw [HT.out, lows_snoc, HL.out, if_pos b1]; exact row_snoc H1.out, by rw [HT.out, highs_snoc, HH.out, if_neg (by omega), List.append_nil]; exact P1.out.1, fun g h1 h2 => P1.out.2 (h2.trans h1.symm |>.trans (by rfl)), B1.out⟩
          case measure => simp [intOf]; omega
      · by_cases b2 : last < ek.2.hi f
        · go_wp2_with (first | (at_builtin; refine wpList_append_lies _ rfl _ _ 118 rfl (w.heap.size + 1) 96 i0 (.pointer none) 1 8 underBunch hi hz0 hz1 hz2 rfl (by decide) _ _ _ rfl (o2.out.alloc _) ⟨wq.heap.size, 0, none⟩ 1 1 [ptrE ek] rfl rfl (cell_one_new _ _ _) (by simp [ptrE, Value.oneCell']) (by decide) (by unfold maxLen; omega) (by omega) (by simp; omega) _ rfl ?_))
          intro g1 cap1 w1 hown1 hgrow1 hat1 hlt1
          have P1 := hide (other_row o1.out (fun g h5 h1 => HD.out g h1 h5) hgrow1 hat1)
          have B1 := hide (below_append HB.out hltq o2.out (Nat.le_refl _) hgrow1)
          have H1 := hide hown1
          clear hown1 hgrow1 hat1
          go_wp2
          go_roundw
          case rel => exact ⟨k + 1, by omega, by go_num, by rw [HT.out, lows_snoc, HL.out, if_neg (by omega), List.append_nil]; exact P1.out.1, by rw [HT.out, highs_snoc, HH.out, if_pos b2]; exact row_snoc H1.out, fun g h1 h2 => P1.out.2 (h1.trans h2.symm |>.trans (by rfl)), B1.out⟩
          case measure => simp [intOf]; omega
        · go_wp2
          go_roundw
          case rel => exact ⟨k + 1, by omega, by go_num, by rw [HT.out, lows_snoc, HL.out, if_neg (by omega), List.append_nil]; exact o1.out, by rw [HT.out, highs_snoc, HH.out, if_neg (by omega), List.append_nil]; exact o2.out, HD.out, HB.out⟩
          case measure => simp [intOf]; omega
    · have hke : k = es.length := by omega
      have hent : ∀ e ∈ es, EntAt wr e.1 e.2 := fun e hm => (he e hm).below hbw (he e hm).lt
      have o1 := O1.out
      have o2 := O2.out
      rw [hke, List.take_length] at o1 o2
      have HO1 := hide (bunch_of_row o1 fun e hm => hent e (List.mem_filter.1 hm).1)
      have HO2 := hide (bunch_of_row o2 fun e hm => hent e (List.mem_filter.1 hm).1)
      clear hc he o1 o2 O1 O2 hent
      go_wp2
      go_ret2
      exact ⟨_, _, rfl, HO1.out, HO2.out, hbw⟩

end Go.Proofs.YtnjalelblbjfiaaGreatDoor

namespace Go.Proofs.YtnjalelblbjfiaaGreatDoor
open Go.RowKit

theorem buildEntry (id pr k0 v0 m0 k1 v1 m1 k2 v2 m2 k3 v3 m3 k4 v4 m4 ac po : Int) (w : World) : (Instr.build 125 #[(0, .agg #[.int .i64 id, .int .i64 pr, .int .i64 k0, .int .i64 v0, .int .i64 m0, .int .i64 k1, .int .i64 v1, .int .i64 m1, .int .i64 k2, .int .i64 v2, .int .i64 m2, .int .i64 k3, .int .i64 v3, .int .i64 m3, .int .i64 k4, .int .i64 v4, .int .i64 m4, .int .i64 ac, .int .i64 po])]).run Tryz.prog w = .ok (.agg #[.int .i64 id, .int .i64 pr, .int .i64 k0, .int .i64 v0, .int .i64 m0, .int .i64 k1, .int .i64 v1, .int .i64 m1, .int .i64 k2, .int .i64 v2, .int .i64 m2, .int .i64 k3, .int .i64 v3, .int .i64 m3, .int .i64 k4, .int .i64 v4, .int .i64 m4, .int .i64 ac, .int .i64 po, .int .i64 0, .int .i64 0, .int .i64 0, .int .i64 0, .int .i64 0, .int .i64 0, .int .i64 0, .int .i64 0, .int .i64 0, .int .i64 0]) w := by kernel_rfl
theorem isRow_of {P : Program} {t : TypeId} (h : (P.underlying t).any TypeDesc.isRow = true) : ∃ d, P.underlying t = some d ∧ d.isRow = true := by
  cases hd : P.underlying t with
  | none => rw [hd] at h; cases h
  | some d => rw [hd] at h; exact ⟨d, rfl, h⟩
theorem underRule : ∃ d, Tryz.prog.underlying 37 = some d ∧ d.isRow = true := isRow_of (by kernel_rfl)
theorem underMatch5 : ∃ d, Tryz.prog.underlying 35 = some d ∧ d.isRow = true := isRow_of (by kernel_rfl)
theorem sizeRule : (Tryz.prog.info? 37).map (·.size) = some 19 := by kernel_rfl
theorem sizeMatch5 : (Tryz.prog.info? 35).map (·.size) = some 15 := by kernel_rfl
theorem range_new (w : World) (cs : Array Value) (t : TypeId) : (w.alloc (.cells cs t)).rangeAt w.heap.size 0 cs.toList := fun j v hv => by
  rw [Nat.zero_add, World.cell?_alloc_new]; simpa using hv

theorem set_same {w : World} {b i : Nat} {u v : Value} (h : w.cell? ⟨b, i, none⟩ = some u) : (w.setCell ⟨b, i, none⟩ v).cell? ⟨b, i, none⟩ = some v := World.cell?_setCell_same _ _ _ h
theorem set_other {w : World} {b i b' i' : Nat} {v : Value} (h : b ≠ b' ∨ i ≠ i') : (w.setCell ⟨b, i, none⟩ v).cell? ⟨b', i', none⟩ = w.cell? ⟨b', i', none⟩ :=
  World.cell?_setCell_other _ _ _ _ (by simp; omega)

/-- Block e is becoming the entry of rule r: the hulls of the first k fields are laid. -/
def EP (w : World) (e k : Nat) (r : Rl) : Prop :=
  e < w.heap.size ∧ (∀ j, w.frozen? ⟨e, j, none⟩ = false) ∧ (∀ j, j < 19 → w.cell? ⟨e, j, none⟩ = r.ecells[j]?) ∧ (∀ j, j < k → w.cell? ⟨e, 19 + j * 2, none⟩ = some (.int .i64 (r.lo j)) ∧ w.cell? ⟨e, 19 + j * 2 + 1, none⟩ = some (.int .i64 (r.hi j))) ∧ (∀ j, j < 29 → ∃ v, w.cell? ⟨e, j, none⟩ = some v) ∧ w.cell? ⟨e, 29, none⟩ = none

theorem EP.below {B : Nat} {w w' : World} {e k : Nat} {r : Rl} (h : EP w e k r) (hb : Below B w w') (hB : e < B) : EP w' e k r := by
  have hc : ∀ j, w'.cell? ⟨e, j, none⟩ = w.cell? ⟨e, j, none⟩ := fun j => hb.cell (p := ⟨e, j, none⟩) hB
  have hf : ∀ j, w'.frozen? ⟨e, j, none⟩ = w.frozen? ⟨e, j, none⟩ := fun j => hb.frozen (p := ⟨e, j, none⟩) hB
  refine ⟨Nat.lt_of_lt_of_le h.1 hb.size, fun j => (hf j).trans (h.2.1 j), fun j hj => (hc j).trans (h.2.2.1 j hj), fun j hj => ?_, fun j hj => ?_, (hc 29).trans h.2.2.2.2.2⟩
  · rw [hc, hc]; exact h.2.2.2.1 j hj
  · rw [hc]; exact h.2.2.2.2.1 j hj

theorem EP.set {w : World} {e k : Nat} {r : Rl} (h : EP w e k r) (hk : k < 5) :
    EP ((w.setCell ⟨e, 19 + k * 2, none⟩ (.int .i64 (r.lo k))).setCell ⟨e, 19 + k * 2 + 1, none⟩ (.int .i64 (r.hi k))) e (k + 1) r := by
  obtain ⟨h1, h2, h3, h4, h5, h6⟩ := h
  have other : ∀ j, j ≠ 19 + k * 2 → j ≠ 19 + k * 2 + 1 → ((w.setCell ⟨e, 19 + k * 2, none⟩ (.int .i64 (r.lo k))).setCell ⟨e, 19 + k * 2 + 1, none⟩ (.int .i64 (r.hi k))).cell? ⟨e, j, none⟩ = w.cell? ⟨e, j, none⟩ := by
    intro j hj1 hj2
    rw [set_other (.inr (by omega)), set_other (.inr (by omega))]
  obtain ⟨u0, hu0⟩ := h5 (19 + k * 2) (by omega)
  obtain ⟨u1, hu1⟩ := h5 (19 + k * 2 + 1) (by omega)
  have s1 : ((w.setCell ⟨e, 19 + k * 2, none⟩ (.int .i64 (r.lo k))).setCell ⟨e, 19 + k * 2 + 1, none⟩ (.int .i64 (r.hi k))).cell? ⟨e, 19 + k * 2 + 1, none⟩ = some (.int .i64 (r.hi k)) :=
    set_same (u := u1) (by rw [set_other (.inr (by omega))]; exact hu1)
  have s0 : ((w.setCell ⟨e, 19 + k * 2, none⟩ (.int .i64 (r.lo k))).setCell ⟨e, 19 + k * 2 + 1, none⟩ (.int .i64 (r.hi k))).cell? ⟨e, 19 + k * 2, none⟩ = some (.int .i64 (r.lo k)) := by
    rw [set_other (.inr (by omega))]
    exact set_same hu0
  refine ⟨by simpa using h1, fun j => by simpa using h2 j, fun j hj => (other j (by omega) (by omega)).trans (h3 j hj), fun j hj => ?_, fun j hj => ?_, (other 29 (by omega) (by omega)).trans h6⟩
  · by_cases hjk : j = k
    · subst hjk; exact ⟨s0, s1⟩
    · rw [other _ (by omega) (by omega), other _ (by omega) (by omega)]
      exact h4 j (by omega)
  · by_cases e0 : j = 19 + k * 2
    · subst e0; exact ⟨_, s0⟩
    · by_cases e1 : j = 19 + k * 2 + 1
      · subst e1; exact ⟨_, s1⟩
      · rw [other j e0 e1]; exact h5 j hj

theorem EP.done {w : World} {e : Nat} {r : Rl} (h : EP w e 5 r) : EntAt w e r := by
  intro i hi
  by_cases h19 : i < 19
  · exact h.2.2.1 i h19
  · have h0 := h.2.2.2.1 0 (by omega)
    have h1 := h.2.2.2.1 1 (by omega)
    have h2 := h.2.2.2.1 2 (by omega)
    have h3 := h.2.2.2.1 3 (by omega)
    have h4 := h.2.2.2.1 4 (by omega)
    obtain ⟨j, rfl⟩ : ∃ j, i = 19 + j := ⟨i - 19, by omega⟩
    have hj : j < 11 := by omega
    match j, hj with
    | 0, _ => exact h0.1
    | 1, _ => exact h0.2
    | 2, _ => exact h1.1
    | 3, _ => exact h1.2
    | 4, _ => exact h2.1
    | 5, _ => exact h2.2
    | 6, _ => exact h3.1
    | 7, _ => exact h3.2
    | 8, _ => exact h4.1
    | 9, _ => exact h4.2
    | 10, _ => exact h.2.2.2.2.2

theorem EP.start (w : World) (r : Rl) (o : Obj) : EP ((w.alloc o).alloc (.cells #[.int .i64 r.id, .int .i64 r.pr, .int .i64 r.k0, .int .i64 r.v0, .int .i64 r.m0, .int .i64 r.k1, .int .i64 r.v1, .int .i64 r.m1, .int .i64 r.k2, .int .i64 r.v2, .int .i64 r.m2, .int .i64 r.k3, .int .i64 r.v3, .int .i64 r.m3, .int .i64 r.k4, .int .i64 r.v4, .int .i64 r.m4, .int .i64 r.ac, .int .i64 r.po, .int .i64 0, .int .i64 0, .int .i64 0, .int .i64 0, .int .i64 0, .int .i64 0, .int .i64 0, .int .i64 0, .int .i64 0, .int .i64 0] 125)) (w.heap.size + 1) 0 r := by
  have hc : ∀ j, ((w.alloc o).alloc (.cells #[.int .i64 r.id, .int .i64 r.pr, .int .i64 r.k0, .int .i64 r.v0, .int .i64 r.m0, .int .i64 r.k1, .int .i64 r.v1, .int .i64 r.m1, .int .i64 r.k2, .int .i64 r.v2, .int .i64 r.m2, .int .i64 r.k3, .int .i64 r.v3, .int .i64 r.m3, .int .i64 r.k4, .int .i64 r.v4, .int .i64 r.m4, .int .i64 r.ac, .int .i64 r.po, .int .i64 0, .int .i64 0, .int .i64 0, .int .i64 0, .int .i64 0, .int .i64 0, .int .i64 0, .int .i64 0, .int .i64 0, .int .i64 0] 125)).cell? ⟨w.heap.size + 1, j, none⟩ = (#[.int .i64 r.id, .int .i64 r.pr, .int .i64 r.k0, .int .i64 r.v0, .int .i64 r.m0, .int .i64 r.k1, .int .i64 r.v1, .int .i64 r.m1, .int .i64 r.k2, .int .i64 r.v2, .int .i64 r.m2, .int .i64 r.k3, .int .i64 r.v3, .int .i64 r.m3, .int .i64 r.k4, .int .i64 r.v4, .int .i64 r.m4, .int .i64 r.ac, .int .i64 r.po, .int .i64 0, .int .i64 0, .int .i64 0, .int .i64 0, .int .i64 0, .int .i64 0, .int .i64 0, .int .i64 0, .int .i64 0, .int .i64 0] : Array Value)[j]? := fun j => World.cell?_alloc_at _ _ _ _ (by simp)
  refine ⟨by simp, fun j => World.frozen?_alloc_at _ _ _ _ (by simp), fun j hj => ?_, fun j hj => by omega, fun j hj => ?_, by rw [hc]; rfl⟩
  · rw [hc]
    match j, hj with
    | 0, _ => exact rfl
    | 1, _ => exact rfl
    | 2, _ => exact rfl
    | 3, _ => exact rfl
    | 4, _ => exact rfl
    | 5, _ => exact rfl
    | 6, _ => exact rfl
    | 7, _ => exact rfl
    | 8, _ => exact rfl
    | 9, _ => exact rfl
    | 10, _ => exact rfl
    | 11, _ => exact rfl
    | 12, _ => exact rfl
    | 13, _ => exact rfl
    | 14, _ => exact rfl
    | 15, _ => exact rfl
    | 16, _ => exact rfl
    | 17, _ => exact rfl
    | 18, _ => exact rfl
    | n + 19, h => exact absurd h (by omega)
  · rw [hc]
    exact ⟨_, Array.getElem?_eq_getElem (by simpa using hj)⟩

end Go.Proofs.YtnjalelblbjfiaaGreatDoor
