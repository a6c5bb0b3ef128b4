import Derived.Test.YtnjalelblbjfiaaGreatDoorP5
import Derived.Deep.RegionHeld3
namespace Go.Proofs.YtnjalelblbjfiaaGreatDoor
open Go.RowKit

attribute [local go_sem] ixM0 ixM1 ixM2 ixM3 ixM4
attribute [local go_sem ↓] buildEntry

set_option maxRecDepth 100000 in
set_option maxHeartbeats 1600000 in
theorem entryOf_walk (r : Rl) (w : World) (hl : Laid w) :
    Calls Tryz.prog 40 #[.agg #[.int .i64 r.id, .int .i64 r.pr, .int .i64 r.k0, .int .i64 r.v0, .int .i64 r.m0, .int .i64 r.k1, .int .i64 r.v1, .int .i64 r.m1, .int .i64 r.k2, .int .i64 r.v2, .int .i64 r.m2, .int .i64 r.k3, .int .i64 r.v3, .int .i64 r.m3, .int .i64 r.k4, .int .i64 r.v4, .int .i64 r.m4, .int .i64 r.ac, .int .i64 r.po]] w fun e w' => e = .returned (.pointer (some ⟨w.heap.size + 1, 0, none⟩)) ∧ EntAt w' (w.heap.size + 1) r ∧ Below w.heap.size w w' := by
  obtain ⟨dr, hur, hdr⟩ := underRule
  obtain ⟨dm, hum, hdm⟩ := underMatch5
  have hE0 := hide (EP.start w r (.cells #[.int .i64 r.id, .int .i64 r.pr, .int .i64 r.k0, .int .i64 r.v0, .int .i64 r.m0, .int .i64 r.k1, .int .i64 r.v1, .int .i64 r.m1, .int .i64 r.k2, .int .i64 r.v2, .int .i64 r.m2, .int .i64 r.k3, .int .i64 r.v3, .int .i64 r.m3, .int .i64 r.k4, .int .i64 r.v4, .int .i64 r.m4, .int .i64 r.ac, .int .i64 r.po] 37))
  have hM : ((w.alloc (.cells #[.int .i64 r.id, .int .i64 r.pr, .int .i64 r.k0, .int .i64 r.v0, .int .i64 r.m0, .int .i64 r.k1, .int .i64 r.v1, .int .i64 r.m1, .int .i64 r.k2, .int .i64 r.v2, .int .i64 r.m2, .int .i64 r.k3, .int .i64 r.v3, .int .i64 r.m3, .int .i64 r.k4, .int .i64 r.v4, .int .i64 r.m4, .int .i64 r.ac, .int .i64 r.po] 37)).alloc (.cells #[.int .i64 r.id, .int .i64 r.pr, .int .i64 r.k0, .int .i64 r.v0, .int .i64 r.m0, .int .i64 r.k1, .int .i64 r.v1, .int .i64 r.m1, .int .i64 r.k2, .int .i64 r.v2, .int .i64 r.m2, .int .i64 r.k3, .int .i64 r.v3, .int .i64 r.m3, .int .i64 r.k4, .int .i64 r.v4, .int .i64 r.m4, .int .i64 r.ac, .int .i64 r.po, .int .i64 0, .int .i64 0, .int .i64 0, .int .i64 0, .int .i64 0, .int .i64 0, .int .i64 0, .int .i64 0, .int .i64 0, .int .i64 0] 125)).rangeAt w.heap.size 2 [.int .i64 r.k0, .int .i64 r.v0, .int .i64 r.m0, .int .i64 r.k1, .int .i64 r.v1, .int .i64 r.m1, .int .i64 r.k2, .int .i64 r.v2, .int .i64 r.m2, .int .i64 r.k3, .int .i64 r.v3, .int .i64 r.m3, .int .i64 r.k4, .int .i64 r.v4, .int .i64 r.m4] := World.rangeAt_alloc (fun j v hv => by
    rw [World.cell?_alloc_new]
    have hj : j < 15 := by
      rcases Nat.lt_or_ge j 15 with h | h
      · exact h
      · rw [List.getElem?_eq_none (by simpa using h)] at hv; cases hv
    match j, hj with
    | 0, _ => exact hv
    | 1, _ => exact hv
    | 2, _ => exact hv
    | 3, _ => exact hv
    | 4, _ => exact hv
    | 5, _ => exact hv
    | 6, _ => exact hv
    | 7, _ => exact hv
    | 8, _ => exact hv
    | 9, _ => exact hv
    | 10, _ => exact hv
    | 11, _ => exact hv
    | 12, _ => exact hv
    | 13, _ => exact hv
    | 14, _ => exact hv
    | n + 15, h => exact absurd h (by omega)) _
  have HM := hide hM
  clear hM
  go_enter Tryz.func40, Tryz.ntmps40
  go_wp2_with (first | (refine wpList_load_mid rfl 37 _ rfl w.heap.size 0 rfl [.int .i64 r.id, .int .i64 r.pr, .int .i64 r.k0, .int .i64 r.v0, .int .i64 r.m0, .int .i64 r.k1, .int .i64 r.v1, .int .i64 r.m1, .int .i64 r.k2, .int .i64 r.v2, .int .i64 r.m2, .int .i64 r.k3, .int .i64 r.v3, .int .i64 r.m3, .int .i64 r.k4, .int .i64 r.v4, .int .i64 r.m4, .int .i64 r.ac, .int .i64 r.po] dr (range_new _ _ _) hur hdr sizeRule ?_) | (refine wpList_load_mid rfl 35 _ rfl w.heap.size 2 rfl [.int .i64 r.k0, .int .i64 r.v0, .int .i64 r.m0, .int .i64 r.k1, .int .i64 r.v1, .int .i64 r.m1, .int .i64 r.k2, .int .i64 r.v2, .int .i64 r.m2, .int .i64 r.k3, .int .i64 r.v3, .int .i64 r.m3, .int .i64 r.k4, .int .i64 r.v4, .int .i64 r.m4] dm HM.out hum hdm sizeMatch5 ?_))
  go_loopw [11] (fun i wr => ∃ k : Nat, k ≤ 5 ∧ i = .int .i64 k ∧ Below w.heap.size w wr ∧ EP wr (w.heap.size + 1) k r) (fun i _ => 5 - (intOf i).toNat)
  case atStart => exact ⟨0, by omega, rfl, (by repeat (first | exact Below.refl _ _ | assumption | refine Below.drewN ?_ | refine Below.drew ?_ | refine Below.setCell ?_ (by first | exact Nat.le_refl _ | omega | (simp; done) | (simp; omega)) _ | refine Below.alloc ?_ (by first | exact Nat.le_refl _ | omega | (simp; done) | (simp; omega)) _)), hE0.out⟩
  case round =>
    obtain ⟨k, hk, rfl, hb, hep⟩ := hrel
    obtain ⟨g0, g1, g2, g3, g4, g5, g6, g7, g8, g9, g10, g11, g12, g13, g14⟩ := hl.below hb hl.pos
    have hlen := Nat.lt_of_lt_of_le hl.pos hb.size
    have hp := hl.pos
    have hltE := hep.1
    have hlt0 : w.heap.size < wr.heap.size := by omega
    have hne1 : ¬ wr.heap.size = w.heap.size + 1 := by omega
    have hne2 : ¬ w.heap.size + 1 = wr.heap.size := by omega
    clear hl hur hdr hum hdm HM hE0
    match k, hk with
    | 0, _ =>
      have hfz0 := hep.2.1 19
      have hfz1 := hep.2.1 20
      obtain ⟨z0, hz0⟩ := hep.2.2.2.2.1 19 (by omega)
      obtain ⟨z1, hz1⟩ := hep.2.2.2.2.1 20 (by omega)
      have HE := hide hep
      clear hep
      go_wp2_with fail
      go_region_held3 (fun w' => w'.cell? ⟨wr.heap.size, 0, none⟩ = some (.int .i64 r.k0) ∧ w'.cell? ⟨wr.heap.size, 1, none⟩ = some (.int .i64 r.v0) ∧ w'.cell? ⟨wr.heap.size, 2, none⟩ = some (.int .i64 r.m0) ∧ w'.cell? ⟨0, 0, none⟩ = some (.int .i64 32) ∧ w'.cell? ⟨0, 1, none⟩ = some (.int .i64 0) ∧ w'.cell? ⟨0, 2, none⟩ = some (.int .i64 4294967295)) (go_keep)
        (first | (go_at_call 90; refine (hullOf_any _ _ _ _ _ _ _).mono ?_; rintro e w' ⟨rfl, hbb⟩; obtain ⟨hcb, hfb⟩ := bcell hbb))
      have E1 := ((HE.out.below ((Below.refl wr.heap.size wr).alloc (Nat.le_refl _) _).drew hltE).below hbb (by simp; omega)).set (k := 0) (by omega)
      have B1 : Below w.heap.size w _ := Below.setCell (Below.setCell (hb.trans (Below.trans ((Below.refl _ _).alloc hb.size _).drew (hbb.mono (by have := hb.size; simp; omega)))) (p := ⟨w.heap.size + 1, 19, none⟩) (by simp) (.int .i64 r.v0)) (p := ⟨w.heap.size + 1, 20, none⟩) (by simp) (.int .i64 (topB r.k0 r.v0 r.m0 4294967295))
      have HE1 := hide E1
      have HB1 := hide B1
      clear E1 B1 hcb hfb hbb
      go_wp2
      go_roundw
      case rel => exact ⟨1, by omega, rfl, HB1.out, HE1.out⟩
      case measure => simp [intOf]
    | 1, _ =>
      have hfz0 := hep.2.1 21
      have hfz1 := hep.2.1 22
      obtain ⟨z0, hz0⟩ := hep.2.2.2.2.1 21 (by omega)
      obtain ⟨z1, hz1⟩ := hep.2.2.2.2.1 22 (by omega)
      have HE := hide hep
      clear hep
      go_wp2_with fail
      go_region_held3 (fun w' => w'.cell? ⟨wr.heap.size, 0, none⟩ = some (.int .i64 r.k1) ∧ w'.cell? ⟨wr.heap.size, 1, none⟩ = some (.int .i64 r.v1) ∧ w'.cell? ⟨wr.heap.size, 2, none⟩ = some (.int .i64 r.m1) ∧ w'.cell? ⟨0, 3, none⟩ = some (.int .i64 32) ∧ w'.cell? ⟨0, 4, none⟩ = some (.int .i64 0) ∧ w'.cell? ⟨0, 5, none⟩ = some (.int .i64 4294967295)) (go_keep)
        (first | (go_at_call 90; refine (hullOf_any _ _ _ _ _ _ _).mono ?_; rintro e w' ⟨rfl, hbb⟩; obtain ⟨hcb, hfb⟩ := bcell hbb))
      have E1 := ((HE.out.below ((Below.refl wr.heap.size wr).alloc (Nat.le_refl _) _).drew hltE).below hbb (by simp; omega)).set (k := 1) (by omega)
      have B1 : Below w.heap.size w _ := Below.setCell (Below.setCell (hb.trans (Below.trans ((Below.refl _ _).alloc hb.size _).drew (hbb.mono (by have := hb.size; simp; omega)))) (p := ⟨w.heap.size + 1, 21, none⟩) (by simp) (.int .i64 r.v1)) (p := ⟨w.heap.size + 1, 22, none⟩) (by simp) (.int .i64 (topB r.k1 r.v1 r.m1 4294967295))
      have HE1 := hide E1
      have HB1 := hide B1
      clear E1 B1 hcb hfb hbb
      go_wp2
      go_roundw
      case rel => exact ⟨2, by omega, rfl, HB1.out, HE1.out⟩
      case measure => simp [intOf]
    | 2, _ =>
      have hfz0 := hep.2.1 23
      have hfz1 := hep.2.1 24
      obtain ⟨z0, hz0⟩ := hep.2.2.2.2.1 23 (by omega)
      obtain ⟨z1, hz1⟩ := hep.2.2.2.2.1 24 (by omega)
      have HE := hide hep
      clear hep
      go_wp2_with fail
      go_region_held3 (fun w' => w'.cell? ⟨wr.heap.size, 0, none⟩ = some (.int .i64 r.k2) ∧ w'.cell? ⟨wr.heap.size, 1, none⟩ = some (.int .i64 r.v2) ∧ w'.cell? ⟨wr.heap.size, 2, none⟩ = some (.int .i64 r.m2) ∧ w'.cell? ⟨0, 6, none⟩ = some (.int .i64 8) ∧ w'.cell? ⟨0, 7, none⟩ = some (.int .i64 0) ∧ w'.cell? ⟨0, 8, none⟩ = some (.int .i64 255)) (go_keep)
        (first | (go_at_call 90; refine (hullOf_any _ _ _ _ _ _ _).mono ?_; rintro e w' ⟨rfl, hbb⟩; obtain ⟨hcb, hfb⟩ := bcell hbb))
      have E1 := ((HE.out.below ((Below.refl wr.heap.size wr).alloc (Nat.le_refl _) _).drew hltE).below hbb (by simp; omega)).set (k := 2) (by omega)
      have B1 : Below w.heap.size w _ := Below.setCell (Below.setCell (hb.trans (Below.trans ((Below.refl _ _).alloc hb.size _).drew (hbb.mono (by have := hb.size; simp; omega)))) (p := ⟨w.heap.size + 1, 23, none⟩) (by simp) (.int .i64 r.v2)) (p := ⟨w.heap.size + 1, 24, none⟩) (by simp) (.int .i64 (topB r.k2 r.v2 r.m2 255))
      have HE1 := hide E1
      have HB1 := hide B1
      clear E1 B1 hcb hfb hbb
      go_wp2
      go_roundw
      case rel => exact ⟨3, by omega, rfl, HB1.out, HE1.out⟩
      case measure => simp [intOf]
    | 3, _ =>
      have hfz0 := hep.2.1 25
      have hfz1 := hep.2.1 26
      obtain ⟨z0, hz0⟩ := hep.2.2.2.2.1 25 (by omega)
      obtain ⟨z1, hz1⟩ := hep.2.2.2.2.1 26 (by omega)
      have HE := hide hep
      clear hep
      go_wp2_with fail
      go_region_held3 (fun w' => w'.cell? ⟨wr.heap.size, 0, none⟩ = some (.int .i64 r.k3) ∧ w'.cell? ⟨wr.heap.size, 1, none⟩ = some (.int .i64 r.v3) ∧ w'.cell? ⟨wr.heap.size, 2, none⟩ = some (.int .i64 r.m3) ∧ w'.cell? ⟨0, 9, none⟩ = some (.int .i64 16) ∧ w'.cell? ⟨0, 10, none⟩ = some (.int .i64 0) ∧ w'.cell? ⟨0, 11, none⟩ = some (.int .i64 65535)) (go_keep)
        (first | (go_at_call 90; refine (hullOf_any _ _ _ _ _ _ _).mono ?_; rintro e w' ⟨rfl, hbb⟩; obtain ⟨hcb, hfb⟩ := bcell hbb))
      have E1 := ((HE.out.below ((Below.refl wr.heap.size wr).alloc (Nat.le_refl _) _).drew hltE).below hbb (by simp; omega)).set (k := 3) (by omega)
      have B1 : Below w.heap.size w _ := Below.setCell (Below.setCell (hb.trans (Below.trans ((Below.refl _ _).alloc hb.size _).drew (hbb.mono (by have := hb.size; simp; omega)))) (p := ⟨w.heap.size + 1, 25, none⟩) (by simp) (.int .i64 r.v3)) (p := ⟨w.heap.size + 1, 26, none⟩) (by simp) (.int .i64 (topB r.k3 r.v3 r.m3 65535))
      have HE1 := hide E1
      have HB1 := hide B1
      clear E1 B1 hcb hfb hbb
      go_wp2
      go_roundw
      case rel => exact ⟨4, by omega, rfl, HB1.out, HE1.out⟩
      case measure => simp [intOf]
    | 4, _ =>
      have hfz0 := hep.2.1 27
      have hfz1 := hep.2.1 28
      obtain ⟨z0, hz0⟩ := hep.2.2.2.2.1 27 (by omega)
      obtain ⟨z1, hz1⟩ := hep.2.2.2.2.1 28 (by omega)
      have HE := hide hep
      clear hep
      go_wp2_with fail
      go_region_held3 (fun w' => w'.cell? ⟨wr.heap.size, 0, none⟩ = some (.int .i64 r.k4) ∧ w'.cell? ⟨wr.heap.size, 1, none⟩ = some (.int .i64 r.v4) ∧ w'.cell? ⟨wr.heap.size, 2, none⟩ = some (.int .i64 r.m4) ∧ w'.cell? ⟨0, 12, none⟩ = some (.int .i64 16) ∧ w'.cell? ⟨0, 13, none⟩ = some (.int .i64 0) ∧ w'.cell? ⟨0, 14, none⟩ = some (.int .i64 65535)) (go_keep)
        (first | (go_at_call 90; refine (hullOf_any _ _ _ _ _ _ _).mono ?_; rintro e w' ⟨rfl, hbb⟩; obtain ⟨hcb, hfb⟩ := bcell hbb))
      have E1 := ((HE.out.below ((Below.refl wr.heap.size wr).alloc (Nat.le_refl _) _).drew hltE).below hbb (by simp; omega)).set (k := 4) (by omega)
      have B1 : Below w.heap.size w _ := Below.setCell (Below.setCell (hb.trans (Below.trans ((Below.refl _ _).alloc hb.size _).drew (hbb.mono (by have := hb.size; simp; omega)))) (p := ⟨w.heap.size + 1, 27, none⟩) (by simp) (.int .i64 r.v4)) (p := ⟨w.heap.size + 1, 28, none⟩) (by simp) (.int .i64 (topB r.k4 r.v4 r.m4 65535))
      have HE1 := hide E1
      have HB1 := hide B1
      clear E1 B1 hcb hfb hbb
      go_wp2
      go_roundw
      case rel => exact ⟨5, by omega, rfl, HB1.out, HE1.out⟩
      case measure => simp [intOf]
    | 5, _ =>
      have HE := hide hep
      clear hep
      go_wp2
      go_ret
      exact ⟨rfl, HE.out.done, hb⟩

end Go.Proofs.YtnjalelblbjfiaaGreatDoor
