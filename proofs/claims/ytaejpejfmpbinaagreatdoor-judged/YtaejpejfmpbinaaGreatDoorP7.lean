import Derived.Test.YtaejpejfmpbinaaGreatDoorP6
import Derived.Deep.RegionHeld3
import Derived.Maps.OwnSet
import Derived.RangeFuncNested
namespace Go.Proofs.YtaejpejfmpbinaaGreatDoor
open Go.RowKit

attribute [local go_sem] ixM0 ixM1 ixM2 ixM3 ixM4
attribute [local go_sem ↓] buildEntry

set_option maxRecDepth 100000 in
set_option maxHeartbeats 1600000 in
theorem entryOf_walk (r : Rl) (w : World) (hl : Laid w) :
    Calls Tryz.prog 83 #[.agg #[.int .i64 r.id, .int .i64 r.pr, .int .i64 r.k0, .int .i64 r.v0, .int .i64 r.m0, .int .i64 r.k1, .int .i64 r.v1, .int .i64 r.m1, .int .i64 r.k2, .int .i64 r.v2, .int .i64 r.m2, .int .i64 r.k3, .int .i64 r.v3, .int .i64 r.m3, .int .i64 r.k4, .int .i64 r.v4, .int .i64 r.m4, .int .i64 r.ac, .int .i64 r.po]] w fun e w' => e = .returned (.pointer (some ⟨w.heap.size + 1, 0, none⟩)) ∧ EntAt w' (w.heap.size + 1) r ∧ Below w.heap.size w w' := by
  obtain ⟨dr, hur, hdr⟩ := underRule
  obtain ⟨dm, hum, hdm⟩ := underMatch5
  have hE0 := hide (EP.start w r (.cells #[.int .i64 r.id, .int .i64 r.pr, .int .i64 r.k0, .int .i64 r.v0, .int .i64 r.m0, .int .i64 r.k1, .int .i64 r.v1, .int .i64 r.m1, .int .i64 r.k2, .int .i64 r.v2, .int .i64 r.m2, .int .i64 r.k3, .int .i64 r.v3, .int .i64 r.m3, .int .i64 r.k4, .int .i64 r.v4, .int .i64 r.m4, .int .i64 r.ac, .int .i64 r.po] 53))
  have hM : ((w.alloc (.cells #[.int .i64 r.id, .int .i64 r.pr, .int .i64 r.k0, .int .i64 r.v0, .int .i64 r.m0, .int .i64 r.k1, .int .i64 r.v1, .int .i64 r.m1, .int .i64 r.k2, .int .i64 r.v2, .int .i64 r.m2, .int .i64 r.k3, .int .i64 r.v3, .int .i64 r.m3, .int .i64 r.k4, .int .i64 r.v4, .int .i64 r.m4, .int .i64 r.ac, .int .i64 r.po] 53)).alloc (.cells #[.int .i64 r.id, .int .i64 r.pr, .int .i64 r.k0, .int .i64 r.v0, .int .i64 r.m0, .int .i64 r.k1, .int .i64 r.v1, .int .i64 r.m1, .int .i64 r.k2, .int .i64 r.v2, .int .i64 r.m2, .int .i64 r.k3, .int .i64 r.v3, .int .i64 r.m3, .int .i64 r.k4, .int .i64 r.v4, .int .i64 r.m4, .int .i64 r.ac, .int .i64 r.po, .int .i64 0, .int .i64 0, .int .i64 0, .int .i64 0, .int .i64 0, .int .i64 0, .int .i64 0, .int .i64 0, .int .i64 0, .int .i64 0] 185)).rangeAt w.heap.size 2 [.int .i64 r.k0, .int .i64 r.v0, .int .i64 r.m0, .int .i64 r.k1, .int .i64 r.v1, .int .i64 r.m1, .int .i64 r.k2, .int .i64 r.v2, .int .i64 r.m2, .int .i64 r.k3, .int .i64 r.v3, .int .i64 r.m3, .int .i64 r.k4, .int .i64 r.v4, .int .i64 r.m4] := World.rangeAt_alloc (fun j v hv => by
    rw [World.cell?_alloc_new]
    have hj : j < 15 := by
      rcases Nat.lt_or_ge j 15 with h | h
      · exact h
      · rw [List.getElem?_eq_none (by simpa using h)] at hv; cases hv
    match j, hj with
    | 0, _ => exact hv
    | 1, _ => exact hv
    | 2, _ => exact hv
    | 3, _ => exact hv
    | 4, _ => exact hv
    | 5, _ => exact hv
    | 6, _ => exact hv
    | 7, _ => exact hv
    | 8, _ => exact hv
    | 9, _ => exact hv
    | 10, _ => exact hv
    | 11, _ => exact hv
    | 12, _ => exact hv
    | 13, _ => exact hv
    | 14, _ => exact hv
    | n + 15, h => exact absurd h (by omega)) _
  have HM := hide hM
  clear hM
  go_enter Tryz.func83, Tryz.ntmps83
  go_wp2_with (first | (refine wpList_load_mid rfl 53 _ rfl w.heap.size 0 rfl [.int .i64 r.id, .int .i64 r.pr, .int .i64 r.k0, .int .i64 r.v0, .int .i64 r.m0, .int .i64 r.k1, .int .i64 r.v1, .int .i64 r.m1, .int .i64 r.k2, .int .i64 r.v2, .int .i64 r.m2, .int .i64 r.k3, .int .i64 r.v3, .int .i64 r.m3, .int .i64 r.k4, .int .i64 r.v4, .int .i64 r.m4, .int .i64 r.ac, .int .i64 r.po] dr (range_new _ _ _) hur hdr sizeRule ?_) | (refine wpList_load_mid rfl 51 _ rfl w.heap.size 2 rfl [.int .i64 r.k0, .int .i64 r.v0, .int .i64 r.m0, .int .i64 r.k1, .int .i64 r.v1, .int .i64 r.m1, .int .i64 r.k2, .int .i64 r.v2, .int .i64 r.m2, .int .i64 r.k3, .int .i64 r.v3, .int .i64 r.m3, .int .i64 r.k4, .int .i64 r.v4, .int .i64 r.m4] dm HM.out hum hdm sizeMatch5 ?_))
  go_loopw [11] (fun i wr => ∃ k : Nat, k ≤ 5 ∧ i = .int .i64 k ∧ Below w.heap.size w wr ∧ EP wr (w.heap.size + 1) k r) (fun i _ => 5 - (intOf i).toNat)
  case atStart => exact ⟨0, by omega, rfl, (by repeat (first | exact Below.refl _ _ | assumption | refine Below.drewN ?_ | refine Below.drew ?_ | refine Below.setCell ?_ (by first | exact Nat.le_refl _ | omega | (simp; done) | (simp; omega)) _ | refine Below.alloc ?_ (by first | exact Nat.le_refl _ | omega | (simp; done) | (simp; omega)) _)), hE0.out⟩
  case round =>
    obtain ⟨k, hk, rfl, hb, hep⟩ := hrel
    obtain ⟨g0, g1, g2, g3, g4, g5, g6, g7, g8, g9, g10, g11, g12, g13, g14⟩ := hl.below hb hl.pos
    have hlen := Nat.lt_of_lt_of_le hl.pos hb.size
    have hp := hl.pos
    have hltE := hep.1
    have hlt0 : w.heap.size < wr.heap.size := by omega
    have hne1 : ¬ wr.heap.size = w.heap.size + 1 := by omega
    have hne2 : ¬ w.heap.size + 1 = wr.heap.size := by omega
    clear hl hur hdr hum hdm HM hE0
    match k, hk with
    | 0, _ =>
      have hfz0 := hep.2.1 19
      have hfz1 := hep.2.1 20
      obtain ⟨z0, hz0⟩ := hep.2.2.2.2.1 19 (by omega)
      obtain ⟨z1, hz1⟩ := hep.2.2.2.2.1 20 (by omega)
      have HE := hide hep
      clear hep
      go_wp2_with fail
      go_region_held3 (fun w' => w'.cell? ⟨wr.heap.size, 0, none⟩ = some (.int .i64 r.k0) ∧ w'.cell? ⟨wr.heap.size, 1, none⟩ = some (.int .i64 r.v0) ∧ w'.cell? ⟨wr.heap.size, 2, none⟩ = some (.int .i64 r.m0) ∧ w'.cell? ⟨0, 0, none⟩ = some (.int .i64 32) ∧ w'.cell? ⟨0, 1, none⟩ = some (.int .i64 0) ∧ w'.cell? ⟨0, 2, none⟩ = some (.int .i64 4294967295)) (go_keep)
        (first | (go_at_call 125; refine (hullOf_any _ _ _ _ _ _ _).mono ?_; rintro e w' ⟨rfl, hbb⟩; obtain ⟨hcb, hfb⟩ := bcell hbb))
      have E1 := ((HE.out.below ((Below.refl wr.heap.size wr).alloc (Nat.le_refl _) _).drew hltE).below hbb (by simp; omega)).set (k := 0) (by omega)
      have B1 : Below w.heap.size w _ := Below.setCell (Below.setCell (hb.trans (Below.trans ((Below.refl _ _).alloc hb.size _).drew (hbb.mono (by have := hb.size; simp; omega)))) (p := ⟨w.heap.size + 1, 19, none⟩) (by simp) (.int .i64 r.v0)) (p := ⟨w.heap.size + 1, 20, none⟩) (by simp) (.int .i64 (topB r.k0 r.v0 r.m0 4294967295))
      have HE1 := hide E1
      have HB1 := hide B1
      clear E1 B1 hcb hfb hbb
      go_wp2
      go_roundw
      case rel => exact ⟨1, by omega, rfl, HB1.out, HE1.out⟩
      case measure => simp [intOf]
    | 1, _ =>
      have hfz0 := hep.2.1 21
      have hfz1 := hep.2.1 22
      obtain ⟨z0, hz0⟩ := hep.2.2.2.2.1 21 (by omega)
      obtain ⟨z1, hz1⟩ := hep.2.2.2.2.1 22 (by omega)
      have HE := hide hep
      clear hep
      go_wp2_with fail
      go_region_held3 (fun w' => w'.cell? ⟨wr.heap.size, 0, none⟩ = some (.int .i64 r.k1) ∧ w'.cell? ⟨wr.heap.size, 1, none⟩ = some (.int .i64 r.v1) ∧ w'.cell? ⟨wr.heap.size, 2, none⟩ = some (.int .i64 r.m1) ∧ w'.cell? ⟨0, 3, none⟩ = some (.int .i64 32) ∧ w'.cell? ⟨0, 4, none⟩ = some (.int .i64 0) ∧ w'.cell? ⟨0, 5, none⟩ = some (.int .i64 4294967295)) (go_keep)
        (first | (go_at_call 125; refine (hullOf_any _ _ _ _ _ _ _).mono ?_; rintro e w' ⟨rfl, hbb⟩; obtain ⟨hcb, hfb⟩ := bcell hbb))
      have E1 := ((HE.out.below ((Below.refl wr.heap.size wr).alloc (Nat.le_refl _) _).drew hltE).below hbb (by simp; omega)).set (k := 1) (by omega)
      have B1 : Below w.heap.size w _ := Below.setCell (Below.setCell (hb.trans (Below.trans ((Below.refl _ _).alloc hb.size _).drew (hbb.mono (by have := hb.size; simp; omega)))) (p := ⟨w.heap.size + 1, 21, none⟩) (by simp) (.int .i64 r.v1)) (p := ⟨w.heap.size + 1, 22, none⟩) (by simp) (.int .i64 (topB r.k1 r.v1 r.m1 4294967295))
      have HE1 := hide E1
      have HB1 := hide B1
      clear E1 B1 hcb hfb hbb
      go_wp2
      go_roundw
      case rel => exact ⟨2, by omega, rfl, HB1.out, HE1.out⟩
      case measure => simp [intOf]
    | 2, _ =>
      have hfz0 := hep.2.1 23
      have hfz1 := hep.2.1 24
      obtain ⟨z0, hz0⟩ := hep.2.2.2.2.1 23 (by omega)
      obtain ⟨z1, hz1⟩ := hep.2.2.2.2.1 24 (by omega)
      have HE := hide hep
      clear hep
      go_wp2_with fail
      go_region_held3 (fun w' => w'.cell? ⟨wr.heap.size, 0, none⟩ = some (.int .i64 r.k2) ∧ w'.cell? ⟨wr.heap.size, 1, none⟩ = some (.int .i64 r.v2) ∧ w'.cell? ⟨wr.heap.size, 2, none⟩ = some (.int .i64 r.m2) ∧ w'.cell? ⟨0, 6, none⟩ = some (.int .i64 8) ∧ w'.cell? ⟨0, 7, none⟩ = some (.int .i64 0) ∧ w'.cell? ⟨0, 8, none⟩ = some (.int .i64 255)) (go_keep)
        (first | (go_at_call 125; refine (hullOf_any _ _ _ _ _ _ _).mono ?_; rintro e w' ⟨rfl, hbb⟩; obtain ⟨hcb, hfb⟩ := bcell hbb))
      have E1 := ((HE.out.below ((Below.refl wr.heap.size wr).alloc (Nat.le_refl _) _).drew hltE).below hbb (by simp; omega)).set (k := 2) (by omega)
      have B1 : Below w.heap.size w _ := Below.setCell (Below.setCell (hb.trans (Below.trans ((Below.refl _ _).alloc hb.size _).drew (hbb.mono (by have := hb.size; simp; omega)))) (p := ⟨w.heap.size + 1, 23, none⟩) (by simp) (.int .i64 r.v2)) (p := ⟨w.heap.size + 1, 24, none⟩) (by simp) (.int .i64 (topB r.k2 r.v2 r.m2 255))
      have HE1 := hide E1
      have HB1 := hide B1
      clear E1 B1 hcb hfb hbb
      go_wp2
      go_roundw
      case rel => exact ⟨3, by omega, rfl, HB1.out, HE1.out⟩
      case measure => simp [intOf]
    | 3, _ =>
      have hfz0 := hep.2.1 25
      have hfz1 := hep.2.1 26
      obtain ⟨z0, hz0⟩ := hep.2.2.2.2.1 25 (by omega)
      obtain ⟨z1, hz1⟩ := hep.2.2.2.2.1 26 (by omega)
      have HE := hide hep
      clear hep
      go_wp2_with fail
      go_region_held3 (fun w' => w'.cell? ⟨wr.heap.size, 0, none⟩ = some (.int .i64 r.k3) ∧ w'.cell? ⟨wr.heap.size, 1, none⟩ = some (.int .i64 r.v3) ∧ w'.cell? ⟨wr.heap.size, 2, none⟩ = some (.int .i64 r.m3) ∧ w'.cell? ⟨0, 9, none⟩ = some (.int .i64 16) ∧ w'.cell? ⟨0, 10, none⟩ = some (.int .i64 0) ∧ w'.cell? ⟨0, 11, none⟩ = some (.int .i64 65535)) (go_keep)
        (first | (go_at_call 125; refine (hullOf_any _ _ _ _ _ _ _).mono ?_; rintro e w' ⟨rfl, hbb⟩; obtain ⟨hcb, hfb⟩ := bcell hbb))
      have E1 := ((HE.out.below ((Below.refl wr.heap.size wr).alloc (Nat.le_refl _) _).drew hltE).below hbb (by simp; omega)).set (k := 3) (by omega)
      have B1 : Below w.heap.size w _ := Below.setCell (Below.setCell (hb.trans (Below.trans ((Below.refl _ _).alloc hb.size _).drew (hbb.mono (by have := hb.size; simp; omega)))) (p := ⟨w.heap.size + 1, 25, none⟩) (by simp) (.int .i64 r.v3)) (p := ⟨w.heap.size + 1, 26, none⟩) (by simp) (.int .i64 (topB r.k3 r.v3 r.m3 65535))
      have HE1 := hide E1
      have HB1 := hide B1
      clear E1 B1 hcb hfb hbb
      go_wp2
      go_roundw
      case rel => exact ⟨4, by omega, rfl, HB1.out, HE1.out⟩
      case measure => simp [intOf]
    | 4, _ =>
      have hfz0 := hep.2.1 27
      have hfz1 := hep.2.1 28
      obtain ⟨z0, hz0⟩ := hep.2.2.2.2.1 27 (by omega)
      obtain ⟨z1, hz1⟩ := hep.2.2.2.2.1 28 (by omega)
      have HE := hide hep
      clear hep
      go_wp2_with fail
      go_region_held3 (fun w' => w'.cell? ⟨wr.heap.size, 0, none⟩ = some (.int .i64 r.k4) ∧ w'.cell? ⟨wr.heap.size, 1, none⟩ = some (.int .i64 r.v4) ∧ w'.cell? ⟨wr.heap.size, 2, none⟩ = some (.int .i64 r.m4) ∧ w'.cell? ⟨0, 12, none⟩ = some (.int .i64 16) ∧ w'.cell? ⟨0, 13, none⟩ = some (.int .i64 0) ∧ w'.cell? ⟨0, 14, none⟩ = some (.int .i64 65535)) (go_keep)
        (first | (go_at_call 125; refine (hullOf_any _ _ _ _ _ _ _).mono ?_; rintro e w' ⟨rfl, hbb⟩; obtain ⟨hcb, hfb⟩ := bcell hbb))
      have E1 := ((HE.out.below ((Below.refl wr.heap.size wr).alloc (Nat.le_refl _) _).drew hltE).below hbb (by simp; omega)).set (k := 4) (by omega)
      have B1 : Below w.heap.size w _ := Below.setCell (Below.setCell (hb.trans (Below.trans ((Below.refl _ _).alloc hb.size _).drew (hbb.mono (by have := hb.size; simp; omega)))) (p := ⟨w.heap.size + 1, 27, none⟩) (by simp) (.int .i64 r.v4)) (p := ⟨w.heap.size + 1, 28, none⟩) (by simp) (.int .i64 (topB r.k4 r.v4 r.m4 65535))
      have HE1 := hide E1
      have HB1 := hide B1
      clear E1 B1 hcb hfb hbb
      go_wp2
      go_roundw
      case rel => exact ⟨5, by omega, rfl, HB1.out, HE1.out⟩
      case measure => simp [intOf]
    | 5, _ =>
      have HE := hide hep
      clear hep
      go_wp2
      go_ret
      exact ⟨rfl, HE.out.done, hb⟩

end Go.Proofs.YtaejpejfmpbinaaGreatDoor

namespace Go.Proofs.YtaejpejfmpbinaaGreatDoor
open Go.RowKit Go.Maps

theorem ba_ext {a b : ByteArray} (h : a.toList = b.toList) : a = b := by
  rw [ByteArray.toList_eq, ByteArray.toList_eq] at h
  obtain ⟨⟨x⟩⟩ := a
  obtain ⟨⟨y⟩⟩ := b
  simp at h
  rw [h]
/-- A port: its native VLAN, and which are tagged there. -/
structure Prt where
  nat : Int
  tg : Int → Bool

theorem keyI : Keyed Tryz.prog 3 := int_keyed Tryz.underlying3
theorem zeroU (w : World) : (zeroValue 135).run Tryz.prog w = .ok (.agg #[]) w := by kernel_rfl
theorem underTag : Tryz.prog.underlying 79 = some (.map 3 135) := Tryz.underlying79

/-- What a map of tagged VLANs holds. -/
def TagAt (w : World) (mv : Value) (tg : Int → Bool) : Prop :=
  (mv = .map none ∧ ∀ v, tg v = false) ∨ ∃ b n D, mv = .map (some b) ∧ w.ownsMap (H := Unit) Tryz.prog 3 unitElem b n D ∧ ∀ v, (Lit.int .i64 v).wf = true → Maps.has D (.int .i64 v) = tg v
theorem TagAt.same {w w' : World} {mv : Value} {tg : Int → Bool} (h : TagAt w mv tg) (hk : ∀ (b : Nat) (o : Obj), w.heap[b]? = some o → o.isCells = false → w'.heap[b]? = some o) : TagAt w' mv tg := by
  rcases h with h | ⟨b, n, D, e, ⟨es, cl, h1, h2⟩, h3⟩
  · exact .inl h
  · exact .inr ⟨b, n, D, e, ⟨es, cl, hk b _ h1 rfl, h2⟩, h3⟩
theorem TagAt.below {w w' : World} {mv : Value} {tg : Int → Bool} (h : TagAt w mv tg) (hb : Below w.heap.size w w') : TagAt w' mv tg :=
  h.same fun b o ho _ => by
    have hlt : b < w.heap.size := by
      rcases Nat.lt_or_ge b w.heap.size with h | h
      · exact h
      · rw [Array.getElem?_eq_none h] at ho; cases ho
    rw [hb.block b hlt, ho]

set_option maxRecDepth 100000 in
theorem hasTagged_any (nat : Int) (mv : Value) (tg : Int → Bool) (v : Int) (w : World) (h : TagAt w mv tg) (hv : (Lit.int .i64 v).wf = true) :
    Calls Tryz.prog 51 #[.agg #[.int .i64 nat, mv], .int .i64 v] w fun e w' => e = .returned (.bool (tg v)) ∧ Below w.heap.size w w' := by
  have hkey := keyOf_int_mk Tryz.underlying3 hv
  rcases h with ⟨rfl, h0⟩ | ⟨b, n, D, rfl, hown, hD⟩
  · have hl : ∀ W : World, (Instr.lookup 79 (.map none) (.int .i64 v) true).run Tryz.prog W = .ok (.tuple #[.agg #[], .bool false]) W := fun W => Maps.look_nil (w := W) true keyI underTag (zeroU W) hkey
    rw [h0]
    go_enter Tryz.func51, Tryz.ntmps51
    go_wp2
    go_ret
    exact ⟨rfl, ((Below.refl _ w).alloc (Nat.le_refl _) _).alloc (by simp) _⟩
  · have HD := hide (hD v hv)
    clear hD
    go_enter Tryz.func51, Tryz.ntmps51
    go_wp2_with (first | (at_lookup; refine wpList_lookup_own_unit _ rfl _ _ 79 rfl 3 135 keyI underTag (zeroU _) b n D rfl (hown.alloc _) _ _ rfl hkey ?_))
    go_ret
    exact ⟨by rw [← HD.out]; rfl, ((Below.refl _ w).alloc (Nat.le_refl _) _).alloc (by simp) _⟩

set_option maxRecDepth 100000 in
theorem has_any (nat : Int) (mv : Value) (tg : Int → Bool) (v : Int) (w : World) (h : TagAt w mv tg) (hv : (Lit.int .i64 v).wf = true) :
    Calls Tryz.prog 69 #[.agg #[.int .i64 nat, mv], .int .i64 v] w fun e w' => e = .returned (.bool (v == nat || tg v)) ∧ Below w.heap.size w w' := by
  have hb0 : Below w.heap.size w (w.alloc (.cells #[.int .i64 nat, mv] 81)) := (Below.refl _ w).alloc (Nat.le_refl _) _
  have C := hide (hasTagged_any nat mv tg v _ (h.below hb0) hv)
  have hone : mv.oneCell' = true := by rcases h with ⟨rfl, _⟩ | ⟨b, n, D, rfl, _⟩ <;> rfl
  have HB := hide hb0
  by_cases hx : v = nat
  · subst hx
    rw [show (v == v) = true from by simp, Bool.true_or]
    go_enter Tryz.func69, Tryz.ntmps69
    go_wp2_with fail
    go_ret
    exact ⟨rfl, HB.out⟩
  · go_enter Tryz.func69, Tryz.ntmps69
    go_wp2_with fail
    refine C.out.mono ?_
    rintro e w1 ⟨rfl, hb1⟩
    go_wp2_with fail
    go_ret
    exact ⟨rfl, HB.out.trans (hb1.mono (by simp))⟩
end Go.Proofs.YtaejpejfmpbinaaGreatDoor

namespace Go.Proofs.YtaejpejfmpbinaaGreatDoor
open Go.RowKit

/-- A frame in its parts. -/
structure Fr where
  to : ByteArray
  fr : ByteArray
  tagged : Bool
  vlan : Int
  mark : Int
  ty : ByteArray
  rest : ByteArray
/-- A frame on its way. -/
structure Pg where
  port : Int
  data : ByteArray
  f : Fr
  pb : ByteArray
  ph : Int
  pt : Int
  right : Bool
  routed : Bool
def frCells (f : Fr) : Array Value := #[.string f.to, .string f.fr, .bool f.tagged, .int .i64 f.vlan, .int .i64 f.mark, .string f.ty, .string f.rest]
def pgCells (p : Pg) (ov : Value) : Array Value := #[.int .i64 p.port, .string p.data, .string p.f.to, .string p.f.fr, .bool p.f.tagged, .int .i64 p.f.vlan, .int .i64 p.f.mark, .string p.f.ty, .string p.f.rest, .string p.pb, .int .i64 p.ph, .int .i64 p.pt, .bool p.right, .bool p.routed, ov]
/-- A passage in memory. -/
def PgAt (w : World) (g : Nat) (p : Pg) (ov : Value) : Prop := w.heap[g]? = some (.cells (pgCells p ov) 65 (0, 0))
theorem PgAt.cell {w : World} {g : Nat} {p : Pg} {ov : Value} (h : PgAt w g p ov) {i : Nat} {v : Value} (hv : (pgCells p ov)[i]? = some v) : w.cell? ⟨g, i, none⟩ = some v := by
  unfold PgAt at h
  simp [World.cell?, h, hv]
theorem PgAt.frozen {w : World} {g : Nat} {p : Pg} {ov : Value} (h : PgAt w g p ov) (i : Nat) : w.frozen? ⟨g, i, none⟩ = false := by
  unfold PgAt at h
  unfold World.frozen?; simp only [h]; rfl
theorem PgAt.lt {w : World} {g : Nat} {p : Pg} {ov : Value} (h : PgAt w g p ov) : g < w.heap.size := block_lt_of_cell (h.cell (i := 0) rfl)
theorem PgAt.below {w w' : World} {g : Nat} {p : Pg} {ov : Value} (h : PgAt w g p ov) (hb : Below w.heap.size w w') : PgAt w' g p ov := (hb.block g h.lt).trans h
theorem PgAt.set {w : World} {g : Nat} {p q : Pg} {ov ov' : Value} (h : PgAt w g p ov) (i : Nat) (v : Value) (e : (pgCells p ov).setIfInBounds i v = pgCells q ov') : PgAt (w.setCell ⟨g, i, none⟩ v) g q ov' := by
  unfold PgAt at *
  rw [heap_setCell_same w g i _ _ v h, e]

/-- The ports of a switch. -/
def PortsAt (w : World) (pv : Value) (P : List Prt) : Prop :=
  ∃ (a : Option Addr) (cap b : Nat), pv = .slice a P.length cap ∧ ∀ j (h : j < P.length), a = some ⟨b, 0, none⟩ ∧ w.cell? ⟨b, j * 2, none⟩ = some (.int .i64 P[j].nat) ∧ ∃ mv, w.cell? ⟨b, j * 2 + 1, none⟩ = some mv ∧ TagAt w mv P[j].tg
theorem PortsAt.below {w w' : World} {pv : Value} {P : List Prt} (h : PortsAt w pv P) (hb : Below w.heap.size w w') : PortsAt w' pv P := by
  obtain ⟨a, cap, b, e, hc⟩ := h
  refine ⟨a, cap, b, e, fun j hj => ?_⟩
  obtain ⟨h0, h1, mv, h2, h3⟩ := hc j hj
  exact ⟨h0, cell_later hb h1, mv, cell_later hb h2, h3.below hb⟩

set_option maxRecDepth 100000 in
theorem hasPort_any (s : Nat) (pv : Value) (P : List Prt) (q : Int) (w : World) (h0 : w.cell? ⟨s, 0, none⟩ = some pv) (hp : PortsAt w pv P) :
    Calls Tryz.prog 32 #[.pointer (some ⟨s, 0, none⟩), .int .i64 q] w fun e w' => e = .returned (.bool (decide (0 ≤ q) && decide (q < P.length))) ∧ w' = w := by
  obtain ⟨a, cap, b, rfl, _⟩ := hp
  by_cases h : 0 ≤ q
  · have hd : decide (0 ≤ q) = true := decide_eq_true h
    go_enter Tryz.func32, Tryz.ntmps32
    go_wp2
    go_ret
    exact ⟨by simp [h], rfl⟩
  · have hd : decide (0 ≤ q) = false := decide_eq_false h
    go_enter Tryz.func32, Tryz.ntmps32
    go_wp2
    go_ret
    exact ⟨by simp, rfl⟩

set_option maxRecDepth 100000 in
theorem enter_any (s g : Nat) (pv : Value) (P : List Prt) (p : Pg) (ov : Value) (w : World) (h0 : w.cell? ⟨s, 0, none⟩ = some pv) (hp : PortsAt w pv P) (hg : PgAt w g p ov) :
    Calls Tryz.prog 22 #[.pointer (some ⟨s, 0, none⟩), .pointer (some ⟨g, 0, none⟩)] w fun e w' => e = .returned (.int .i64 (if decide (0 ≤ p.port) && decide (p.port < P.length) then -1 else 9)) ∧ w' = w := by
  have C := hide (hasPort_any s pv P p.port w h0 hp)
  have g0 : w.cell? ⟨g, 0, none⟩ = some (.int .i64 p.port) := hg.cell rfl
  generalize (decide (0 ≤ p.port) && decide (p.port < P.length)) = ok at *
  clear hg hp
  go_enter Tryz.func22, Tryz.ntmps22
  go_wp2_with fail
  refine C.out.mono ?_
  rintro e w1 ⟨rfl, rfl⟩
  cases ok
  · go_wp2
    go_ret
    exact ⟨rfl, rfl⟩
  · go_wp2
    go_ret
    exact ⟨rfl, rfl⟩

set_option maxRecDepth 100000 in
theorem left_any (g n cap : Nat) (a : Option Addr) (p : Pg) (w : World) (hg : PgAt w g p (.slice a n cap)) :
    Calls Tryz.prog 48 #[.pointer (some ⟨g, 0, none⟩)] w fun e w' => e = .returned (.int .i64 (if n = 0 then 8 else 0)) ∧ w' = w := by
  have g0 : w.cell? ⟨g, 14, none⟩ = some (.slice a n cap) := hg.cell rfl
  clear hg
  by_cases hn : n = 0
  · subst hn
    go_enter Tryz.func48, Tryz.ntmps48
    go_wp2
    go_ret
    exact ⟨rfl, rfl⟩
  · rw [if_neg hn]
    have hi : ¬ (n : Int) = 0 := by omega
    go_enter Tryz.func48, Tryz.ntmps48
    go_wp2
    go_ret
    exact ⟨rfl, rfl⟩
end Go.Proofs.YtaejpejfmpbinaaGreatDoor
