import Derived.Test.YtaejpejfmpbinaaDoorP3
import Derived.Deep.MidRow
import Derived.Deep.RegionHeld3
namespace Go.Proofs.YtaejpejfmpbinaaDoor
open Go.RowKit

theorem buildEntry (id pr k0 v0 m0 k1 v1 m1 k2 v2 m2 k3 v3 m3 k4 v4 m4 ac po : Int) (w : World) : (Instr.build 77 #[(0, .agg #[.int .i64 id, .int .i64 pr, .int .i64 k0, .int .i64 v0, .int .i64 m0, .int .i64 k1, .int .i64 v1, .int .i64 m1, .int .i64 k2, .int .i64 v2, .int .i64 m2, .int .i64 k3, .int .i64 v3, .int .i64 m3, .int .i64 k4, .int .i64 v4, .int .i64 m4, .int .i64 ac, .int .i64 po])]).run Tryd.prog w = .ok (.agg #[.int .i64 id, .int .i64 pr, .int .i64 k0, .int .i64 v0, .int .i64 m0, .int .i64 k1, .int .i64 v1, .int .i64 m1, .int .i64 k2, .int .i64 v2, .int .i64 m2, .int .i64 k3, .int .i64 v3, .int .i64 m3, .int .i64 k4, .int .i64 v4, .int .i64 m4, .int .i64 ac, .int .i64 po, .int .i64 0, .int .i64 0, .int .i64 0, .int .i64 0, .int .i64 0, .int .i64 0, .int .i64 0, .int .i64 0, .int .i64 0, .int .i64 0]) w := by kernel_rfl
theorem isRow_of {P : Program} {t : TypeId} (h : (P.underlying t).any TypeDesc.isRow = true) : ∃ d, P.underlying t = some d ∧ d.isRow = true := by
  cases hd : P.underlying t with
  | none => rw [hd] at h; cases h
  | some d => rw [hd] at h; exact ⟨d, rfl, h⟩
theorem underRule : ∃ d, Tryd.prog.underlying 31 = some d ∧ d.isRow = true := isRow_of (by kernel_rfl)
theorem underMatch5 : ∃ d, Tryd.prog.underlying 29 = some d ∧ d.isRow = true := isRow_of (by kernel_rfl)
theorem sizeRule : (Tryd.prog.info? 31).map (·.size) = some 19 := by kernel_rfl
theorem sizeMatch5 : (Tryd.prog.info? 29).map (·.size) = some 15 := by kernel_rfl
theorem range_new (w : World) (cs : Array Value) (t : TypeId) : (w.alloc (.cells cs t)).rangeAt w.heap.size 0 cs.toList := fun j v hv => by
  rw [Nat.zero_add, World.cell?_alloc_new]; simpa using hv

theorem set_same {w : World} {b i : Nat} {u v : Value} (h : w.cell? ⟨b, i, none⟩ = some u) : (w.setCell ⟨b, i, none⟩ v).cell? ⟨b, i, none⟩ = some v := World.cell?_setCell_same _ _ _ h
theorem set_other {w : World} {b i b' i' : Nat} {v : Value} (h : b ≠ b' ∨ i ≠ i') : (w.setCell ⟨b, i, none⟩ v).cell? ⟨b', i', none⟩ = w.cell? ⟨b', i', none⟩ :=
  World.cell?_setCell_other _ _ _ _ (by simp; omega)

/-- Block e is becoming the entry of rule r: the hulls of the first k fields are laid. -/
def EP (w : World) (e k : Nat) (r : Rl) : Prop :=
  e < w.heap.size ∧ (∀ j, w.frozen? ⟨e, j, none⟩ = false) ∧ (∀ j, j < 19 → w.cell? ⟨e, j, none⟩ = r.ecells[j]?) ∧ (∀ j, j < k → w.cell? ⟨e, 19 + j * 2, none⟩ = some (.int .i64 (r.lo j)) ∧ w.cell? ⟨e, 19 + j * 2 + 1, none⟩ = some (.int .i64 (r.hi j))) ∧ (∀ j, j < 29 → ∃ v, w.cell? ⟨e, j, none⟩ = some v) ∧ w.cell? ⟨e, 29, none⟩ = none

theorem EP.below {B : Nat} {w w' : World} {e k : Nat} {r : Rl} (h : EP w e k r) (hb : Below B w w') (hB : e < B) : EP w' e k r := by
  have hc : ∀ j, w'.cell? ⟨e, j, none⟩ = w.cell? ⟨e, j, none⟩ := fun j => hb.cell (p := ⟨e, j, none⟩) hB
  have hf : ∀ j, w'.frozen? ⟨e, j, none⟩ = w.frozen? ⟨e, j, none⟩ := fun j => hb.frozen (p := ⟨e, j, none⟩) hB
  refine ⟨Nat.lt_of_lt_of_le h.1 hb.size, fun j => (hf j).trans (h.2.1 j), fun j hj => (hc j).trans (h.2.2.1 j hj), fun j hj => ?_, fun j hj => ?_, (hc 29).trans h.2.2.2.2.2⟩
  · rw [hc, hc]; exact h.2.2.2.1 j hj
  · rw [hc]; exact h.2.2.2.2.1 j hj

theorem EP.set {w : World} {e k : Nat} {r : Rl} (h : EP w e k r) (hk : k < 5) :
    EP ((w.setCell ⟨e, 19 + k * 2, none⟩ (.int .i64 (r.lo k))).setCell ⟨e, 19 + k * 2 + 1, none⟩ (.int .i64 (r.hi k))) e (k + 1) r := by
  obtain ⟨h1, h2, h3, h4, h5, h6⟩ := h
  have other : ∀ j, j ≠ 19 + k * 2 → j ≠ 19 + k * 2 + 1 → ((w.setCell ⟨e, 19 + k * 2, none⟩ (.int .i64 (r.lo k))).setCell ⟨e, 19 + k * 2 + 1, none⟩ (.int .i64 (r.hi k))).cell? ⟨e, j, none⟩ = w.cell? ⟨e, j, none⟩ := by
    intro j hj1 hj2
    rw [set_other (.inr (by omega)), set_other (.inr (by omega))]
  obtain ⟨u0, hu0⟩ := h5 (19 + k * 2) (by omega)
  obtain ⟨u1, hu1⟩ := h5 (19 + k * 2 + 1) (by omega)
  have s1 : ((w.setCell ⟨e, 19 + k * 2, none⟩ (.int .i64 (r.lo k))).setCell ⟨e, 19 + k * 2 + 1, none⟩ (.int .i64 (r.hi k))).cell? ⟨e, 19 + k * 2 + 1, none⟩ = some (.int .i64 (r.hi k)) :=
    set_same (u := u1) (by rw [set_other (.inr (by omega))]; exact hu1)
  have s0 : ((w.setCell ⟨e, 19 + k * 2, none⟩ (.int .i64 (r.lo k))).setCell ⟨e, 19 + k * 2 + 1, none⟩ (.int .i64 (r.hi k))).cell? ⟨e, 19 + k * 2, none⟩ = some (.int .i64 (r.lo k)) := by
    rw [set_other (.inr (by omega))]
    exact set_same hu0
  refine ⟨by simpa using h1, fun j => by simpa using h2 j, fun j hj => (other j (by omega) (by omega)).trans (h3 j hj), fun j hj => ?_, fun j hj => ?_, (other 29 (by omega) (by omega)).trans h6⟩
  · by_cases hjk : j = k
    · subst hjk; exact ⟨s0, s1⟩
    · rw [other _ (by omega) (by omega), other _ (by omega) (by omega)]
      exact h4 j (by omega)
  · by_cases e0 : j = 19 + k * 2
    · subst e0; exact ⟨_, s0⟩
    · by_cases e1 : j = 19 + k * 2 + 1
      · subst e1; exact ⟨_, s1⟩
      · rw [other j e0 e1]; exact h5 j hj

theorem EP.done {w : World} {e : Nat} {r : Rl} (h : EP w e 5 r) : EntAt w e r := by
  intro i hi
  by_cases h19 : i < 19
  · exact h.2.2.1 i h19
  · have h0 := h.2.2.2.1 0 (by omega)
    have h1 := h.2.2.2.1 1 (by omega)
    have h2 := h.2.2.2.1 2 (by omega)
    have h3 := h.2.2.2.1 3 (by omega)
    have h4 := h.2.2.2.1 4 (by omega)
    obtain ⟨j, rfl⟩ : ∃ j, i = 19 + j := ⟨i - 19, by omega⟩
    have hj : j < 11 := by omega
    match j, hj with
    | 0, _ => exact h0.1
    | 1, _ => exact h0.2
    | 2, _ => exact h1.1
    | 3, _ => exact h1.2
    | 4, _ => exact h2.1
    | 5, _ => exact h2.2
    | 6, _ => exact h3.1
    | 7, _ => exact h3.2
    | 8, _ => exact h4.1
    | 9, _ => exact h4.2
    | 10, _ => exact h.2.2.2.2.2

theorem EP.start (w : World) (r : Rl) (o : Obj) : EP ((w.alloc o).alloc (.cells #[.int .i64 r.id, .int .i64 r.pr, .int .i64 r.k0, .int .i64 r.v0, .int .i64 r.m0, .int .i64 r.k1, .int .i64 r.v1, .int .i64 r.m1, .int .i64 r.k2, .int .i64 r.v2, .int .i64 r.m2, .int .i64 r.k3, .int .i64 r.v3, .int .i64 r.m3, .int .i64 r.k4, .int .i64 r.v4, .int .i64 r.m4, .int .i64 r.ac, .int .i64 r.po, .int .i64 0, .int .i64 0, .int .i64 0, .int .i64 0, .int .i64 0, .int .i64 0, .int .i64 0, .int .i64 0, .int .i64 0, .int .i64 0] 77)) (w.heap.size + 1) 0 r := by
  have hc : ∀ j, ((w.alloc o).alloc (.cells #[.int .i64 r.id, .int .i64 r.pr, .int .i64 r.k0, .int .i64 r.v0, .int .i64 r.m0, .int .i64 r.k1, .int .i64 r.v1, .int .i64 r.m1, .int .i64 r.k2, .int .i64 r.v2, .int .i64 r.m2, .int .i64 r.k3, .int .i64 r.v3, .int .i64 r.m3, .int .i64 r.k4, .int .i64 r.v4, .int .i64 r.m4, .int .i64 r.ac, .int .i64 r.po, .int .i64 0, .int .i64 0, .int .i64 0, .int .i64 0, .int .i64 0, .int .i64 0, .int .i64 0, .int .i64 0, .int .i64 0, .int .i64 0] 77)).cell? ⟨w.heap.size + 1, j, none⟩ = (#[.int .i64 r.id, .int .i64 r.pr, .int .i64 r.k0, .int .i64 r.v0, .int .i64 r.m0, .int .i64 r.k1, .int .i64 r.v1, .int .i64 r.m1, .int .i64 r.k2, .int .i64 r.v2, .int .i64 r.m2, .int .i64 r.k3, .int .i64 r.v3, .int .i64 r.m3, .int .i64 r.k4, .int .i64 r.v4, .int .i64 r.m4, .int .i64 r.ac, .int .i64 r.po, .int .i64 0, .int .i64 0, .int .i64 0, .int .i64 0, .int .i64 0, .int .i64 0, .int .i64 0, .int .i64 0, .int .i64 0, .int .i64 0] : Array Value)[j]? := fun j => World.cell?_alloc_at _ _ _ _ (by simp)
  refine ⟨by simp, fun j => World.frozen?_alloc_at _ _ _ _ (by simp), fun j hj => ?_, fun j hj => by omega, fun j hj => ?_, by rw [hc]; rfl⟩
  · rw [hc]
    match j, hj with
    | 0, _ => exact rfl
    | 1, _ => exact rfl
    | 2, _ => exact rfl
    | 3, _ => exact rfl
    | 4, _ => exact rfl
    | 5, _ => exact rfl
    | 6, _ => exact rfl
    | 7, _ => exact rfl
    | 8, _ => exact rfl
    | 9, _ => exact rfl
    | 10, _ => exact rfl
    | 11, _ => exact rfl
    | 12, _ => exact rfl
    | 13, _ => exact rfl
    | 14, _ => exact rfl
    | 15, _ => exact rfl
    | 16, _ => exact rfl
    | 17, _ => exact rfl
    | 18, _ => exact rfl
    | n + 19, h => exact absurd h (by omega)
  · rw [hc]
    exact ⟨_, Array.getElem?_eq_getElem (by simpa using hj)⟩

end Go.Proofs.YtaejpejfmpbinaaDoor

namespace Go.Proofs.YtaejpejfmpbinaaDoor
open Go.RowKit

attribute [local go_sem] ixM0 ixM1 ixM2 ixM3 ixM4
attribute [local go_sem ↓] buildEntry

set_option maxRecDepth 100000 in
set_option maxHeartbeats 1600000 in
theorem entryOf_walk (r : Rl) (w : World) (hl : Laid w) :
    Calls Tryd.prog 19 #[.agg #[.int .i64 r.id, .int .i64 r.pr, .int .i64 r.k0, .int .i64 r.v0, .int .i64 r.m0, .int .i64 r.k1, .int .i64 r.v1, .int .i64 r.m1, .int .i64 r.k2, .int .i64 r.v2, .int .i64 r.m2, .int .i64 r.k3, .int .i64 r.v3, .int .i64 r.m3, .int .i64 r.k4, .int .i64 r.v4, .int .i64 r.m4, .int .i64 r.ac, .int .i64 r.po]] w fun e w' => e = .returned (.pointer (some ⟨w.heap.size + 1, 0, none⟩)) ∧ EntAt w' (w.heap.size + 1) r ∧ Below w.heap.size w w' := by
  obtain ⟨dr, hur, hdr⟩ := underRule
  obtain ⟨dm, hum, hdm⟩ := underMatch5
  have hE0 := hide (EP.start w r (.cells #[.int .i64 r.id, .int .i64 r.pr, .int .i64 r.k0, .int .i64 r.v0, .int .i64 r.m0, .int .i64 r.k1, .int .i64 r.v1, .int .i64 r.m1, .int .i64 r.k2, .int .i64 r.v2, .int .i64 r.m2, .int .i64 r.k3, .int .i64 r.v3, .int .i64 r.m3, .int .i64 r.k4, .int .i64 r.v4, .int .i64 r.m4, .int .i64 r.ac, .int .i64 r.po] 31))
  have hM : ((w.alloc (.cells #[.int .i64 r.id, .int .i64 r.pr, .int .i64 r.k0, .int .i64 r.v0, .int .i64 r.m0, .int .i64 r.k1, .int .i64 r.v1, .int .i64 r.m1, .int .i64 r.k2, .int .i64 r.v2, .int .i64 r.m2, .int .i64 r.k3, .int .i64 r.v3, .int .i64 r.m3, .int .i64 r.k4, .int .i64 r.v4, .int .i64 r.m4, .int .i64 r.ac, .int .i64 r.po] 31)).alloc (.cells #[.int .i64 r.id, .int .i64 r.pr, .int .i64 r.k0, .int .i64 r.v0, .int .i64 r.m0, .int .i64 r.k1, .int .i64 r.v1, .int .i64 r.m1, .int .i64 r.k2, .int .i64 r.v2, .int .i64 r.m2, .int .i64 r.k3, .int .i64 r.v3, .int .i64 r.m3, .int .i64 r.k4, .int .i64 r.v4, .int .i64 r.m4, .int .i64 r.ac, .int .i64 r.po, .int .i64 0, .int .i64 0, .int .i64 0, .int .i64 0, .int .i64 0, .int .i64 0, .int .i64 0, .int .i64 0, .int .i64 0, .int .i64 0] 77)).rangeAt w.heap.size 2 [.int .i64 r.k0, .int .i64 r.v0, .int .i64 r.m0, .int .i64 r.k1, .int .i64 r.v1, .int .i64 r.m1, .int .i64 r.k2, .int .i64 r.v2, .int .i64 r.m2, .int .i64 r.k3, .int .i64 r.v3, .int .i64 r.m3, .int .i64 r.k4, .int .i64 r.v4, .int .i64 r.m4] := World.rangeAt_alloc (fun j v hv => by
    rw [World.cell?_alloc_new]
    have hj : j < 15 := by
      rcases Nat.lt_or_ge j 15 with h | h
      · exact h
      · rw [List.getElem?_eq_none (by simpa using h)] at hv; cases hv
    match j, hj with
    | 0, _ => exact hv
    | 1, _ => exact hv
    | 2, _ => exact hv
    | 3, _ => exact hv
    | 4, _ => exact hv
    | 5, _ => exact hv
    | 6, _ => exact hv
    | 7, _ => exact hv
    | 8, _ => exact hv
    | 9, _ => exact hv
    | 10, _ => exact hv
    | 11, _ => exact hv
    | 12, _ => exact hv
    | 13, _ => exact hv
    | 14, _ => exact hv
    | n + 15, h => exact absurd h (by omega)) _
  have HM := hide hM
  clear hM
  go_enter Tryd.func19, Tryd.ntmps19
  go_wp2_with (first | (refine wpList_load_mid rfl 31 _ rfl w.heap.size 0 rfl [.int .i64 r.id, .int .i64 r.pr, .int .i64 r.k0, .int .i64 r.v0, .int .i64 r.m0, .int .i64 r.k1, .int .i64 r.v1, .int .i64 r.m1, .int .i64 r.k2, .int .i64 r.v2, .int .i64 r.m2, .int .i64 r.k3, .int .i64 r.v3, .int .i64 r.m3, .int .i64 r.k4, .int .i64 r.v4, .int .i64 r.m4, .int .i64 r.ac, .int .i64 r.po] dr (range_new _ _ _) hur hdr sizeRule ?_) | (refine wpList_load_mid rfl 29 _ rfl w.heap.size 2 rfl [.int .i64 r.k0, .int .i64 r.v0, .int .i64 r.m0, .int .i64 r.k1, .int .i64 r.v1, .int .i64 r.m1, .int .i64 r.k2, .int .i64 r.v2, .int .i64 r.m2, .int .i64 r.k3, .int .i64 r.v3, .int .i64 r.m3, .int .i64 r.k4, .int .i64 r.v4, .int .i64 r.m4] dm HM.out hum hdm sizeMatch5 ?_))
  go_loopw [11] (fun i wr => ∃ k : Nat, k ≤ 5 ∧ i = .int .i64 k ∧ Below w.heap.size w wr ∧ EP wr (w.heap.size + 1) k r) (fun i _ => 5 - (intOf i).toNat)
  case atStart => exact ⟨0, by omega, rfl, (by repeat (first | exact Below.refl _ _ | assumption | refine Below.drewN ?_ | refine Below.drew ?_ | refine Below.setCell ?_ (by first | exact Nat.le_refl _ | omega | (simp; done) | (simp; omega)) _ | refine Below.alloc ?_ (by first | exact Nat.le_refl _ | omega | (simp; done) | (simp; omega)) _)), hE0.out⟩
  case round =>
    obtain ⟨k, hk, rfl, hb, hep⟩ := hrel
    obtain ⟨g0, g1, g2, g3, g4, g5, g6, g7, g8, g9, g10, g11, g12, g13, g14⟩ := hl.below hb hl.pos
    have hlen := Nat.lt_of_lt_of_le hl.pos hb.size
    have hp := hl.pos
    have hltE := hep.1
    have hlt0 : w.heap.size < wr.heap.size := by omega
    have hne1 : ¬ wr.heap.size = w.heap.size + 1 := by omega
    have hne2 : ¬ w.heap.size + 1 = wr.heap.size := by omega
    clear hl hur hdr hum hdm HM hE0
    match k, hk with
    | 0, _ =>
      have hfz0 := hep.2.1 19
      have hfz1 := hep.2.1 20
      obtain ⟨z0, hz0⟩ := hep.2.2.2.2.1 19 (by omega)
      obtain ⟨z1, hz1⟩ := hep.2.2.2.2.1 20 (by omega)
      have HE := hide hep
      clear hep
      go_wp2_with fail
      go_region_held3 (fun w' => w'.cell? ⟨wr.heap.size, 0, none⟩ = some (.int .i64 r.k0) ∧ w'.cell? ⟨wr.heap.size, 1, none⟩ = some (.int .i64 r.v0) ∧ w'.cell? ⟨wr.heap.size, 2, none⟩ = some (.int .i64 r.m0) ∧ w'.cell? ⟨0, 0, none⟩ = some (.int .i64 32) ∧ w'.cell? ⟨0, 1, none⟩ = some (.int .i64 0) ∧ w'.cell? ⟨0, 2, none⟩ = some (.int .i64 4294967295)) (go_keep)
        (first | (go_at_call 40; refine (hullOf_any _ _ _ _ _ _ _).mono ?_; rintro e w' ⟨rfl, hbb⟩; obtain ⟨hcb, hfb⟩ := bcell hbb))
      have E1 := ((HE.out.below ((Below.refl wr.heap.size wr).alloc (Nat.le_refl _) _).drew hltE).below hbb (by simp; omega)).set (k := 0) (by omega)
      have B1 : Below w.heap.size w _ := Below.setCell (Below.setCell (hb.trans (Below.trans ((Below.refl _ _).alloc hb.size _).drew (hbb.mono (by have := hb.size; simp; omega)))) (p := ⟨w.heap.size + 1, 19, none⟩) (by simp) (.int .i64 r.v0)) (p := ⟨w.heap.size + 1, 20, none⟩) (by simp) (.int .i64 (topB r.k0 r.v0 r.m0 4294967295))
      have HE1 := hide E1
      have HB1 := hide B1
      clear E1 B1 hcb hfb hbb
      go_wp2
      go_roundw
      case rel => exact ⟨1, by omega, rfl, HB1.out, HE1.out⟩
      case measure => simp [intOf]
    | 1, _ =>
      have hfz0 := hep.2.1 21
      have hfz1 := hep.2.1 22
      obtain ⟨z0, hz0⟩ := hep.2.2.2.2.1 21 (by omega)
      obtain ⟨z1, hz1⟩ := hep.2.2.2.2.1 22 (by omega)
      have HE := hide hep
      clear hep
      go_wp2_with fail
      go_region_held3 (fun w' => w'.cell? ⟨wr.heap.size, 0, none⟩ = some (.int .i64 r.k1) ∧ w'.cell? ⟨wr.heap.size, 1, none⟩ = some (.int .i64 r.v1) ∧ w'.cell? ⟨wr.heap.size, 2, none⟩ = some (.int .i64 r.m1) ∧ w'.cell? ⟨0, 3, none⟩ = some (.int .i64 32) ∧ w'.cell? ⟨0, 4, none⟩ = some (.int .i64 0) ∧ w'.cell? ⟨0, 5, none⟩ = some (.int .i64 4294967295)) (go_keep)
        (first | (go_at_call 40; refine (hullOf_any _ _ _ _ _ _ _).mono ?_; rintro e w' ⟨rfl, hbb⟩; obtain ⟨hcb, hfb⟩ := bcell hbb))
      have E1 := ((HE.out.below ((Below.refl wr.heap.size wr).alloc (Nat.le_refl _) _).drew hltE).below hbb (by simp; omega)).set (k := 1) (by omega)
      have B1 : Below w.heap.size w _ := Below.setCell (Below.setCell (hb.trans (Below.trans ((Below.refl _ _).alloc hb.size _).drew (hbb.mono (by have := hb.size; simp; omega)))) (p := ⟨w.heap.size + 1, 21, none⟩) (by simp) (.int .i64 r.v1)) (p := ⟨w.heap.size + 1, 22, none⟩) (by simp) (.int .i64 (topB r.k1 r.v1 r.m1 4294967295))
      have HE1 := hide E1
      have HB1 := hide B1
      clear E1 B1 hcb hfb hbb
      go_wp2
      go_roundw
      case rel => exact ⟨2, by omega, rfl, HB1.out, HE1.out⟩
      case measure => simp [intOf]
    | 2, _ =>
      have hfz0 := hep.2.1 23
      have hfz1 := hep.2.1 24
      obtain ⟨z0, hz0⟩ := hep.2.2.2.2.1 23 (by omega)
      obtain ⟨z1, hz1⟩ := hep.2.2.2.2.1 24 (by omega)
      have HE := hide hep
      clear hep
      go_wp2_with fail
      go_region_held3 (fun w' => w'.cell? ⟨wr.heap.size, 0, none⟩ = some (.int .i64 r.k2) ∧ w'.cell? ⟨wr.heap.size, 1, none⟩ = some (.int .i64 r.v2) ∧ w'.cell? ⟨wr.heap.size, 2, none⟩ = some (.int .i64 r.m2) ∧ w'.cell? ⟨0, 6, none⟩ = some (.int .i64 8) ∧ w'.cell? ⟨0, 7, none⟩ = some (.int .i64 0) ∧ w'.cell? ⟨0, 8, none⟩ = some (.int .i64 255)) (go_keep)
        (first | (go_at_call 40; refine (hullOf_any _ _ _ _ _ _ _).mono ?_; rintro e w' ⟨rfl, hbb⟩; obtain ⟨hcb, hfb⟩ := bcell hbb))
      have E1 := ((HE.out.below ((Below.refl wr.heap.size wr).alloc (Nat.le_refl _) _).drew hltE).below hbb (by simp; omega)).set (k := 2) (by omega)
      have B1 : Below w.heap.size w _ := Below.setCell (Below.setCell (hb.trans (Below.trans ((Below.refl _ _).alloc hb.size _).drew (hbb.mono (by have := hb.size; simp; omega)))) (p := ⟨w.heap.size + 1, 23, none⟩) (by simp) (.int .i64 r.v2)) (p := ⟨w.heap.size + 1, 24, none⟩) (by simp) (.int .i64 (topB r.k2 r.v2 r.m2 255))
      have HE1 := hide E1
      have HB1 := hide B1
      clear E1 B1 hcb hfb hbb
      go_wp2
      go_roundw
      case rel => exact ⟨3, by omega, rfl, HB1.out, HE1.out⟩
      case measure => simp [intOf]
    | 3, _ =>
      have hfz0 := hep.2.1 25
      have hfz1 := hep.2.1 26
      obtain ⟨z0, hz0⟩ := hep.2.2.2.2.1 25 (by omega)
      obtain ⟨z1, hz1⟩ := hep.2.2.2.2.1 26 (by omega)
      have HE := hide hep
      clear hep
      go_wp2_with fail
      go_region_held3 (fun w' => w'.cell? ⟨wr.heap.size, 0, none⟩ = some (.int .i64 r.k3) ∧ w'.cell? ⟨wr.heap.size, 1, none⟩ = some (.int .i64 r.v3) ∧ w'.cell? ⟨wr.heap.size, 2, none⟩ = some (.int .i64 r.m3) ∧ w'.cell? ⟨0, 9, none⟩ = some (.int .i64 16) ∧ w'.cell? ⟨0, 10, none⟩ = some (.int .i64 0) ∧ w'.cell? ⟨0, 11, none⟩ = some (.int .i64 65535)) (go_keep)
        (first | (go_at_call 40; refine (hullOf_any _ _ _ _ _ _ _).mono ?_; rintro e w' ⟨rfl, hbb⟩; obtain ⟨hcb, hfb⟩ := bcell hbb))
      have E1 := ((HE.out.below ((Below.refl wr.heap.size wr).alloc (Nat.le_refl _) _).drew hltE).below hbb (by simp; omega)).set (k := 3) (by omega)
      have B1 : Below w.heap.size w _ := Below.setCell (Below.setCell (hb.trans (Below.trans ((Below.refl _ _).alloc hb.size _).drew (hbb.mono (by have := hb.size; simp; omega)))) (p := ⟨w.heap.size + 1, 25, none⟩) (by simp) (.int .i64 r.v3)) (p := ⟨w.heap.size + 1, 26, none⟩) (by simp) (.int .i64 (topB r.k3 r.v3 r.m3 65535))
      have HE1 := hide E1
      have HB1 := hide B1
      clear E1 B1 hcb hfb hbb
      go_wp2
      go_roundw
      case rel => exact ⟨4, by omega, rfl, HB1.out, HE1.out⟩
      case measure => simp [intOf]
    | 4, _ =>
      have hfz0 := hep.2.1 27
      have hfz1 := hep.2.1 28
      obtain ⟨z0, hz0⟩ := hep.2.2.2.2.1 27 (by omega)
      obtain ⟨z1, hz1⟩ := hep.2.2.2.2.1 28 (by omega)
      have HE := hide hep
      clear hep
      go_wp2_with fail
      go_region_held3 (fun w' => w'.cell? ⟨wr.heap.size, 0, none⟩ = some (.int .i64 r.k4) ∧ w'.cell? ⟨wr.heap.size, 1, none⟩ = some (.int .i64 r.v4) ∧ w'.cell? ⟨wr.heap.size, 2, none⟩ = some (.int .i64 r.m4) ∧ w'.cell? ⟨0, 12, none⟩ = some (.int .i64 16) ∧ w'.cell? ⟨0, 13, none⟩ = some (.int .i64 0) ∧ w'.cell? ⟨0, 14, none⟩ = some (.int .i64 65535)) (go_keep)
        (first | (go_at_call 40; refine (hullOf_any _ _ _ _ _ _ _).mono ?_; rintro e w' ⟨rfl, hbb⟩; obtain ⟨hcb, hfb⟩ := bcell hbb))
      have E1 := ((HE.out.below ((Below.refl wr.heap.size wr).alloc (Nat.le_refl _) _).drew hltE).below hbb (by simp; omega)).set (k := 4) (by omega)
      have B1 : Below w.heap.size w _ := Below.setCell (Below.setCell (hb.trans (Below.trans ((Below.refl _ _).alloc hb.size _).drew (hbb.mono (by have := hb.size; simp; omega)))) (p := ⟨w.heap.size + 1, 27, none⟩) (by simp) (.int .i64 r.v4)) (p := ⟨w.heap.size + 1, 28, none⟩) (by simp) (.int .i64 (topB r.k4 r.v4 r.m4 65535))
      have HE1 := hide E1
      have HB1 := hide B1
      clear E1 B1 hcb hfb hbb
      go_wp2
      go_roundw
      case rel => exact ⟨5, by omega, rfl, HB1.out, HE1.out⟩
      case measure => simp [intOf]
    | 5, _ =>
      have HE := hide hep
      clear hep
      go_wp2
      go_ret
      exact ⟨rfl, HE.out.done, hb⟩

end Go.Proofs.YtaejpejfmpbinaaDoor
