import Derived.Test.YtaejpejfmpbinaaDoorP13
namespace Go.Proofs.YtaejpejfmpbinaaDoor
open Go.RowKit

def mxV (i : Nat) : Int := if i < 2 then 4294967295 else if i = 2 then 255 else 65535
def fldK (kd a b : Nat → Int) (k i : Nat) : Int × Int × Int := if i < k then matV (kd i) (a i) (b i) (mxV i) else (0, 0, 0)
/-- The numbers of a rule of which k fields have been made. -/
def ruleC (pr id : Int) (kd a b : Nat → Int) (k : Nat) : Nat → Int
  | 0 => id
  | 1 => pickV pr 4
  | 2 => (fldK kd a b k 0).1
  | 3 => (fldK kd a b k 0).2.1
  | 4 => (fldK kd a b k 0).2.2
  | 5 => (fldK kd a b k 1).1
  | 6 => (fldK kd a b k 1).2.1
  | 7 => (fldK kd a b k 1).2.2
  | 8 => (fldK kd a b k 2).1
  | 9 => (fldK kd a b k 2).2.1
  | 10 => (fldK kd a b k 2).2.2
  | 11 => (fldK kd a b k 3).1
  | 12 => (fldK kd a b k 3).2.1
  | 13 => (fldK kd a b k 3).2.2
  | 14 => (fldK kd a b k 4).1
  | 15 => (fldK kd a b k 4).2.1
  | 16 => (fldK kd a b k 4).2.2
  | _ => 0
theorem ruleC_succ (pr id : Int) (kd a b : Nat → Int) (k j : Nat) (hk : k < 5) : ruleC pr id kd a b (k + 1) j = if j = 2 + 3 * k then (matV (kd k) (a k) (b k) (mxV k)).1 else if j = 2 + 3 * k + 1 then (matV (kd k) (a k) (b k) (mxV k)).2.1 else if j = 2 + 3 * k + 2 then (matV (kd k) (a k) (b k) (mxV k)).2.2 else ruleC pr id kd a b k j := by
  match k, hk with
  | 0, _ =>
    match j with
    | 0 => rfl
    | 1 => rfl
    | 2 => rfl
    | 3 => rfl
    | 4 => rfl
    | 5 => rfl
    | 6 => rfl
    | 7 => rfl
    | 8 => rfl
    | 9 => rfl
    | 10 => rfl
    | 11 => rfl
    | 12 => rfl
    | 13 => rfl
    | 14 => rfl
    | 15 => rfl
    | 16 => rfl
    | 17 => rfl
    | 18 => rfl
    | n + 19 => rfl
  | 1, _ =>
    match j with
    | 0 => rfl
    | 1 => rfl
    | 2 => rfl
    | 3 => rfl
    | 4 => rfl
    | 5 => rfl
    | 6 => rfl
    | 7 => rfl
    | 8 => rfl
    | 9 => rfl
    | 10 => rfl
    | 11 => rfl
    | 12 => rfl
    | 13 => rfl
    | 14 => rfl
    | 15 => rfl
    | 16 => rfl
    | 17 => rfl
    | 18 => rfl
    | n + 19 => rfl
  | 2, _ =>
    match j with
    | 0 => rfl
    | 1 => rfl
    | 2 => rfl
    | 3 => rfl
    | 4 => rfl
    | 5 => rfl
    | 6 => rfl
    | 7 => rfl
    | 8 => rfl
    | 9 => rfl
    | 10 => rfl
    | 11 => rfl
    | 12 => rfl
    | 13 => rfl
    | 14 => rfl
    | 15 => rfl
    | 16 => rfl
    | 17 => rfl
    | 18 => rfl
    | n + 19 => rfl
  | 3, _ =>
    match j with
    | 0 => rfl
    | 1 => rfl
    | 2 => rfl
    | 3 => rfl
    | 4 => rfl
    | 5 => rfl
    | 6 => rfl
    | 7 => rfl
    | 8 => rfl
    | 9 => rfl
    | 10 => rfl
    | 11 => rfl
    | 12 => rfl
    | 13 => rfl
    | 14 => rfl
    | 15 => rfl
    | 16 => rfl
    | 17 => rfl
    | 18 => rfl
    | n + 19 => rfl
  | 4, _ =>
    match j with
    | 0 => rfl
    | 1 => rfl
    | 2 => rfl
    | 3 => rfl
    | 4 => rfl
    | 5 => rfl
    | 6 => rfl
    | 7 => rfl
    | 8 => rfl
    | 9 => rfl
    | 10 => rfl
    | 11 => rfl
    | 12 => rfl
    | 13 => rfl
    | 14 => rfl
    | 15 => rfl
    | 16 => rfl
    | 17 => rfl
    | 18 => rfl
    | n + 19 => rfl
  | n + 5, h => exact absurd h (by omega)

/-- Block b holds these numbers. -/
def RB (w : World) (b : Nat) (c : Nat → Int) : Prop := (∀ j, w.frozen? ⟨b, j, none⟩ = false) ∧ ∀ j, j < 19 → w.cell? ⟨b, j, none⟩ = some (.int .i64 (c j))
theorem RB.set {w : World} {d : Nat} {pr id : Int} {kd a b : Nat → Int} (k : Nat) (hk : k < 5) (h : RB w d (ruleC pr id kd a b k)) (x y z : Int) (hm : matV (kd k) (a k) (b k) (mxV k) = (x, y, z)) :
    RB (((w.setCell ⟨d, 2 + 3 * k, none⟩ (.int .i64 x)).setCell ⟨d, 2 + 3 * k + 1, none⟩ (.int .i64 y)).setCell ⟨d, 2 + 3 * k + 2, none⟩ (.int .i64 z)) d (ruleC pr id kd a b (k + 1)) := by
  refine ⟨fun j => by simpa using h.1 j, fun j hj => ?_⟩
  rw [ruleC_succ _ _ _ _ _ k j hk, hm]
  have c0 := h.2 (2 + 3 * k) (by omega)
  have c1 := h.2 (2 + 3 * k + 1) (by omega)
  have c2 := h.2 (2 + 3 * k + 2) (by omega)
  by_cases e2 : j = 2 + 3 * k + 2
  · rw [if_neg (by omega), if_neg (by omega), if_pos e2, e2]
    exact set_same (by rw [set_other (.inr (by omega)), set_other (.inr (by omega))]; exact c2)
  · rw [set_other (.inr (by omega))]
    by_cases e1 : j = 2 + 3 * k + 1
    · rw [if_neg (by omega), if_pos e1, e1]
      exact set_same (by rw [set_other (.inr (by omega))]; exact c1)
    · rw [set_other (.inr (by omega))]
      by_cases e0 : j = 2 + 3 * k
      · rw [if_pos e0, e0]
        exact set_same c0
      · rw [set_other (.inr (by omega)), if_neg e0, if_neg e1, if_neg e2]
        exact h.2 j hj
theorem RB.skip {w : World} {d : Nat} {pr id : Int} {kd a b : Nat → Int} (k : Nat) (hk : k < 5) (h : RB w d (ruleC pr id kd a b k)) (hm : matV (kd k) (a k) (b k) (mxV k) = (0, 0, 0)) : RB w d (ruleC pr id kd a b (k + 1)) := by
  refine ⟨h.1, fun j hj => ?_⟩
  rw [ruleC_succ _ _ _ _ _ k j hk, hm]
  have hz : ∀ i, i < 3 → ruleC pr id kd a b k (2 + 3 * k + i) = 0 := fun i hi => by
    match k, hk, i, hi with
    | 0, _, 0, _ => rfl
    | 0, _, 1, _ => rfl
    | 0, _, 2, _ => rfl
    | 1, _, 0, _ => rfl
    | 1, _, 1, _ => rfl
    | 1, _, 2, _ => rfl
    | 2, _, 0, _ => rfl
    | 2, _, 1, _ => rfl
    | 2, _, 2, _ => rfl
    | 3, _, 0, _ => rfl
    | 3, _, 1, _ => rfl
    | 3, _, 2, _ => rfl
    | 4, _, 0, _ => rfl
    | 4, _, 1, _ => rfl
    | 4, _, 2, _ => rfl
    | k + 5, h, _, _ => exact absurd h (by omega)
    | _, _, i + 3, h => exact absurd h (by omega)
  have h0 := h.2 j hj
  by_cases e0 : j = 2 + 3 * k
  · rw [if_pos e0, h0, e0]; exact congrArg (fun q => some (Value.int .i64 q)) (hz 0 (by omega))
  · by_cases e1 : j = 2 + 3 * k + 1
    · rw [if_neg e0, if_pos e1, h0, e1]; exact congrArg (fun q => some (Value.int .i64 q)) (hz 1 (by omega))
    · by_cases e2 : j = 2 + 3 * k + 2
      · rw [if_neg e0, if_neg e1, if_pos e2, h0, e2]; exact congrArg (fun q => some (Value.int .i64 q)) (hz 2 (by omega))
      · rw [if_neg e0, if_neg e1, if_neg e2]; exact h0
theorem RB.range {w : World} {d : Nat} {pr id : Int} {kd a b : Nat → Int} (h : RB w d (ruleC pr id kd a b 5)) : w.rangeAt d 0 (ruleV pr kd a b id).cells.toList := fun j v hv => by
  rw [Nat.zero_add]
  match j, hv with
  | 0, hv => exact (h.2 0 (by omega)).trans hv
  | 1, hv => exact (h.2 1 (by omega)).trans hv
  | 2, hv => exact (h.2 2 (by omega)).trans hv
  | 3, hv => exact (h.2 3 (by omega)).trans hv
  | 4, hv => exact (h.2 4 (by omega)).trans hv
  | 5, hv => exact (h.2 5 (by omega)).trans hv
  | 6, hv => exact (h.2 6 (by omega)).trans hv
  | 7, hv => exact (h.2 7 (by omega)).trans hv
  | 8, hv => exact (h.2 8 (by omega)).trans hv
  | 9, hv => exact (h.2 9 (by omega)).trans hv
  | 10, hv => exact (h.2 10 (by omega)).trans hv
  | 11, hv => exact (h.2 11 (by omega)).trans hv
  | 12, hv => exact (h.2 12 (by omega)).trans hv
  | 13, hv => exact (h.2 13 (by omega)).trans hv
  | 14, hv => exact (h.2 14 (by omega)).trans hv
  | 15, hv => exact (h.2 15 (by omega)).trans hv
  | 16, hv => exact (h.2 16 (by omega)).trans hv
  | 17, hv => exact (h.2 17 (by omega)).trans hv
  | 18, hv => exact (h.2 18 (by omega)).trans hv
  | j + 19, hv => cases hv
theorem RB.range0 {w : World} {d : Nat} {c : Nat → Int} (h : RB w d c) : w.rangeAt d 0 [.int .i64 (c 0), .int .i64 (c 1), .int .i64 (c 2), .int .i64 (c 3), .int .i64 (c 4), .int .i64 (c 5), .int .i64 (c 6), .int .i64 (c 7), .int .i64 (c 8), .int .i64 (c 9), .int .i64 (c 10), .int .i64 (c 11), .int .i64 (c 12), .int .i64 (c 13), .int .i64 (c 14), .int .i64 (c 15), .int .i64 (c 16), .int .i64 (c 17), .int .i64 (c 18)] := fun j v hv => by
  rw [Nat.zero_add]
  match j, hv with
  | 0, hv => exact (h.2 0 (by omega)).trans hv
  | 1, hv => exact (h.2 1 (by omega)).trans hv
  | 2, hv => exact (h.2 2 (by omega)).trans hv
  | 3, hv => exact (h.2 3 (by omega)).trans hv
  | 4, hv => exact (h.2 4 (by omega)).trans hv
  | 5, hv => exact (h.2 5 (by omega)).trans hv
  | 6, hv => exact (h.2 6 (by omega)).trans hv
  | 7, hv => exact (h.2 7 (by omega)).trans hv
  | 8, hv => exact (h.2 8 (by omega)).trans hv
  | 9, hv => exact (h.2 9 (by omega)).trans hv
  | 10, hv => exact (h.2 10 (by omega)).trans hv
  | 11, hv => exact (h.2 11 (by omega)).trans hv
  | 12, hv => exact (h.2 12 (by omega)).trans hv
  | 13, hv => exact (h.2 13 (by omega)).trans hv
  | 14, hv => exact (h.2 14 (by omega)).trans hv
  | 15, hv => exact (h.2 15 (by omega)).trans hv
  | 16, hv => exact (h.2 16 (by omega)).trans hv
  | 17, hv => exact (h.2 17 (by omega)).trans hv
  | 18, hv => exact (h.2 18 (by omega)).trans hv
  | j + 19, hv => cases hv
theorem RB.below {w w' : World} {d B : Nat} {c : Nat → Int} (h : RB w d c) (hb : Below B w w') (hd : d < B) : RB w' d c :=
  ⟨fun j => (hb.frozen (p := ⟨d, j, none⟩) hd).trans (h.1 j), fun j hj => (hb.cell (p := ⟨d, j, none⟩) hd).trans (h.2 j hj)⟩
theorem rangeAt_set {w : World} {b o : Nat} {cs : List Value} (h : w.rangeAt b o cs) {d i : Nat} (hne : d ≠ b) (v : Value) : (w.setCell ⟨d, i, none⟩ v).rangeAt b o cs := fun j u hu => by
  rw [set_other (.inl hne)]; exact h j u hu
theorem range_set3 {w : World} {b o : Nat} {cs : List Value} (h : w.rangeAt b o cs) {d : Nat} (hne : d ≠ b) (i j k : Nat) (x y z : Value) : (((w.setCell ⟨d, i, none⟩ x).setCell ⟨d, j, none⟩ y).setCell ⟨d, k, none⟩ z).rangeAt b o cs :=
  rangeAt_set (rangeAt_set (rangeAt_set h hne _) hne _) hne _
theorem Below.setCells {B : Nat} {w : World} {b : Nat} (hb : B ≤ b) : ∀ (vs : List Value) (o : Nat) {w' : World}, Below B w w' → Below B w (w'.setCells b o vs)
  | [], _, _, h => h
  | v :: r, o, w', h => by
    rw [World.setCells]
    exact Below.setCells hb r (o + 1) (h.setCell hb v)
theorem there_new (w : World) (cs : Array Value) (t : TypeId) : (w.alloc (.cells cs t)).there w.heap.size 0 cs.size := fun j hj => by
  rw [Nat.zero_add]
  exact ⟨by rw [World.cell?_alloc_new]; simpa using hj, World.frozen?_alloc_at _ _ _ _ rfl⟩
theorem there_at {w : World} {cs : Array Value} {t : TypeId} {b : Nat} (hb : b = w.heap.size) : (w.alloc (.cells cs t)).there b 0 cs.size := hb ▸ there_new w cs t
theorem RB.stored {w : World} {b : Nat} {c : Nat → Int} (hf : ∀ j, w.frozen? ⟨b, j, none⟩ = false) (ht : w.there b 0 19) : RB (w.setCells b 0 [.int .i64 (c 0), .int .i64 (c 1), .int .i64 (c 2), .int .i64 (c 3), .int .i64 (c 4), .int .i64 (c 5), .int .i64 (c 6), .int .i64 (c 7), .int .i64 (c 8), .int .i64 (c 9), .int .i64 (c 10), .int .i64 (c 11), .int .i64 (c 12), .int .i64 (c 13), .int .i64 (c 14), .int .i64 (c 15), .int .i64 (c 16), .int .i64 (c 17), .int .i64 (c 18)]) b c := by
  have h := World.rangeAt_setCells_same w b 0 [.int .i64 (c 0), .int .i64 (c 1), .int .i64 (c 2), .int .i64 (c 3), .int .i64 (c 4), .int .i64 (c 5), .int .i64 (c 6), .int .i64 (c 7), .int .i64 (c 8), .int .i64 (c 9), .int .i64 (c 10), .int .i64 (c 11), .int .i64 (c 12), .int .i64 (c 13), .int .i64 (c 14), .int .i64 (c 15), .int .i64 (c 16), .int .i64 (c 17), .int .i64 (c 18)] ht
  refine ⟨fun j => by rw [World.frozen?_setCells]; exact hf j, fun j hj => ?_⟩
  match j, hj with
  | 0, _ => exact h 0 _ rfl
  | 1, _ => exact h 1 _ rfl
  | 2, _ => exact h 2 _ rfl
  | 3, _ => exact h 3 _ rfl
  | 4, _ => exact h 4 _ rfl
  | 5, _ => exact h 5 _ rfl
  | 6, _ => exact h 6 _ rfl
  | 7, _ => exact h 7 _ rfl
  | 8, _ => exact h 8 _ rfl
  | 9, _ => exact h 9 _ rfl
  | 10, _ => exact h 10 _ rfl
  | 11, _ => exact h 11 _ rfl
  | 12, _ => exact h 12 _ rfl
  | 13, _ => exact h 13 _ rfl
  | 14, _ => exact h 14 _ rfl
  | 15, _ => exact h 15 _ rfl
  | 16, _ => exact h 16 _ rfl
  | 17, _ => exact h 17 _ rfl
  | 18, _ => exact h 18 _ rfl
  | j + 19, h => exact absurd h (by omega)
theorem buildRule (id pr : Int) (w : World) : (Instr.build 31 #[(0, .int .i64 id), (1, .int .i64 pr)]).run Tryd.prog w = .ok (.agg #[.int .i64 id, .int .i64 pr, .int .i64 0, .int .i64 0, .int .i64 0, .int .i64 0, .int .i64 0, .int .i64 0, .int .i64 0, .int .i64 0, .int .i64 0, .int .i64 0, .int .i64 0, .int .i64 0, .int .i64 0, .int .i64 0, .int .i64 0, .int .i64 0, .int .i64 0]) w := by kernel_rfl
theorem there_set {w : World} {b o n : Nat} (h : w.there b o n) {d i : Nat} (hne : d ≠ b) (v : Value) : (w.setCell ⟨d, i, none⟩ v).there b o n := fun j hj => ⟨by rw [set_other (.inl hne)]; exact (h j hj).1, by rw [World.frozen?_setCell]; exact (h j hj).2⟩
attribute [local go_sem] shl32 shl8 shl16
attribute [local go_sem high] buildRule

set_option maxRecDepth 100000 in
set_option maxHeartbeats 2000000 in
theorem rule_any (pr id : Int) (kd a b : Nat → Int) (w : World) (hpr : -9223372036854775808 ≤ pr ∧ pr ≤ 9223372036854775807) (hkd : ∀ j, j < 5 → -9223372036854775808 ≤ kd j ∧ kd j ≤ 9223372036854775807) (ha : ∀ j, j < 5 → -9223372036854775808 ≤ a j ∧ a j ≤ 9223372036854775807) (hb : ∀ j, j < 5 → -9223372036854775808 ≤ b j ∧ b j ≤ 9223372036854775807) :
    Calls Tryd.prog 6 #[.agg #[.int .i64 pr, .int .i64 (kd 0), .int .i64 (kd 1), .int .i64 (kd 2), .int .i64 (kd 3), .int .i64 (kd 4), .int .i64 (a 0), .int .i64 (a 1), .int .i64 (a 2), .int .i64 (a 3), .int .i64 (a 4), .int .i64 (b 0), .int .i64 (b 1), .int .i64 (b 2), .int .i64 (b 3), .int .i64 (b 4)], .int .i64 id] w fun e w' => e = .returned (.agg (ruleV pr kd a b id).cells) ∧ Below w.heap.size w w' := by
  obtain ⟨dr, hur, hdr⟩ := underRule
  obtain ⟨R, hR⟩ : ∃ R, R = ruleV pr kd a b id := ⟨_, rfl⟩
  rw [← hR]
  have HRR := hide hR
  clear hR
  obtain ⟨W2, hW2⟩ : ∃ W2, W2 = (w.alloc (.cells #[.int .i64 pr, .int .i64 (kd 0), .int .i64 (kd 1), .int .i64 (kd 2), .int .i64 (kd 3), .int .i64 (kd 4), .int .i64 (a 0), .int .i64 (a 1), .int .i64 (a 2), .int .i64 (a 3), .int .i64 (a 4), .int .i64 (b 0), .int .i64 (b 1), .int .i64 (b 2), .int .i64 (b 3), .int .i64 (b 4)] 35)).alloc (.cells #[.int .i64 0, .int .i64 0, .int .i64 0, .int .i64 0, .int .i64 0, .int .i64 0, .int .i64 0, .int .i64 0, .int .i64 0, .int .i64 0, .int .i64 0, .int .i64 0, .int .i64 0, .int .i64 0, .int .i64 0, .int .i64 0, .int .i64 0, .int .i64 0, .int .i64 0] 31) := ⟨_, rfl⟩
  have hs2 : W2.heap.size = w.heap.size + 2 := by rw [hW2]; simp
  have hB2 : Below w.heap.size w W2 := by rw [hW2]; exact ((Below.refl _ w).alloc (Nat.le_refl _) _).alloc (by simp) _
  have hR2 : W2.rangeAt w.heap.size 0 [.int .i64 pr, .int .i64 (kd 0), .int .i64 (kd 1), .int .i64 (kd 2), .int .i64 (kd 3), .int .i64 (kd 4), .int .i64 (a 0), .int .i64 (a 1), .int .i64 (a 2), .int .i64 (a 3), .int .i64 (a 4), .int .i64 (b 0), .int .i64 (b 1), .int .i64 (b 2), .int .i64 (b 3), .int .i64 (b 4)] := by rw [hW2]; exact World.rangeAt_alloc (range_new _ _ _) _
  have hT2 : W2.there (w.heap.size + 1) 0 19 := by rw [hW2]; exact there_at (by simp)
  have HT2 := hide hT2
  have HW2 := hide hW2
  have HB2 := hide hB2
  have HR2 := hide hR2
  clear hW2 hB2 hR2 hT2
  go_enter Tryd.func6, Tryd.ntmps6
  have CP := hide (pick_any pr 4 W2 hpr.1 hpr.2 (by omega) (by omega))
  go_wp2_with fail
  rw [← HW2.out]
  refine CP.out.mono ?_
  rintro e w' ⟨rfl, hww⟩
  rw [hww]
  clear hww CP
  go_wp2_with (refine wpList_store_mid rfl 31 _ _ rfl _ 0 _ rfl rfl (there_at (by simp [hs2])) sizeRule (by simp [Value.oneCell']) ?_)
  go_loopw [6] (fun i wr => ∃ k : Nat, k ≤ 5 ∧ i = .int .i64 k ∧ Below w.heap.size w wr ∧ wr.rangeAt w.heap.size 0 [.int .i64 pr, .int .i64 (kd 0), .int .i64 (kd 1), .int .i64 (kd 2), .int .i64 (kd 3), .int .i64 (kd 4), .int .i64 (a 0), .int .i64 (a 1), .int .i64 (a 2), .int .i64 (a 3), .int .i64 (a 4), .int .i64 (b 0), .int .i64 (b 1), .int .i64 (b 2), .int .i64 (b 3), .int .i64 (b 4)] ∧ RB wr (w.heap.size + 2) (ruleC pr id kd a b k) ∧ wr.there (w.heap.size + 1) 0 19) (fun i _ => 5 - (intOf i).toNat)
  case atStart => exact ⟨0, by omega, rfl, Below.setCells (by omega) _ _ (HB2.out.alloc (by omega) _), World.rangeAt_setCells_apart (World.rangeAt_alloc HR2.out _) _ _ _ (.inl (by omega)), RB.stored (c := ruleC pr id kd a b 0) (fun j => World.frozen?_alloc_at _ _ _ _ (by simp [hs2])) (there_at (by omega)), World.there_setCells (World.there_alloc HT2.out _) _ _ _⟩
  case round =>
    obtain ⟨k, hk5, rfl, hbl, hr, hx, ht⟩ := hrel
    have HT := hide ht
    clear ht HW2 HB2 HR2 HT2 hs2
    match k, hk5 with
    | 0, _ =>
      have CW := hide (show Calls Tryd.prog 15 #[.int .i64 0] wr fun e w' => e = .returned (.int .i64 32) ∧ w' = wr from width_any 0 wr)
      have ck : wr.cell? ⟨w.heap.size, 1, none⟩ = some (.int .i64 (kd 0)) := hr 1 _ rfl
      have ca : wr.cell? ⟨w.heap.size, 6, none⟩ = some (.int .i64 (a 0)) := hr 6 _ rfl
      have cb : wr.cell? ⟨w.heap.size, 11, none⟩ = some (.int .i64 (b 0)) := hr 11 _ rfl
      have c0 := hx.2 2 (by omega)
      have c1 := hx.2 3 (by omega)
      have c2 := hx.2 4 (by omega)
      have f0 := hx.1 2
      have f1 := hx.1 3
      have f2 := hx.1 4
      have hk1 := (hkd 0 (by omega)).1
      have hk2 := (hkd 0 (by omega)).2
      have ha1 := (ha 0 (by omega)).1
      have ha2 := (ha 0 (by omega)).2
      have hb1 := (hb 0 (by omega)).1
      have hb2 := (hb 0 (by omega)).2
      have hxr := pickV_range (a 0) (n := 16) (by omega)
      have hyr := pickV_range (b 0) (n := 16) (by omega)
      have HB := hide hbl
      have HR := hide hr
      have HX := hide hx
      clear hbl hr hx hkd ha hb hpr
      generalize ruleC pr id kd a b 0 2 = z0 at c0
      generalize ruleC pr id kd a b 0 3 = z1 at c1
      generalize ruleC pr id kd a b 0 4 = z2 at c2
      by_cases h1 : pickV (kd 0) 6 = 1
      · have HM1 : Hid (matV (kd 0) (a 0) (b 0) (mxV 0) = (0, pickV (a 0) 16 * 286331153, 4294967295)) := hide (by unfold matV; rw [if_pos h1]; rfl)
        go_wp2_with (first | (go_at_call 15; refine CW.out.mono ?_; rintro e w' ⟨rfl, hww⟩; rw [hww]; clear hww) | (go_at_call 8; refine (pick_any _ _ _ ?_ ?_ ?_ ?_).mono ?_; (omega); (omega); (omega); (omega); rintro e w' ⟨rfl, hww⟩; rw [hww]; clear hww))
        go_roundw
        case rel => exact ⟨1, by omega, rfl, ((HB.out.setCell (by simp) _).setCell (by simp) _).setCell (by simp) _, range_set3 HR.out (by omega) _ _ _ _ _ _, HX.out.set 0 (by omega) _ _ _ HM1.out, there_set (there_set (there_set HT.out (by omega) _) (by omega) _) (by omega) _⟩
        case measure => simp [intOf]
      · by_cases h2 : pickV (kd 0) 6 = 2
        · have HM1 : Hid (matV (kd 0) (a 0) (b 0) (mxV 0) = (1, min (pickV (a 0) 16 * 286331153) (pickV (b 0) 16 * 286331153), max (pickV (a 0) 16 * 286331153) (pickV (b 0) 16 * 286331153))) := hide (by unfold matV; rw [if_neg h1, if_pos h2]; rfl)
          clear h1
          go_wp2_with (first | (go_at_call 15; refine CW.out.mono ?_; rintro e w' ⟨rfl, hww⟩; rw [hww]; clear hww) | (go_at_call 8; refine (pick_any _ _ _ ?_ ?_ ?_ ?_).mono ?_; (omega); (omega); (omega); (omega); rintro e w' ⟨rfl, hww⟩; rw [hww]; clear hww))
          go_roundw
          case rel => exact ⟨1, by omega, rfl, ((HB.out.setCell (by simp) _).setCell (by simp) _).setCell (by simp) _, range_set3 HR.out (by omega) _ _ _ _ _ _, HX.out.set 0 (by omega) _ _ _ HM1.out, there_set (there_set (there_set HT.out (by omega) _) (by omega) _) (by omega) _⟩
          case measure => simp [intOf]
        · by_cases h3 : pickV (kd 0) 6 = 3
          · have HM1 : Hid (matV (kd 0) (a 0) (b 0) (mxV 0) = (0, bits .and .i64 (pickV (a 0) 16 * 286331153) (pickV (b 0) 16 * 286331153), pickV (b 0) 16 * 286331153)) := hide (by unfold matV; rw [if_neg h1, if_neg h2, if_pos h3]; rfl)
            clear h1 h2
            go_wp2_with (first | (go_at_call 15; refine CW.out.mono ?_; rintro e w' ⟨rfl, hww⟩; rw [hww]; clear hww) | (go_at_call 8; refine (pick_any _ _ _ ?_ ?_ ?_ ?_).mono ?_; (omega); (omega); (omega); (omega); rintro e w' ⟨rfl, hww⟩; rw [hww]; clear hww))
            go_roundw
            case rel => exact ⟨1, by omega, rfl, ((HB.out.setCell (by simp) _).setCell (by simp) _).setCell (by simp) _, range_set3 HR.out (by omega) _ _ _ _ _ _, HX.out.set 0 (by omega) _ _ _ HM1.out, there_set (there_set (there_set HT.out (by omega) _) (by omega) _) (by omega) _⟩
            case measure => simp [intOf]
          · have HM1 : Hid (matV (kd 0) (a 0) (b 0) (mxV 0) = (0, 0, 0)) := hide (by unfold matV; rw [if_neg h1, if_neg h2, if_neg h3])
            go_wp2_with (first | (go_at_call 15; refine CW.out.mono ?_; rintro e w' ⟨rfl, hww⟩; rw [hww]; clear hww) | (go_at_call 8; refine (pick_any _ _ _ ?_ ?_ ?_ ?_).mono ?_; (omega); (omega); (omega); (omega); rintro e w' ⟨rfl, hww⟩; rw [hww]; clear hww))
            go_roundw
            case rel => exact ⟨1, by omega, rfl, HB.out, HR.out, HX.out.skip 0 (by omega) HM1.out, HT.out⟩
            case measure => simp [intOf]
    | 1, _ =>
      have CW := hide (show Calls Tryd.prog 15 #[.int .i64 1] wr fun e w' => e = .returned (.int .i64 32) ∧ w' = wr from width_any 1 wr)
      have ck : wr.cell? ⟨w.heap.size, 2, none⟩ = some (.int .i64 (kd 1)) := hr 2 _ rfl
      have ca : wr.cell? ⟨w.heap.size, 7, none⟩ = some (.int .i64 (a 1)) := hr 7 _ rfl
      have cb : wr.cell? ⟨w.heap.size, 12, none⟩ = some (.int .i64 (b 1)) := hr 12 _ rfl
      have c0 := hx.2 5 (by omega)
      have c1 := hx.2 6 (by omega)
      have c2 := hx.2 7 (by omega)
      have f0 := hx.1 5
      have f1 := hx.1 6
      have f2 := hx.1 7
      have hk1 := (hkd 1 (by omega)).1
      have hk2 := (hkd 1 (by omega)).2
      have ha1 := (ha 1 (by omega)).1
      have ha2 := (ha 1 (by omega)).2
      have hb1 := (hb 1 (by omega)).1
      have hb2 := (hb 1 (by omega)).2
      have hxr := pickV_range (a 1) (n := 16) (by omega)
      have hyr := pickV_range (b 1) (n := 16) (by omega)
      have HB := hide hbl
      have HR := hide hr
      have HX := hide hx
      clear hbl hr hx hkd ha hb hpr
      generalize ruleC pr id kd a b 1 5 = z0 at c0
      generalize ruleC pr id kd a b 1 6 = z1 at c1
      generalize ruleC pr id kd a b 1 7 = z2 at c2
      by_cases h1 : pickV (kd 1) 6 = 1
      · have HM1 : Hid (matV (kd 1) (a 1) (b 1) (mxV 1) = (0, pickV (a 1) 16 * 286331153, 4294967295)) := hide (by unfold matV; rw [if_pos h1]; rfl)
        go_wp2_with (first | (go_at_call 15; refine CW.out.mono ?_; rintro e w' ⟨rfl, hww⟩; rw [hww]; clear hww) | (go_at_call 8; refine (pick_any _ _ _ ?_ ?_ ?_ ?_).mono ?_; (omega); (omega); (omega); (omega); rintro e w' ⟨rfl, hww⟩; rw [hww]; clear hww))
        go_roundw
        case rel => exact ⟨2, by omega, rfl, ((HB.out.setCell (by simp) _).setCell (by simp) _).setCell (by simp) _, range_set3 HR.out (by omega) _ _ _ _ _ _, HX.out.set 1 (by omega) _ _ _ HM1.out, there_set (there_set (there_set HT.out (by omega) _) (by omega) _) (by omega) _⟩
        case measure => simp [intOf]
      · by_cases h2 : pickV (kd 1) 6 = 2
        · have HM1 : Hid (matV (kd 1) (a 1) (b 1) (mxV 1) = (1, min (pickV (a 1) 16 * 286331153) (pickV (b 1) 16 * 286331153), max (pickV (a 1) 16 * 286331153) (pickV (b 1) 16 * 286331153))) := hide (by unfold matV; rw [if_neg h1, if_pos h2]; rfl)
          clear h1
          go_wp2_with (first | (go_at_call 15; refine CW.out.mono ?_; rintro e w' ⟨rfl, hww⟩; rw [hww]; clear hww) | (go_at_call 8; refine (pick_any _ _ _ ?_ ?_ ?_ ?_).mono ?_; (omega); (omega); (omega); (omega); rintro e w' ⟨rfl, hww⟩; rw [hww]; clear hww))
          go_roundw
          case rel => exact ⟨2, by omega, rfl, ((HB.out.setCell (by simp) _).setCell (by simp) _).setCell (by simp) _, range_set3 HR.out (by omega) _ _ _ _ _ _, HX.out.set 1 (by omega) _ _ _ HM1.out, there_set (there_set (there_set HT.out (by omega) _) (by omega) _) (by omega) _⟩
          case measure => simp [intOf]
        · by_cases h3 : pickV (kd 1) 6 = 3
          · have HM1 : Hid (matV (kd 1) (a 1) (b 1) (mxV 1) = (0, bits .and .i64 (pickV (a 1) 16 * 286331153) (pickV (b 1) 16 * 286331153), pickV (b 1) 16 * 286331153)) := hide (by unfold matV; rw [if_neg h1, if_neg h2, if_pos h3]; rfl)
            clear h1 h2
            go_wp2_with (first | (go_at_call 15; refine CW.out.mono ?_; rintro e w' ⟨rfl, hww⟩; rw [hww]; clear hww) | (go_at_call 8; refine (pick_any _ _ _ ?_ ?_ ?_ ?_).mono ?_; (omega); (omega); (omega); (omega); rintro e w' ⟨rfl, hww⟩; rw [hww]; clear hww))
            go_roundw
            case rel => exact ⟨2, by omega, rfl, ((HB.out.setCell (by simp) _).setCell (by simp) _).setCell (by simp) _, range_set3 HR.out (by omega) _ _ _ _ _ _, HX.out.set 1 (by omega) _ _ _ HM1.out, there_set (there_set (there_set HT.out (by omega) _) (by omega) _) (by omega) _⟩
            case measure => simp [intOf]
          · have HM1 : Hid (matV (kd 1) (a 1) (b 1) (mxV 1) = (0, 0, 0)) := hide (by unfold matV; rw [if_neg h1, if_neg h2, if_neg h3])
            go_wp2_with (first | (go_at_call 15; refine CW.out.mono ?_; rintro e w' ⟨rfl, hww⟩; rw [hww]; clear hww) | (go_at_call 8; refine (pick_any _ _ _ ?_ ?_ ?_ ?_).mono ?_; (omega); (omega); (omega); (omega); rintro e w' ⟨rfl, hww⟩; rw [hww]; clear hww))
            go_roundw
            case rel => exact ⟨2, by omega, rfl, HB.out, HR.out, HX.out.skip 1 (by omega) HM1.out, HT.out⟩
            case measure => simp [intOf]
    | 2, _ =>
      have CW := hide (show Calls Tryd.prog 15 #[.int .i64 2] wr fun e w' => e = .returned (.int .i64 8) ∧ w' = wr from width_any 2 wr)
      have ck : wr.cell? ⟨w.heap.size, 3, none⟩ = some (.int .i64 (kd 2)) := hr 3 _ rfl
      have ca : wr.cell? ⟨w.heap.size, 8, none⟩ = some (.int .i64 (a 2)) := hr 8 _ rfl
      have cb : wr.cell? ⟨w.heap.size, 13, none⟩ = some (.int .i64 (b 2)) := hr 13 _ rfl
      have c0 := hx.2 8 (by omega)
      have c1 := hx.2 9 (by omega)
      have c2 := hx.2 10 (by omega)
      have f0 := hx.1 8
      have f1 := hx.1 9
      have f2 := hx.1 10
      have hk1 := (hkd 2 (by omega)).1
      have hk2 := (hkd 2 (by omega)).2
      have ha1 := (ha 2 (by omega)).1
      have ha2 := (ha 2 (by omega)).2
      have hb1 := (hb 2 (by omega)).1
      have hb2 := (hb 2 (by omega)).2
      have hxr := pickV_range (a 2) (n := 16) (by omega)
      have hyr := pickV_range (b 2) (n := 16) (by omega)
      have HB := hide hbl
      have HR := hide hr
      have HX := hide hx
      clear hbl hr hx hkd ha hb hpr
      generalize ruleC pr id kd a b 2 8 = z0 at c0
      generalize ruleC pr id kd a b 2 9 = z1 at c1
      generalize ruleC pr id kd a b 2 10 = z2 at c2
      by_cases h1 : pickV (kd 2) 6 = 1
      · have HM1 : Hid (matV (kd 2) (a 2) (b 2) (mxV 2) = (0, pickV (a 2) 16 * 17, 255)) := hide (by unfold matV; rw [if_pos h1]; rfl)
        go_wp2_with (first | (go_at_call 15; refine CW.out.mono ?_; rintro e w' ⟨rfl, hww⟩; rw [hww]; clear hww) | (go_at_call 8; refine (pick_any _ _ _ ?_ ?_ ?_ ?_).mono ?_; (omega); (omega); (omega); (omega); rintro e w' ⟨rfl, hww⟩; rw [hww]; clear hww))
        go_roundw
        case rel => exact ⟨3, by omega, rfl, ((HB.out.setCell (by simp) _).setCell (by simp) _).setCell (by simp) _, range_set3 HR.out (by omega) _ _ _ _ _ _, HX.out.set 2 (by omega) _ _ _ HM1.out, there_set (there_set (there_set HT.out (by omega) _) (by omega) _) (by omega) _⟩
        case measure => simp [intOf]
      · by_cases h2 : pickV (kd 2) 6 = 2
        · have HM1 : Hid (matV (kd 2) (a 2) (b 2) (mxV 2) = (1, min (pickV (a 2) 16 * 17) (pickV (b 2) 16 * 17), max (pickV (a 2) 16 * 17) (pickV (b 2) 16 * 17))) := hide (by unfold matV; rw [if_neg h1, if_pos h2]; rfl)
          clear h1
          go_wp2_with (first | (go_at_call 15; refine CW.out.mono ?_; rintro e w' ⟨rfl, hww⟩; rw [hww]; clear hww) | (go_at_call 8; refine (pick_any _ _ _ ?_ ?_ ?_ ?_).mono ?_; (omega); (omega); (omega); (omega); rintro e w' ⟨rfl, hww⟩; rw [hww]; clear hww))
          go_roundw
          case rel => exact ⟨3, by omega, rfl, ((HB.out.setCell (by simp) _).setCell (by simp) _).setCell (by simp) _, range_set3 HR.out (by omega) _ _ _ _ _ _, HX.out.set 2 (by omega) _ _ _ HM1.out, there_set (there_set (there_set HT.out (by omega) _) (by omega) _) (by omega) _⟩
          case measure => simp [intOf]
        · by_cases h3 : pickV (kd 2) 6 = 3
          · have HM1 : Hid (matV (kd 2) (a 2) (b 2) (mxV 2) = (0, bits .and .i64 (pickV (a 2) 16 * 17) (pickV (b 2) 16 * 17), pickV (b 2) 16 * 17)) := hide (by unfold matV; rw [if_neg h1, if_neg h2, if_pos h3]; rfl)
            clear h1 h2
            go_wp2_with (first | (go_at_call 15; refine CW.out.mono ?_; rintro e w' ⟨rfl, hww⟩; rw [hww]; clear hww) | (go_at_call 8; refine (pick_any _ _ _ ?_ ?_ ?_ ?_).mono ?_; (omega); (omega); (omega); (omega); rintro e w' ⟨rfl, hww⟩; rw [hww]; clear hww))
            go_roundw
            case rel => exact ⟨3, by omega, rfl, ((HB.out.setCell (by simp) _).setCell (by simp) _).setCell (by simp) _, range_set3 HR.out (by omega) _ _ _ _ _ _, HX.out.set 2 (by omega) _ _ _ HM1.out, there_set (there_set (there_set HT.out (by omega) _) (by omega) _) (by omega) _⟩
            case measure => simp [intOf]
          · have HM1 : Hid (matV (kd 2) (a 2) (b 2) (mxV 2) = (0, 0, 0)) := hide (by unfold matV; rw [if_neg h1, if_neg h2, if_neg h3])
            go_wp2_with (first | (go_at_call 15; refine CW.out.mono ?_; rintro e w' ⟨rfl, hww⟩; rw [hww]; clear hww) | (go_at_call 8; refine (pick_any _ _ _ ?_ ?_ ?_ ?_).mono ?_; (omega); (omega); (omega); (omega); rintro e w' ⟨rfl, hww⟩; rw [hww]; clear hww))
            go_roundw
            case rel => exact ⟨3, by omega, rfl, HB.out, HR.out, HX.out.skip 2 (by omega) HM1.out, HT.out⟩
            case measure => simp [intOf]
    | 3, _ =>
      have CW := hide (show Calls Tryd.prog 15 #[.int .i64 3] wr fun e w' => e = .returned (.int .i64 16) ∧ w' = wr from width_any 3 wr)
      have ck : wr.cell? ⟨w.heap.size, 4, none⟩ = some (.int .i64 (kd 3)) := hr 4 _ rfl
      have ca : wr.cell? ⟨w.heap.size, 9, none⟩ = some (.int .i64 (a 3)) := hr 9 _ rfl
      have cb : wr.cell? ⟨w.heap.size, 14, none⟩ = some (.int .i64 (b 3)) := hr 14 _ rfl
      have c0 := hx.2 11 (by omega)
      have c1 := hx.2 12 (by omega)
      have c2 := hx.2 13 (by omega)
      have f0 := hx.1 11
      have f1 := hx.1 12
      have f2 := hx.1 13
      have hk1 := (hkd 3 (by omega)).1
      have hk2 := (hkd 3 (by omega)).2
      have ha1 := (ha 3 (by omega)).1
      have ha2 := (ha 3 (by omega)).2
      have hb1 := (hb 3 (by omega)).1
      have hb2 := (hb 3 (by omega)).2
      have hxr := pickV_range (a 3) (n := 16) (by omega)
      have hyr := pickV_range (b 3) (n := 16) (by omega)
      have HB := hide hbl
      have HR := hide hr
      have HX := hide hx
      clear hbl hr hx hkd ha hb hpr
      generalize ruleC pr id kd a b 3 11 = z0 at c0
      generalize ruleC pr id kd a b 3 12 = z1 at c1
      generalize ruleC pr id kd a b 3 13 = z2 at c2
      by_cases h1 : pickV (kd 3) 6 = 1
      · have HM1 : Hid (matV (kd 3) (a 3) (b 3) (mxV 3) = (0, pickV (a 3) 16 * 4369, 65535)) := hide (by unfold matV; rw [if_pos h1]; rfl)
        go_wp2_with (first | (go_at_call 15; refine CW.out.mono ?_; rintro e w' ⟨rfl, hww⟩; rw [hww]; clear hww) | (go_at_call 8; refine (pick_any _ _ _ ?_ ?_ ?_ ?_).mono ?_; (omega); (omega); (omega); (omega); rintro e w' ⟨rfl, hww⟩; rw [hww]; clear hww))
        go_roundw
        case rel => exact ⟨4, by omega, rfl, ((HB.out.setCell (by simp) _).setCell (by simp) _).setCell (by simp) _, range_set3 HR.out (by omega) _ _ _ _ _ _, HX.out.set 3 (by omega) _ _ _ HM1.out, there_set (there_set (there_set HT.out (by omega) _) (by omega) _) (by omega) _⟩
        case measure => simp [intOf]
      · by_cases h2 : pickV (kd 3) 6 = 2
        · have HM1 : Hid (matV (kd 3) (a 3) (b 3) (mxV 3) = (1, min (pickV (a 3) 16 * 4369) (pickV (b 3) 16 * 4369), max (pickV (a 3) 16 * 4369) (pickV (b 3) 16 * 4369))) := hide (by unfold matV; rw [if_neg h1, if_pos h2]; rfl)
          clear h1
          go_wp2_with (first | (go_at_call 15; refine CW.out.mono ?_; rintro e w' ⟨rfl, hww⟩; rw [hww]; clear hww) | (go_at_call 8; refine (pick_any _ _ _ ?_ ?_ ?_ ?_).mono ?_; (omega); (omega); (omega); (omega); rintro e w' ⟨rfl, hww⟩; rw [hww]; clear hww))
          go_roundw
          case rel => exact ⟨4, by omega, rfl, ((HB.out.setCell (by simp) _).setCell (by simp) _).setCell (by simp) _, range_set3 HR.out (by omega) _ _ _ _ _ _, HX.out.set 3 (by omega) _ _ _ HM1.out, there_set (there_set (there_set HT.out (by omega) _) (by omega) _) (by omega) _⟩
          case measure => simp [intOf]
        · by_cases h3 : pickV (kd 3) 6 = 3
          · have HM1 : Hid (matV (kd 3) (a 3) (b 3) (mxV 3) = (0, bits .and .i64 (pickV (a 3) 16 * 4369) (pickV (b 3) 16 * 4369), pickV (b 3) 16 * 4369)) := hide (by unfold matV; rw [if_neg h1, if_neg h2, if_pos h3]; rfl)
            clear h1 h2
            go_wp2_with (first | (go_at_call 15; refine CW.out.mono ?_; rintro e w' ⟨rfl, hww⟩; rw [hww]; clear hww) | (go_at_call 8; refine (pick_any _ _ _ ?_ ?_ ?_ ?_).mono ?_; (omega); (omega); (omega); (omega); rintro e w' ⟨rfl, hww⟩; rw [hww]; clear hww))
            go_roundw
            case rel => exact ⟨4, by omega, rfl, ((HB.out.setCell (by simp) _).setCell (by simp) _).setCell (by simp) _, range_set3 HR.out (by omega) _ _ _ _ _ _, HX.out.set 3 (by omega) _ _ _ HM1.out, there_set (there_set (there_set HT.out (by omega) _) (by omega) _) (by omega) _⟩
            case measure => simp [intOf]
          · have HM1 : Hid (matV (kd 3) (a 3) (b 3) (mxV 3) = (0, 0, 0)) := hide (by unfold matV; rw [if_neg h1, if_neg h2, if_neg h3])
            go_wp2_with (first | (go_at_call 15; refine CW.out.mono ?_; rintro e w' ⟨rfl, hww⟩; rw [hww]; clear hww) | (go_at_call 8; refine (pick_any _ _ _ ?_ ?_ ?_ ?_).mono ?_; (omega); (omega); (omega); (omega); rintro e w' ⟨rfl, hww⟩; rw [hww]; clear hww))
            go_roundw
            case rel => exact ⟨4, by omega, rfl, HB.out, HR.out, HX.out.skip 3 (by omega) HM1.out, HT.out⟩
            case measure => simp [intOf]
    | 4, _ =>
      have CW := hide (show Calls Tryd.prog 15 #[.int .i64 4] wr fun e w' => e = .returned (.int .i64 16) ∧ w' = wr from width_any 4 wr)
      have ck : wr.cell? ⟨w.heap.size, 5, none⟩ = some (.int .i64 (kd 4)) := hr 5 _ rfl
      have ca : wr.cell? ⟨w.heap.size, 10, none⟩ = some (.int .i64 (a 4)) := hr 10 _ rfl
      have cb : wr.cell? ⟨w.heap.size, 15, none⟩ = some (.int .i64 (b 4)) := hr 15 _ rfl
      have c0 := hx.2 14 (by omega)
      have c1 := hx.2 15 (by omega)
      have c2 := hx.2 16 (by omega)
      have f0 := hx.1 14
      have f1 := hx.1 15
      have f2 := hx.1 16
      have hk1 := (hkd 4 (by omega)).1
      have hk2 := (hkd 4 (by omega)).2
      have ha1 := (ha 4 (by omega)).1
      have ha2 := (ha 4 (by omega)).2
      have hb1 := (hb 4 (by omega)).1
      have hb2 := (hb 4 (by omega)).2
      have hxr := pickV_range (a 4) (n := 16) (by omega)
      have hyr := pickV_range (b 4) (n := 16) (by omega)
      have HB := hide hbl
      have HR := hide hr
      have HX := hide hx
      clear hbl hr hx hkd ha hb hpr
      generalize ruleC pr id kd a b 4 14 = z0 at c0
      generalize ruleC pr id kd a b 4 15 = z1 at c1
      generalize ruleC pr id kd a b 4 16 = z2 at c2
      by_cases h1 : pickV (kd 4) 6 = 1
      · have HM1 : Hid (matV (kd 4) (a 4) (b 4) (mxV 4) = (0, pickV (a 4) 16 * 4369, 65535)) := hide (by unfold matV; rw [if_pos h1]; rfl)
        go_wp2_with (first | (go_at_call 15; refine CW.out.mono ?_; rintro e w' ⟨rfl, hww⟩; rw [hww]; clear hww) | (go_at_call 8; refine (pick_any _ _ _ ?_ ?_ ?_ ?_).mono ?_; (omega); (omega); (omega); (omega); rintro e w' ⟨rfl, hww⟩; rw [hww]; clear hww))
        go_roundw
        case rel => exact ⟨5, by omega, rfl, ((HB.out.setCell (by simp) _).setCell (by simp) _).setCell (by simp) _, range_set3 HR.out (by omega) _ _ _ _ _ _, HX.out.set 4 (by omega) _ _ _ HM1.out, there_set (there_set (there_set HT.out (by omega) _) (by omega) _) (by omega) _⟩
        case measure => simp [intOf]
      · by_cases h2 : pickV (kd 4) 6 = 2
        · have HM1 : Hid (matV (kd 4) (a 4) (b 4) (mxV 4) = (1, min (pickV (a 4) 16 * 4369) (pickV (b 4) 16 * 4369), max (pickV (a 4) 16 * 4369) (pickV (b 4) 16 * 4369))) := hide (by unfold matV; rw [if_neg h1, if_pos h2]; rfl)
          clear h1
          go_wp2_with (first | (go_at_call 15; refine CW.out.mono ?_; rintro e w' ⟨rfl, hww⟩; rw [hww]; clear hww) | (go_at_call 8; refine (pick_any _ _ _ ?_ ?_ ?_ ?_).mono ?_; (omega); (omega); (omega); (omega); rintro e w' ⟨rfl, hww⟩; rw [hww]; clear hww))
          go_roundw
          case rel => exact ⟨5, by omega, rfl, ((HB.out.setCell (by simp) _).setCell (by simp) _).setCell (by simp) _, range_set3 HR.out (by omega) _ _ _ _ _ _, HX.out.set 4 (by omega) _ _ _ HM1.out, there_set (there_set (there_set HT.out (by omega) _) (by omega) _) (by omega) _⟩
          case measure => simp [intOf]
        · by_cases h3 : pickV (kd 4) 6 = 3
          · have HM1 : Hid (matV (kd 4) (a 4) (b 4) (mxV 4) = (0, bits .and .i64 (pickV (a 4) 16 * 4369) (pickV (b 4) 16 * 4369), pickV (b 4) 16 * 4369)) := hide (by unfold matV; rw [if_neg h1, if_neg h2, if_pos h3]; rfl)
            clear h1 h2
            go_wp2_with (first | (go_at_call 15; refine CW.out.mono ?_; rintro e w' ⟨rfl, hww⟩; rw [hww]; clear hww) | (go_at_call 8; refine (pick_any _ _ _ ?_ ?_ ?_ ?_).mono ?_; (omega); (omega); (omega); (omega); rintro e w' ⟨rfl, hww⟩; rw [hww]; clear hww))
            go_roundw
            case rel => exact ⟨5, by omega, rfl, ((HB.out.setCell (by simp) _).setCell (by simp) _).setCell (by simp) _, range_set3 HR.out (by omega) _ _ _ _ _ _, HX.out.set 4 (by omega) _ _ _ HM1.out, there_set (there_set (there_set HT.out (by omega) _) (by omega) _) (by omega) _⟩
            case measure => simp [intOf]
          · have HM1 : Hid (matV (kd 4) (a 4) (b 4) (mxV 4) = (0, 0, 0)) := hide (by unfold matV; rw [if_neg h1, if_neg h2, if_neg h3])
            go_wp2_with (first | (go_at_call 15; refine CW.out.mono ?_; rintro e w' ⟨rfl, hww⟩; rw [hww]; clear hww) | (go_at_call 8; refine (pick_any _ _ _ ?_ ?_ ?_ ?_).mono ?_; (omega); (omega); (omega); (omega); rintro e w' ⟨rfl, hww⟩; rw [hww]; clear hww))
            go_roundw
            case rel => exact ⟨5, by omega, rfl, HB.out, HR.out, HX.out.skip 4 (by omega) HM1.out, HT.out⟩
            case measure => simp [intOf]
    | 5, _ =>
      have hrg := hx.range
      rw [← HRR.out] at hrg
      have HRG := hide hrg
      have HB := hide hbl
      clear hbl hr hx hkd ha hb hpr hrg
      go_wp2_with (first | (refine wpList_load_mid rfl 31 _ rfl (w.heap.size + 2) 0 rfl [.int .i64 R.id, .int .i64 R.pr, .int .i64 R.k0, .int .i64 R.v0, .int .i64 R.m0, .int .i64 R.k1, .int .i64 R.v1, .int .i64 R.m1, .int .i64 R.k2, .int .i64 R.v2, .int .i64 R.m2, .int .i64 R.k3, .int .i64 R.v3, .int .i64 R.m3, .int .i64 R.k4, .int .i64 R.v4, .int .i64 R.m4, .int .i64 R.ac, .int .i64 R.po] dr HRG.out hur hdr sizeRule ?_) | (refine wpList_store_mid rfl 31 _ _ rfl _ 0 _ rfl rfl HT.out sizeRule (by simp [Value.oneCell']) ?_))
      try simp only [Exit.inBlock, Exit.then]
      refine bodyPost_ret (results_mid rfl _ _ (w.heap.size + 1) 0 [.int .i64 R.id, .int .i64 R.pr, .int .i64 R.k0, .int .i64 R.v0, .int .i64 R.m0, .int .i64 R.k1, .int .i64 R.v1, .int .i64 R.m1, .int .i64 R.k2, .int .i64 R.v2, .int .i64 R.m2, .int .i64 R.k3, .int .i64 R.v3, .int .i64 R.m3, .int .i64 R.k4, .int .i64 R.v4, .int .i64 R.m4, .int .i64 R.ac, .int .i64 R.po] dr rfl (World.rangeAt_setCells_same _ _ _ _ HT.out) hur hdr sizeRule) rfl ⟨rfl, Below.setCells (by omega) _ _ HB.out⟩

end Go.Proofs.YtaejpejfmpbinaaDoor
