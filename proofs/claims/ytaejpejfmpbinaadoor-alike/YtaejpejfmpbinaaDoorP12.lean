import Derived.Test.YtaejpejfmpbinaaDoorP11
namespace Go.Proofs.YtaejpejfmpbinaaDoor
open Go.RowKit

/-- What pick answers. -/
def pickV (c n : Int) : Int := (if c < 0 then -(c + 1) else c).tmod n
theorem pickV_range (c : Int) {n : Int} (hn : 0 < n) : 0 ≤ pickV c n ∧ pickV c n < n := by
  unfold pickV
  have h : 0 ≤ (if c < 0 then -(c + 1) else c) := by split <;> omega
  generalize (if c < 0 then -(c + 1) else c) = d at h
  rw [Int.tmod_eq_emod_of_nonneg h]
  exact ⟨Int.emod_nonneg _ (by omega), Int.emod_lt_of_pos _ hn⟩

set_option maxHeartbeats 1000000 in
theorem pick_any (c n : Int) (w : World) (h1 : -9223372036854775808 ≤ c) (h2 : c ≤ 9223372036854775807) (hn : 0 < n) (hn2 : n ≤ 9223372036854775807) :
    Calls Tryd.prog 8 #[.int .i64 c, .int .i64 n] w fun e w' => e = .returned (.int .i64 (pickV c n)) ∧ w' = w := by
  have hn0 : ¬ (n = 0) := by omega
  have hr := pickV_range c hn
  unfold pickV at hr ⊢
  by_cases hc : c < 0
  · rw [if_pos hc] at hr ⊢
    have e1 : IntKind.i64.wrap (c + 1) = c + 1 := by rw [IntKind.wrap_i64]; omega
    have e2 : IntKind.i64.wrap (-(c + 1)) = -(c + 1) := by rw [IntKind.wrap_i64]; omega
    have e3 : IntKind.i64.wrap ((-(c + 1)).tmod n) = (-(c + 1)).tmod n := by rw [IntKind.wrap_i64]; omega
    obtain ⟨d, hd⟩ : ∃ d, d = -(c + 1) := ⟨_, rfl⟩
    rw [← hd] at e2 e3 hr ⊢
    go_enter Tryd.func8, Tryd.ntmps8
    go_wp2
    go_ret
    simp [← hd]
    rw [hd, Int.neg_tmod]
  · rw [if_neg hc] at hr ⊢
    have e3 : IntKind.i64.wrap (c.tmod n) = c.tmod n := by rw [IntKind.wrap_i64]; omega
    go_enter Tryd.func8, Tryd.ntmps8
    go_wp2
    go_ret
    simp
    exact (Int.tmod_eq_emod_of_nonneg hc).symm

def widthV (i : Int) : Int := if i < 2 then 32 else if i = 2 then 8 else 16
theorem width_any (i : Int) (w : World) : Calls Tryd.prog 15 #[.int .i64 i] w fun e w' => e = .returned (.int .i64 (widthV i)) ∧ w' = w := by
  unfold widthV
  by_cases h1 : i < 2
  · rw [if_pos h1]
    go_enter Tryd.func15, Tryd.ntmps15
    go_wp2
    go_ret
    exact ⟨rfl, rfl⟩
  · rw [if_neg h1]
    by_cases h2 : i = 2
    · subst h2
      go_enter Tryd.func15, Tryd.ntmps15
      go_wp2
      go_ret
      exact ⟨rfl, rfl⟩
    · rw [if_neg h2]
      go_enter Tryd.func15, Tryd.ntmps15
      go_wp2
      go_ret
      exact ⟨rfl, rfl⟩

end Go.Proofs.YtaejpejfmpbinaaDoor

namespace Go.Proofs.YtaejpejfmpbinaaDoor
open Go.RowKit

/-- The rule of the head. -/
def rl7 : Rl := ⟨7, 0, 0, 0, 0, 0, 0, 0, 0, 0, 0, 0, 0, 0, 0, 0, 0, 0, 0⟩
theorem rl7_ok : rl7.ok = true := by decide
theorem rl7_hits : rl7.hits 0 0 0 0 0 = true := by decide
theorem key0 : keyB 0 0 0 0 0 = true := by decide
theorem code7 : insCode [] rl7 = 0 := by unfold insCode; rw [rl7_ok]; rfl

theorem find7 {L : List Ent} {b : Nat} {a c : Int} (hm : ∀ x, x ∈ L ↔ x = (b, rl7) ∨ x ∈ ([] : List Ent)) (h : FindIs L 0 0 0 0 0 a c) : a = 7 ∧ c = 0 := by
  unfold FindIs at h
  rw [if_pos key0] at h
  obtain ⟨res, hf, ha, hc⟩ := h
  have hin : (b, rl7) ∈ L := (hm _).2 (.inl rfl)
  cases res with
  | none =>
    have := hf _ hin
    rw [rl7_hits] at this; cases this
  | some r =>
    have hr := (hm r).1 hf.1
    have : r = (b, rl7) := hr.resolve_right (by simp)
    subst this
    exact ⟨ha, hc⟩
theorem find0 {x0 x1 x2 x3 x4 a c : Int} (hk : keyB x0 x1 x2 x3 x4 = true) (h : FindIs [] x0 x1 x2 x3 x4 a c) : a = 0 ∧ c = 7 := by
  unfold FindIs at h
  rw [if_pos hk] at h
  obtain ⟨res, hf, ha, hc⟩ := h
  cases res with
  | none => exact ⟨ha, hc⟩
  | some r => exact absurd hf.1 (by simp)

set_option maxRecDepth 100000 in
set_option maxHeartbeats 1000000 in
theorem sieve_any (w : World) (hl : Laid w) :
    Calls Tryd.prog 5 #[] w fun e w' => ∃ t F, e = .returned (.pointer (some ⟨t, 0, none⟩)) ∧ TabIs w' t F [] ∧ (∀ x, F x → w.heap.size ≤ x) ∧ Below w.heap.size w w' := by
  have CN := hide (tnew_any w hl)
  clear hl
  go_enter Tryd.func5, Tryd.ntmps5
  go_wp2_with fail
  refine CN.out.mono ?_
  rintro e w1 ⟨t, F, rfl, hT1, hF1, hB1⟩
  have CI := hide (tins_any t rl7 w1 F [] hT1)
  have HF1 := hide hF1
  have HB1 := hide hB1
  clear hT1 hF1 hB1 CN
  go_wp2_with fail
  refine CI.out.mono ?_
  rintro e w2 ⟨rfl, F2, L2, hT2, hF2, hC2, hL2⟩
  rw [code7] at hL2 ⊢
  rw [if_pos rfl] at hL2
  obtain ⟨b, hm, hlen⟩ := hL2
  have hB2 : Below w.heap.size w w2 := HB1.out.trans (hC2.below HB1.out.size fun x hx => HF1.out x hx)
  have hs1 := HB1.out.size
  have HF2 : Hid (∀ x, F2 x → w.heap.size ≤ x) := hide fun x hx => (hF2 x hx).elim (HF1.out x) (fun h => by omega)
  have CF := hide (tfind_any t 0 0 0 0 0 w2 F2 L2 hT2)
  have HT2 := hide hT2
  have HM := hide hm
  have HB2 := hide hB2
  clear hT2 hF2 hC2 hm hlen hB2 CI
  go_wp2_with fail
  refine CF.out.mono ?_
  rintro e w3 ⟨a, c, rfl, hf3, hb3⟩
  obtain ⟨rfl, rfl⟩ := find7 HM.out hf3
  have CD := hide (tdel_any t 7 w3 F2 L2 (HT2.out.still hb3))
  have hB3 : Below w.heap.size w w3 := HB2.out.trans (hb3.mono HB2.out.size)
  have HB3 := hide hB3
  clear hf3 hb3 CF hB3
  go_wp2_with fail
  refine CD.out.mono ?_
  rintro e w4 ⟨rfl, hT4, hC4⟩
  have hany : (L2.any fun a => a.2.id == 7) = true := List.any_eq_true.2 ⟨(b, rl7), (HM.out _).2 (.inl rfl), rfl⟩
  have hfil : (L2.filter fun a => a.2.id != 7) = [] := List.filter_eq_nil_iff.2 fun a ha => by
    have := ((HM.out a).1 ha).resolve_right (by simp)
    subst this
    simp [rl7]
  rw [hany, if_pos rfl]
  rw [hfil] at hT4
  have hB4 : Below w.heap.size w w4 := HB3.out.trans (hC4.below HB3.out.size fun x hx => HF2.out x hx)
  have CG := hide (tfind_any t 0 0 0 0 0 w4 F2 [] hT4)
  have HT4 := hide hT4
  have HB4 := hide hB4
  clear hany hfil hT4 hC4 hB4 CD
  go_wp2_with fail
  refine CG.out.mono ?_
  rintro e w5 ⟨a, c, rfl, hf5, hb5⟩
  obtain ⟨rfl, rfl⟩ := find0 key0 hf5
  have HB5 := hide hb5
  clear hf5 hb5 CG
  go_wp2
  go_ret
  exact ⟨t, F2, rfl, HT4.out.still HB5.out, HF2.out, HB4.out.trans (HB5.out.mono HB4.out.size)⟩

end Go.Proofs.YtaejpejfmpbinaaDoor

namespace Go.Proofs.YtaejpejfmpbinaaDoor
open Go.RowKit

/-- A list of numbers that came in. -/
def IntsAt (w : World) (a : Option Addr) (n : Nat) (g off : Nat) : Prop := (0 < n → a = some ⟨g, off, none⟩) ∧ ∀ j, j < n → ∃ x, w.cell? ⟨g, off + j, none⟩ = some (.int .i64 x) ∧ -9223372036854775808 ≤ x ∧ x ≤ 9223372036854775807

/-- Block b holds a key. -/
def KeyBox (W : World) (b : Nat) : Prop := (∀ j, W.frozen? ⟨b, j, none⟩ = false) ∧ ∃ x0 x1 x2 x3 x4, W.cell? ⟨b, 0, none⟩ = some (.int .i64 x0) ∧ W.cell? ⟨b, 1, none⟩ = some (.int .i64 x1) ∧ W.cell? ⟨b, 2, none⟩ = some (.int .i64 x2) ∧ W.cell? ⟨b, 3, none⟩ = some (.int .i64 x3) ∧ W.cell? ⟨b, 4, none⟩ = some (.int .i64 x4) ∧ keyB x0 x1 x2 x3 x4 = true

theorem tdiv16 {x : Int} (h1 : -9223372036854775808 ≤ x) (h2 : x ≤ 9223372036854775807) : -9223372036854775808 ≤ x.tdiv 16 ∧ x.tdiv 16 ≤ 9223372036854775807 := by
  rcases Int.lt_or_le x 0 with h | h
  · have e : x.tdiv 16 = -((-x).tdiv 16) := by rw [Int.neg_tdiv, Int.neg_neg]
    rw [e, Int.tdiv_eq_ediv_of_nonneg (by omega)]; omega
  · rw [Int.tdiv_eq_ediv_of_nonneg h]; omega
theorem KeyBox.new {W : World} {b : Nat} {t : TypeId} (h : W.heap[b]? = some (.cells #[.int .i64 0, .int .i64 0, .int .i64 0, .int .i64 0, .int .i64 0] t (0, 0))) : KeyBox W b :=
  ⟨fun j => by simp [World.frozen?, h], 0, 0, 0, 0, 0, cell_in_row h rfl, cell_in_row h rfl, cell_in_row h rfl, cell_in_row h rfl, cell_in_row h rfl, by decide⟩
theorem underKey : ∃ d, Tryd.prog.underlying 41 = some d ∧ d.isRow = true := isRow_of (by kernel_rfl)
theorem sizeKey : (Tryd.prog.info? 41).map (·.size) = some 5 := by kernel_rfl
theorem results_mid {P : Program} {fn : Func} {p : Tmp} {ty : TypeId} (h : fn.results = #[.cell p ty]) (tmps : Array Value) (w : World) (b o : Nat) (cs : List Value) (d : TypeDesc) (hp : tmps.getD p undef = .pointer (some ⟨b, o, none⟩)) (hc : w.rangeAt b o cs)
    (hu : P.underlying ty = some d) (hd : d.isRow = true) (hi : (P.info? ty).map (·.size) = some cs.length) : (results fn tmps).run P w = .ok (.agg cs.toArray) w := by
  have hp' : tmps[p]?.getD undef = .pointer (some ⟨b, o, none⟩) := by simpa using hp
  simp [results, h, hp', asAddr, run_loadVar_mid w b o ty cs d hc hu hd hi]
theorem range5 {W : World} {b : Nat} {x0 x1 x2 x3 x4 : Value} (g0 : W.cell? ⟨b, 0, none⟩ = some x0) (g1 : W.cell? ⟨b, 1, none⟩ = some x1) (g2 : W.cell? ⟨b, 2, none⟩ = some x2) (g3 : W.cell? ⟨b, 3, none⟩ = some x3) (g4 : W.cell? ⟨b, 4, none⟩ = some x4) : W.rangeAt b 0 [x0, x1, x2, x3, x4] := fun j v hv => by
  rw [Nat.zero_add]
  match j with
  | 0 => rw [g0]; exact hv
  | 1 => rw [g1]; exact hv
  | 2 => rw [g2]; exact hv
  | 3 => rw [g3]; exact hv
  | 4 => rw [g4]; exact hv
  | j + 5 => cases hv
theorem KeyBox.other {W : World} {b b' : Nat} (h : KeyBox W b) (hne : b ≠ b') (k : Nat) (v : Value) : KeyBox (W.setCell ⟨b', k, none⟩ v) b := by
  obtain ⟨hf, x0, x1, x2, x3, x4, g0, g1, g2, g3, g4, hk⟩ := h
  have ho : ∀ j, (W.setCell ⟨b', k, none⟩ v).cell? ⟨b, j, none⟩ = W.cell? ⟨b, j, none⟩ := fun j => World.cell?_setCell_other _ _ _ _ (by first | (simp; done) | simp [hne])
  exact ⟨fun j => by rw [World.frozen?_setCell]; exact hf j, x0, x1, x2, x3, x4, (ho 0).trans g0, (ho 1).trans g1, (ho 2).trans g2, (ho 3).trans g3, (ho 4).trans g4, hk⟩
theorem KeyBox.set0 {W : World} {b : Nat} (h : KeyBox W b) (v1 : Value) (v : Int) (h1 : 0 ≤ v) (h2 : v ≤ 4294967295) : KeyBox ((W.setCell ⟨b, 0, none⟩ v1).setCell ⟨b, 0, none⟩ (.int .i64 v)) b := by
  obtain ⟨hf, x0, x1, x2, x3, x4, g0, g1, g2, g3, g4, hk⟩ := h
  simp only [keyB, Bool.and_eq_true] at hk
  obtain ⟨k0, k1, k2, k3, k4⟩ := hk
  have hv : hasB 0 4294967295 v = true := by unfold hasB; simp [h1, h2]
  have ho : ∀ j, j ≠ 0 → ((W.setCell ⟨b, 0, none⟩ v1).setCell ⟨b, 0, none⟩ (.int .i64 v)).cell? ⟨b, j, none⟩ = W.cell? ⟨b, j, none⟩ := fun j hj => by
    rw [World.cell?_setCell_other _ _ _ _ (by first | (simp; done) | (simp; omega)), World.cell?_setCell_other _ _ _ _ (by first | (simp; done) | (simp; omega))]
  have hsame : ((W.setCell ⟨b, 0, none⟩ v1).setCell ⟨b, 0, none⟩ (.int .i64 v)).cell? ⟨b, 0, none⟩ = some (.int .i64 v) := World.cell?_setCell_same _ _ _ (World.cell?_setCell_same _ _ _ g0)
  refine ⟨fun j => by rw [World.frozen?_setCell, World.frozen?_setCell]; exact hf j, v, x1, x2, x3, x4, hsame, (ho 1 (by omega)).trans g1, (ho 2 (by omega)).trans g2, (ho 3 (by omega)).trans g3, (ho 4 (by omega)).trans g4, ?_⟩
  simp only [keyB, Bool.and_eq_true]
  exact ⟨hv, k1, k2, k3, k4⟩
theorem KeyBox.set1 {W : World} {b : Nat} (h : KeyBox W b) (v1 : Value) (v : Int) (h1 : 0 ≤ v) (h2 : v ≤ 4294967295) : KeyBox ((W.setCell ⟨b, 1, none⟩ v1).setCell ⟨b, 1, none⟩ (.int .i64 v)) b := by
  obtain ⟨hf, x0, x1, x2, x3, x4, g0, g1, g2, g3, g4, hk⟩ := h
  simp only [keyB, Bool.and_eq_true] at hk
  obtain ⟨k0, k1, k2, k3, k4⟩ := hk
  have hv : hasB 0 4294967295 v = true := by unfold hasB; simp [h1, h2]
  have ho : ∀ j, j ≠ 1 → ((W.setCell ⟨b, 1, none⟩ v1).setCell ⟨b, 1, none⟩ (.int .i64 v)).cell? ⟨b, j, none⟩ = W.cell? ⟨b, j, none⟩ := fun j hj => by
    rw [World.cell?_setCell_other _ _ _ _ (by first | (simp; done) | (simp; omega)), World.cell?_setCell_other _ _ _ _ (by first | (simp; done) | (simp; omega))]
  have hsame : ((W.setCell ⟨b, 1, none⟩ v1).setCell ⟨b, 1, none⟩ (.int .i64 v)).cell? ⟨b, 1, none⟩ = some (.int .i64 v) := World.cell?_setCell_same _ _ _ (World.cell?_setCell_same _ _ _ g1)
  refine ⟨fun j => by rw [World.frozen?_setCell, World.frozen?_setCell]; exact hf j, x0, v, x2, x3, x4, (ho 0 (by omega)).trans g0, hsame, (ho 2 (by omega)).trans g2, (ho 3 (by omega)).trans g3, (ho 4 (by omega)).trans g4, ?_⟩
  simp only [keyB, Bool.and_eq_true]
  exact ⟨k0, hv, k2, k3, k4⟩
theorem KeyBox.set2 {W : World} {b : Nat} (h : KeyBox W b) (v1 : Value) (v : Int) (h1 : 0 ≤ v) (h2 : v ≤ 255) : KeyBox ((W.setCell ⟨b, 2, none⟩ v1).setCell ⟨b, 2, none⟩ (.int .i64 v)) b := by
  obtain ⟨hf, x0, x1, x2, x3, x4, g0, g1, g2, g3, g4, hk⟩ := h
  simp only [keyB, Bool.and_eq_true] at hk
  obtain ⟨k0, k1, k2, k3, k4⟩ := hk
  have hv : hasB 0 255 v = true := by unfold hasB; simp [h1, h2]
  have ho : ∀ j, j ≠ 2 → ((W.setCell ⟨b, 2, none⟩ v1).setCell ⟨b, 2, none⟩ (.int .i64 v)).cell? ⟨b, j, none⟩ = W.cell? ⟨b, j, none⟩ := fun j hj => by
    rw [World.cell?_setCell_other _ _ _ _ (by first | (simp; done) | (simp; omega)), World.cell?_setCell_other _ _ _ _ (by first | (simp; done) | (simp; omega))]
  have hsame : ((W.setCell ⟨b, 2, none⟩ v1).setCell ⟨b, 2, none⟩ (.int .i64 v)).cell? ⟨b, 2, none⟩ = some (.int .i64 v) := World.cell?_setCell_same _ _ _ (World.cell?_setCell_same _ _ _ g2)
  refine ⟨fun j => by rw [World.frozen?_setCell, World.frozen?_setCell]; exact hf j, x0, x1, v, x3, x4, (ho 0 (by omega)).trans g0, (ho 1 (by omega)).trans g1, hsame, (ho 3 (by omega)).trans g3, (ho 4 (by omega)).trans g4, ?_⟩
  simp only [keyB, Bool.and_eq_true]
  exact ⟨k0, k1, hv, k3, k4⟩
theorem KeyBox.set3 {W : World} {b : Nat} (h : KeyBox W b) (v1 : Value) (v : Int) (h1 : 0 ≤ v) (h2 : v ≤ 65535) : KeyBox ((W.setCell ⟨b, 3, none⟩ v1).setCell ⟨b, 3, none⟩ (.int .i64 v)) b := by
  obtain ⟨hf, x0, x1, x2, x3, x4, g0, g1, g2, g3, g4, hk⟩ := h
  simp only [keyB, Bool.and_eq_true] at hk
  obtain ⟨k0, k1, k2, k3, k4⟩ := hk
  have hv : hasB 0 65535 v = true := by unfold hasB; simp [h1, h2]
  have ho : ∀ j, j ≠ 3 → ((W.setCell ⟨b, 3, none⟩ v1).setCell ⟨b, 3, none⟩ (.int .i64 v)).cell? ⟨b, j, none⟩ = W.cell? ⟨b, j, none⟩ := fun j hj => by
    rw [World.cell?_setCell_other _ _ _ _ (by first | (simp; done) | (simp; omega)), World.cell?_setCell_other _ _ _ _ (by first | (simp; done) | (simp; omega))]
  have hsame : ((W.setCell ⟨b, 3, none⟩ v1).setCell ⟨b, 3, none⟩ (.int .i64 v)).cell? ⟨b, 3, none⟩ = some (.int .i64 v) := World.cell?_setCell_same _ _ _ (World.cell?_setCell_same _ _ _ g3)
  refine ⟨fun j => by rw [World.frozen?_setCell, World.frozen?_setCell]; exact hf j, x0, x1, x2, v, x4, (ho 0 (by omega)).trans g0, (ho 1 (by omega)).trans g1, (ho 2 (by omega)).trans g2, hsame, (ho 4 (by omega)).trans g4, ?_⟩
  simp only [keyB, Bool.and_eq_true]
  exact ⟨k0, k1, k2, hv, k4⟩
theorem KeyBox.set4 {W : World} {b : Nat} (h : KeyBox W b) (v1 : Value) (v : Int) (h1 : 0 ≤ v) (h2 : v ≤ 65535) : KeyBox ((W.setCell ⟨b, 4, none⟩ v1).setCell ⟨b, 4, none⟩ (.int .i64 v)) b := by
  obtain ⟨hf, x0, x1, x2, x3, x4, g0, g1, g2, g3, g4, hk⟩ := h
  simp only [keyB, Bool.and_eq_true] at hk
  obtain ⟨k0, k1, k2, k3, k4⟩ := hk
  have hv : hasB 0 65535 v = true := by unfold hasB; simp [h1, h2]
  have ho : ∀ j, j ≠ 4 → ((W.setCell ⟨b, 4, none⟩ v1).setCell ⟨b, 4, none⟩ (.int .i64 v)).cell? ⟨b, j, none⟩ = W.cell? ⟨b, j, none⟩ := fun j hj => by
    rw [World.cell?_setCell_other _ _ _ _ (by first | (simp; done) | (simp; omega)), World.cell?_setCell_other _ _ _ _ (by first | (simp; done) | (simp; omega))]
  have hsame : ((W.setCell ⟨b, 4, none⟩ v1).setCell ⟨b, 4, none⟩ (.int .i64 v)).cell? ⟨b, 4, none⟩ = some (.int .i64 v) := World.cell?_setCell_same _ _ _ (World.cell?_setCell_same _ _ _ g4)
  refine ⟨fun j => by rw [World.frozen?_setCell, World.frozen?_setCell]; exact hf j, x0, x1, x2, x3, v, (ho 0 (by omega)).trans g0, (ho 1 (by omega)).trans g1, (ho 2 (by omega)).trans g2, (ho 3 (by omega)).trans g3, hsame, ?_⟩
  simp only [keyB, Bool.and_eq_true]
  exact ⟨k0, k1, k2, k3, hv⟩
theorem shl32 (w : World) : (Op.shift .shl .i64 1 .i64 32).run Tryd.prog w = .ok (.int .i64 4294967296) w := by kernel_rfl
theorem shl8 (w : World) : (Op.shift .shl .i64 1 .i64 8).run Tryd.prog w = .ok (.int .i64 256) w := by kernel_rfl
theorem shl16 (w : World) : (Op.shift .shl .i64 1 .i64 16).run Tryd.prog w = .ok (.int .i64 65536) w := by kernel_rfl
attribute [local go_sem] shl32 shl8 shl16

set_option maxRecDepth 100000 in
set_option maxHeartbeats 1000000 in
theorem key_any (a : Option Addr) (n cap g off at_ : Nat) (w : World) (hk : IntsAt w a n g off) (hat : at_ ≤ 9223372036854775000) (hn : n ≤ 9223372036854775000) :
    Calls Tryd.prog 11 #[.slice a n cap, .int .i64 at_] w fun e w' => ∃ x0 x1 x2 x3 x4, e = .returned (.agg #[.int .i64 x0, .int .i64 x1, .int .i64 x2, .int .i64 x3, .int .i64 x4]) ∧ keyB x0 x1 x2 x3 x4 = true ∧ Below w.heap.size w w' := by
  obtain ⟨ha, hc⟩ := hk
  go_enter Tryd.func11, Tryd.ntmps11
  go_wp2_with fail
  go_loopw [6] (fun i wr => ∃ k : Nat, k ≤ 5 ∧ i = .int .i64 k ∧ Below w.heap.size w wr ∧ KeyBox wr w.heap.size ∧ KeyBox wr (w.heap.size + 1)) (fun i _ => 5 - (intOf i).toNat)
  case atStart =>
    have hs1 := alloc_size w (.cells #[.int .i64 0, .int .i64 0, .int .i64 0, .int .i64 0, .int .i64 0] 41)
    have n1 := alloc_new w (.cells #[.int .i64 0, .int .i64 0, .int .i64 0, .int .i64 0, .int .i64 0] 41)
    have n2 := alloc_new (w.alloc (.cells #[.int .i64 0, .int .i64 0, .int .i64 0, .int .i64 0, .int .i64 0] 41)) (.cells #[.int .i64 0, .int .i64 0, .int .i64 0, .int .i64 0, .int .i64 0] 41)
    rw [hs1] at n2
    have b2 := (Below.refl _ (w.alloc (.cells #[.int .i64 0, .int .i64 0, .int .i64 0, .int .i64 0, .int .i64 0] 41))).alloc (Nat.le_refl _) (.cells #[.int .i64 0, .int .i64 0, .int .i64 0, .int .i64 0, .int .i64 0] 41)
    exact ⟨0, by omega, rfl, (((Below.refl _ w).alloc (Nat.le_refl _) _).alloc (by omega) _), KeyBox.new ((b2.block _ (by omega)).trans n1), KeyBox.new n2⟩
  case round =>
    obtain ⟨k, hk5, rfl, hb, hr, hx⟩ := hrel
    match k, hk5 with
    | 0, _ =>
      obtain ⟨rn, hrn, hr1, hr2, hraw⟩ : ∃ rn : Int, (at_ < n → a = some ⟨g, off, none⟩ ∧ wr.cell? ⟨g, off + at_, none⟩ = some (.int .i64 rn)) ∧ -9223372036854775808 ≤ rn ∧ rn ≤ 9223372036854775807 ∧ (n ≤ at_ → rn = 0) := by
        by_cases hlt : at_ < n
        · obtain ⟨x, hx, h1, h2⟩ := hc at_ hlt
          exact ⟨x, fun _ => ⟨ha (by omega), (hb.cell (p := ⟨g, off + at_, none⟩) (block_lt_of_cell hx)).trans hx⟩, h1, h2, fun h => by omega⟩
        · exact ⟨0, fun h => absurd h hlt, by omega, by omega, fun _ => rfl⟩
      have CW := hide (show Calls Tryd.prog 15 #[.int .i64 0] wr fun e w' => e = .returned (.int .i64 32) ∧ w' = wr from width_any 0 wr)
      have hP := pickV_range rn (n := 16) (by omega)
      have hQ := pickV_range (rn.tdiv 16) (n := 3) (by omega)
      have hd1 := tdiv16 hr1 hr2
      have hd3 := hd1.1
      have hd4 := hd1.2
      have hd2 : IntKind.i64.wrap (rn.tdiv 16) = rn.tdiv 16 := by rw [IntKind.wrap_i64]; omega
      have hat1 : IntKind.i64.wrap (at_ : Int) = (at_ : Int) := by rw [IntKind.wrap_i64]; omega
      have hat2 : (at_ : Int).toNat = at_ := by omega
      have hat3 : (0 : Int) ≤ (at_ : Int) := by omega
      have HC := hide hc
      have HA := hide ha
      have HB := hide hb
      have HRR := hide hr
      have HXX := hide hx
      obtain ⟨hfz, x0, x1, x2, x3, x4, g0, g1, g2, g3, g4, hkb⟩ := hx
      have hf0 := hfz 0
      have HFZ := hide hfz
      clear hfz hkb
      have hblt := block_lt_of_cell g0
      clear hc ha hb hr
      by_cases hlt : at_ < n
      · obtain ⟨rfl, hcell⟩ := hrn hlt
        have hli : (at_ : Int) < n := by omega
        clear hrn hraw
        go_wp2_with (first | (go_at_call 15; refine CW.out.mono ?_; rintro e w' ⟨rfl, hww⟩; rw [hww]; clear hww) | (go_at_call 8; refine (pick_any _ _ _ ?_ ?_ ?_ ?_).mono ?_; (omega); (omega); (omega); (omega); rintro e w' ⟨rfl, hww⟩; rw [hww]; clear hww))
        go_roundw
        case rel => exact ⟨1, by omega, rfl, (HB.out.setCell (by simp) _).setCell (by simp) _, (HRR.out.other (by simp) _ _).other (by simp) _ _, HXX.out.set0 _ _ (by omega) (by omega)⟩
        case measure => simp [intOf]
      · have hli : ¬ ((at_ : Int) < n) := by omega
        have hP0 := pickV_range 0 (n := 16) (by omega)
        have hQ0 := pickV_range 0 (n := 3) (by omega)
        clear hrn hraw
        go_wp2_with (first | (go_at_call 15; refine CW.out.mono ?_; rintro e w' ⟨rfl, hww⟩; rw [hww]; clear hww) | (go_at_call 8; refine (pick_any _ _ _ ?_ ?_ ?_ ?_).mono ?_; (omega); (omega); (omega); (omega); rintro e w' ⟨rfl, hww⟩; rw [hww]; clear hww))
        go_roundw
        case rel => exact ⟨1, by omega, rfl, (HB.out.setCell (by simp) _).setCell (by simp) _, (HRR.out.other (by simp) _ _).other (by simp) _ _, HXX.out.set0 _ _ (by omega) (by omega)⟩
        case measure => simp [intOf]
    | 1, _ =>
      obtain ⟨rn, hrn, hr1, hr2, hraw⟩ : ∃ rn : Int, (at_ + 1 < n → a = some ⟨g, off, none⟩ ∧ wr.cell? ⟨g, off + (at_ + 1), none⟩ = some (.int .i64 rn)) ∧ -9223372036854775808 ≤ rn ∧ rn ≤ 9223372036854775807 ∧ (n ≤ at_ + 1 → rn = 0) := by
        by_cases hlt : at_ + 1 < n
        · obtain ⟨x, hx, h1, h2⟩ := hc (at_ + 1) hlt
          exact ⟨x, fun _ => ⟨ha (by omega), (hb.cell (p := ⟨g, off + (at_ + 1), none⟩) (block_lt_of_cell hx)).trans hx⟩, h1, h2, fun h => by omega⟩
        · exact ⟨0, fun h => absurd h hlt, by omega, by omega, fun _ => rfl⟩
      have CW := hide (show Calls Tryd.prog 15 #[.int .i64 1] wr fun e w' => e = .returned (.int .i64 32) ∧ w' = wr from width_any 1 wr)
      have hP := pickV_range rn (n := 16) (by omega)
      have hQ := pickV_range (rn.tdiv 16) (n := 3) (by omega)
      have hd1 := tdiv16 hr1 hr2
      have hd3 := hd1.1
      have hd4 := hd1.2
      have hd2 : IntKind.i64.wrap (rn.tdiv 16) = rn.tdiv 16 := by rw [IntKind.wrap_i64]; omega
      have hat1 : IntKind.i64.wrap ((at_ : Int) + 1) = (at_ : Int) + 1 := by rw [IntKind.wrap_i64]; omega
      have hat2 : ((at_ : Int) + 1).toNat = at_ + 1 := by omega
      have hat3 : (0 : Int) ≤ (at_ : Int) + 1 := by omega
      have HC := hide hc
      have HA := hide ha
      have HB := hide hb
      have HRR := hide hr
      have HXX := hide hx
      obtain ⟨hfz, x0, x1, x2, x3, x4, g0, g1, g2, g3, g4, hkb⟩ := hx
      have hf0 := hfz 1
      have HFZ := hide hfz
      clear hfz hkb
      have hblt := block_lt_of_cell g0
      clear hc ha hb hr
      by_cases hlt : at_ + 1 < n
      · obtain ⟨rfl, hcell⟩ := hrn hlt
        have hli : (at_ : Int) + 1 < n := by omega
        clear hrn hraw
        go_wp2_with (first | (go_at_call 15; refine CW.out.mono ?_; rintro e w' ⟨rfl, hww⟩; rw [hww]; clear hww) | (go_at_call 8; refine (pick_any _ _ _ ?_ ?_ ?_ ?_).mono ?_; (omega); (omega); (omega); (omega); rintro e w' ⟨rfl, hww⟩; rw [hww]; clear hww))
        go_roundw
        case rel => exact ⟨2, by omega, rfl, (HB.out.setCell (by simp) _).setCell (by simp) _, (HRR.out.other (by simp) _ _).other (by simp) _ _, HXX.out.set1 _ _ (by omega) (by omega)⟩
        case measure => simp [intOf]
      · have hli : ¬ ((at_ : Int) + 1 < n) := by omega
        have hP0 := pickV_range 0 (n := 16) (by omega)
        have hQ0 := pickV_range 0 (n := 3) (by omega)
        clear hrn hraw
        go_wp2_with (first | (go_at_call 15; refine CW.out.mono ?_; rintro e w' ⟨rfl, hww⟩; rw [hww]; clear hww) | (go_at_call 8; refine (pick_any _ _ _ ?_ ?_ ?_ ?_).mono ?_; (omega); (omega); (omega); (omega); rintro e w' ⟨rfl, hww⟩; rw [hww]; clear hww))
        go_roundw
        case rel => exact ⟨2, by omega, rfl, (HB.out.setCell (by simp) _).setCell (by simp) _, (HRR.out.other (by simp) _ _).other (by simp) _ _, HXX.out.set1 _ _ (by omega) (by omega)⟩
        case measure => simp [intOf]
    | 2, _ =>
      obtain ⟨rn, hrn, hr1, hr2, hraw⟩ : ∃ rn : Int, (at_ + 2 < n → a = some ⟨g, off, none⟩ ∧ wr.cell? ⟨g, off + (at_ + 2), none⟩ = some (.int .i64 rn)) ∧ -9223372036854775808 ≤ rn ∧ rn ≤ 9223372036854775807 ∧ (n ≤ at_ + 2 → rn = 0) := by
        by_cases hlt : at_ + 2 < n
        · obtain ⟨x, hx, h1, h2⟩ := hc (at_ + 2) hlt
          exact ⟨x, fun _ => ⟨ha (by omega), (hb.cell (p := ⟨g, off + (at_ + 2), none⟩) (block_lt_of_cell hx)).trans hx⟩, h1, h2, fun h => by omega⟩
        · exact ⟨0, fun h => absurd h hlt, by omega, by omega, fun _ => rfl⟩
      have CW := hide (show Calls Tryd.prog 15 #[.int .i64 2] wr fun e w' => e = .returned (.int .i64 8) ∧ w' = wr from width_any 2 wr)
      have hP := pickV_range rn (n := 16) (by omega)
      have hQ := pickV_range (rn.tdiv 16) (n := 3) (by omega)
      have hd1 := tdiv16 hr1 hr2
      have hd3 := hd1.1
      have hd4 := hd1.2
      have hd2 : IntKind.i64.wrap (rn.tdiv 16) = rn.tdiv 16 := by rw [IntKind.wrap_i64]; omega
      have hat1 : IntKind.i64.wrap ((at_ : Int) + 2) = (at_ : Int) + 2 := by rw [IntKind.wrap_i64]; omega
      have hat2 : ((at_ : Int) + 2).toNat = at_ + 2 := by omega
      have hat3 : (0 : Int) ≤ (at_ : Int) + 2 := by omega
      have HC := hide hc
      have HA := hide ha
      have HB := hide hb
      have HRR := hide hr
      have HXX := hide hx
      obtain ⟨hfz, x0, x1, x2, x3, x4, g0, g1, g2, g3, g4, hkb⟩ := hx
      have hf0 := hfz 2
      have HFZ := hide hfz
      clear hfz hkb
      have hblt := block_lt_of_cell g0
      clear hc ha hb hr
      by_cases hlt : at_ + 2 < n
      · obtain ⟨rfl, hcell⟩ := hrn hlt
        have hli : (at_ : Int) + 2 < n := by omega
        clear hrn hraw
        go_wp2_with (first | (go_at_call 15; refine CW.out.mono ?_; rintro e w' ⟨rfl, hww⟩; rw [hww]; clear hww) | (go_at_call 8; refine (pick_any _ _ _ ?_ ?_ ?_ ?_).mono ?_; (omega); (omega); (omega); (omega); rintro e w' ⟨rfl, hww⟩; rw [hww]; clear hww))
        go_roundw
        case rel => exact ⟨3, by omega, rfl, (HB.out.setCell (by simp) _).setCell (by simp) _, (HRR.out.other (by simp) _ _).other (by simp) _ _, HXX.out.set2 _ _ (by omega) (by omega)⟩
        case measure => simp [intOf]
      · have hli : ¬ ((at_ : Int) + 2 < n) := by omega
        have hP0 := pickV_range 0 (n := 16) (by omega)
        have hQ0 := pickV_range 0 (n := 3) (by omega)
        clear hrn hraw
        go_wp2_with (first | (go_at_call 15; refine CW.out.mono ?_; rintro e w' ⟨rfl, hww⟩; rw [hww]; clear hww) | (go_at_call 8; refine (pick_any _ _ _ ?_ ?_ ?_ ?_).mono ?_; (omega); (omega); (omega); (omega); rintro e w' ⟨rfl, hww⟩; rw [hww]; clear hww))
        go_roundw
        case rel => exact ⟨3, by omega, rfl, (HB.out.setCell (by simp) _).setCell (by simp) _, (HRR.out.other (by simp) _ _).other (by simp) _ _, HXX.out.set2 _ _ (by omega) (by omega)⟩
        case measure => simp [intOf]
    | 3, _ =>
      obtain ⟨rn, hrn, hr1, hr2, hraw⟩ : ∃ rn : Int, (at_ + 3 < n → a = some ⟨g, off, none⟩ ∧ wr.cell? ⟨g, off + (at_ + 3), none⟩ = some (.int .i64 rn)) ∧ -9223372036854775808 ≤ rn ∧ rn ≤ 9223372036854775807 ∧ (n ≤ at_ + 3 → rn = 0) := by
        by_cases hlt : at_ + 3 < n
        · obtain ⟨x, hx, h1, h2⟩ := hc (at_ + 3) hlt
          exact ⟨x, fun _ => ⟨ha (by omega), (hb.cell (p := ⟨g, off + (at_ + 3), none⟩) (block_lt_of_cell hx)).trans hx⟩, h1, h2, fun h => by omega⟩
        · exact ⟨0, fun h => absurd h hlt, by omega, by omega, fun _ => rfl⟩
      have CW := hide (show Calls Tryd.prog 15 #[.int .i64 3] wr fun e w' => e = .returned (.int .i64 16) ∧ w' = wr from width_any 3 wr)
      have hP := pickV_range rn (n := 16) (by omega)
      have hQ := pickV_range (rn.tdiv 16) (n := 3) (by omega)
      have hd1 := tdiv16 hr1 hr2
      have hd3 := hd1.1
      have hd4 := hd1.2
      have hd2 : IntKind.i64.wrap (rn.tdiv 16) = rn.tdiv 16 := by rw [IntKind.wrap_i64]; omega
      have hat1 : IntKind.i64.wrap ((at_ : Int) + 3) = (at_ : Int) + 3 := by rw [IntKind.wrap_i64]; omega
      have hat2 : ((at_ : Int) + 3).toNat = at_ + 3 := by omega
      have hat3 : (0 : Int) ≤ (at_ : Int) + 3 := by omega
      have HC := hide hc
      have HA := hide ha
      have HB := hide hb
      have HRR := hide hr
      have HXX := hide hx
      obtain ⟨hfz, x0, x1, x2, x3, x4, g0, g1, g2, g3, g4, hkb⟩ := hx
      have hf0 := hfz 3
      have HFZ := hide hfz
      clear hfz hkb
      have hblt := block_lt_of_cell g0
      clear hc ha hb hr
      by_cases hlt : at_ + 3 < n
      · obtain ⟨rfl, hcell⟩ := hrn hlt
        have hli : (at_ : Int) + 3 < n := by omega
        clear hrn hraw
        go_wp2_with (first | (go_at_call 15; refine CW.out.mono ?_; rintro e w' ⟨rfl, hww⟩; rw [hww]; clear hww) | (go_at_call 8; refine (pick_any _ _ _ ?_ ?_ ?_ ?_).mono ?_; (omega); (omega); (omega); (omega); rintro e w' ⟨rfl, hww⟩; rw [hww]; clear hww))
        go_roundw
        case rel => exact ⟨4, by omega, rfl, (HB.out.setCell (by simp) _).setCell (by simp) _, (HRR.out.other (by simp) _ _).other (by simp) _ _, HXX.out.set3 _ _ (by omega) (by omega)⟩
        case measure => simp [intOf]
      · have hli : ¬ ((at_ : Int) + 3 < n) := by omega
        have hP0 := pickV_range 0 (n := 16) (by omega)
        have hQ0 := pickV_range 0 (n := 3) (by omega)
        clear hrn hraw
        go_wp2_with (first | (go_at_call 15; refine CW.out.mono ?_; rintro e w' ⟨rfl, hww⟩; rw [hww]; clear hww) | (go_at_call 8; refine (pick_any _ _ _ ?_ ?_ ?_ ?_).mono ?_; (omega); (omega); (omega); (omega); rintro e w' ⟨rfl, hww⟩; rw [hww]; clear hww))
        go_roundw
        case rel => exact ⟨4, by omega, rfl, (HB.out.setCell (by simp) _).setCell (by simp) _, (HRR.out.other (by simp) _ _).other (by simp) _ _, HXX.out.set3 _ _ (by omega) (by omega)⟩
        case measure => simp [intOf]
    | 4, _ =>
      obtain ⟨rn, hrn, hr1, hr2, hraw⟩ : ∃ rn : Int, (at_ + 4 < n → a = some ⟨g, off, none⟩ ∧ wr.cell? ⟨g, off + (at_ + 4), none⟩ = some (.int .i64 rn)) ∧ -9223372036854775808 ≤ rn ∧ rn ≤ 9223372036854775807 ∧ (n ≤ at_ + 4 → rn = 0) := by
        by_cases hlt : at_ + 4 < n
        · obtain ⟨x, hx, h1, h2⟩ := hc (at_ + 4) hlt
          exact ⟨x, fun _ => ⟨ha (by omega), (hb.cell (p := ⟨g, off + (at_ + 4), none⟩) (block_lt_of_cell hx)).trans hx⟩, h1, h2, fun h => by omega⟩
        · exact ⟨0, fun h => absurd h hlt, by omega, by omega, fun _ => rfl⟩
      have CW := hide (show Calls Tryd.prog 15 #[.int .i64 4] wr fun e w' => e = .returned (.int .i64 16) ∧ w' = wr from width_any 4 wr)
      have hP := pickV_range rn (n := 16) (by omega)
      have hQ := pickV_range (rn.tdiv 16) (n := 3) (by omega)
      have hd1 := tdiv16 hr1 hr2
      have hd3 := hd1.1
      have hd4 := hd1.2
      have hd2 : IntKind.i64.wrap (rn.tdiv 16) = rn.tdiv 16 := by rw [IntKind.wrap_i64]; omega
      have hat1 : IntKind.i64.wrap ((at_ : Int) + 4) = (at_ : Int) + 4 := by rw [IntKind.wrap_i64]; omega
      have hat2 : ((at_ : Int) + 4).toNat = at_ + 4 := by omega
      have hat3 : (0 : Int) ≤ (at_ : Int) + 4 := by omega
      have HC := hide hc
      have HA := hide ha
      have HB := hide hb
      have HRR := hide hr
      have HXX := hide hx
      obtain ⟨hfz, x0, x1, x2, x3, x4, g0, g1, g2, g3, g4, hkb⟩ := hx
      have hf0 := hfz 4
      have HFZ := hide hfz
      clear hfz hkb
      have hblt := block_lt_of_cell g0
      clear hc ha hb hr
      by_cases hlt : at_ + 4 < n
      · obtain ⟨rfl, hcell⟩ := hrn hlt
        have hli : (at_ : Int) + 4 < n := by omega
        clear hrn hraw
        go_wp2_with (first | (go_at_call 15; refine CW.out.mono ?_; rintro e w' ⟨rfl, hww⟩; rw [hww]; clear hww) | (go_at_call 8; refine (pick_any _ _ _ ?_ ?_ ?_ ?_).mono ?_; (omega); (omega); (omega); (omega); rintro e w' ⟨rfl, hww⟩; rw [hww]; clear hww))
        go_roundw
        case rel => exact ⟨5, by omega, rfl, (HB.out.setCell (by simp) _).setCell (by simp) _, (HRR.out.other (by simp) _ _).other (by simp) _ _, HXX.out.set4 _ _ (by omega) (by omega)⟩
        case measure => simp [intOf]
      · have hli : ¬ ((at_ : Int) + 4 < n) := by omega
        have hP0 := pickV_range 0 (n := 16) (by omega)
        have hQ0 := pickV_range 0 (n := 3) (by omega)
        clear hrn hraw
        go_wp2_with (first | (go_at_call 15; refine CW.out.mono ?_; rintro e w' ⟨rfl, hww⟩; rw [hww]; clear hww) | (go_at_call 8; refine (pick_any _ _ _ ?_ ?_ ?_ ?_).mono ?_; (omega); (omega); (omega); (omega); rintro e w' ⟨rfl, hww⟩; rw [hww]; clear hww))
        go_roundw
        case rel => exact ⟨5, by omega, rfl, (HB.out.setCell (by simp) _).setCell (by simp) _, (HRR.out.other (by simp) _ _).other (by simp) _ _, HXX.out.set4 _ _ (by omega) (by omega)⟩
        case measure => simp [intOf]
    | 5, _ =>
      obtain ⟨hf, x0, x1, x2, x3, x4, g0, g1, g2, g3, g4, hkb⟩ := hx
      obtain ⟨hrf, y0, y1, y2, y3, y4, r0, r1, r2, r3, r4, hkr⟩ := hr
      obtain ⟨dk, huk, hdk⟩ := underKey
      have f0 := hrf 0
      have f1 := hrf 1
      have f2 := hrf 2
      have f3 := hrf 3
      have f4 := hrf 4
      have HKB := hide hkb
      have HB := hide hb
      clear hf hrf hkb hkr hb hc ha
      go_wp2
      try simp only [Exit.inBlock, Exit.then]
      refine bodyPost_ret (results_mid rfl _ _ w.heap.size 0 [.int .i64 x0, .int .i64 x1, .int .i64 x2, .int .i64 x3, .int .i64 x4] dk rfl (range5 ?_ ?_ ?_ ?_ ?_) huk hdk sizeKey) rfl ?_
      · go_simp
      · go_simp
      · go_simp
      · go_simp
      · go_simp
      · refine ⟨x0, x1, x2, x3, x4, rfl, HKB.out, ?_⟩
        repeat (refine Below.setCell ?_ (by simp) _)
        exact HB.out

end Go.Proofs.YtaejpejfmpbinaaDoor
