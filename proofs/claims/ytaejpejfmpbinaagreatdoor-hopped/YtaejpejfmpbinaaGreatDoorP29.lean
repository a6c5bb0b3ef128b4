import Derived.Test.YtaejpejfmpbinaaGreatDoorP28
namespace Go.Proofs.YtaejpejfmpbinaaGreatDoor
open Go.RowKit Go.Maps
open Go.Sort (grow)

/-- The load of a rule, not laid open by the walk. -/
def loadR (v : Value) : Sem Value := Instr.loadAt 53 v
theorem loadR_fold (v : Value) : Instr.loadAt 53 v = loadR v := rfl
attribute [local go_sem ↓ high] loadR_fold

/-- The verdicts with one more. -/
def putV (V : Int → Int × Int) (id ac po : Int) : Int → Int × Int := fun x => if x = id then (ac, po) else V x
theorem VerdAt.put {w : World} {b n : Nat} {V : Int → Int × Int} (h : VerdAt w b n V) (id ac po : Int) (hi : (Lit.int .i64 id).wf = true) (hn : n < maxLen) :
    ∃ w', (Instr.mapUpdate 73 (.map (some b)) (.int .i64 id) (.agg #[.int .i64 ac, .int .i64 po])).run Tryz.prog w = .ok () w' ∧ VerdAt w' b (n + 1) (putV V id ac po) ∧ w.grownBy w' (some b) := by
  obtain ⟨D, hO, hV⟩ := h
  have hD : IsMap D := by obtain ⟨_, _, _, _, _, rfl⟩ := hO; exact ⟨_, rfl⟩
  obtain ⟨w', h1, h2, h3⟩ := hO.update keyI underVerd hn (keyOf_int_mk Tryz.underlying3 hi) (verdE_mk ac po)
  refine ⟨w', h1, ⟨_, h2, fun x hx => ?_⟩, h3⟩
  unfold putV
  by_cases e : x = id
  · subst e
    rw [if_pos rfl]
    exact atKey_put_same (k := .int .i64 x) hD trivial _ _
  · rw [if_neg e, atKey_put_other (by intro h; cases h; exact e rfl)]
    exact hV x hx

theorem VerdAt.same {w w' : World} {b n : Nat} {V : Int → Int × Int} (h : VerdAt w b n V) (hk : w'.heap[b]? = w.heap[b]?) : VerdAt w' b n V := by
  obtain ⟨D, ⟨es, cl, h1, h2⟩, hV⟩ := h
  exact ⟨D, ⟨es, cl, hk.trans h1, h2⟩, hV⟩
theorem VerdAt.obj {w : World} {b n : Nat} {V : Int → Int × Int} (h : VerdAt w b n V) : ∃ o, w.heap[b]? = some o ∧ o.isCells = false := by
  obtain ⟨D, ⟨es, cl, h1, h2⟩, hV⟩ := h
  exact ⟨_, h1, rfl⟩
theorem away_obj {w : World} {x : Nat} {o : Obj} (hl : Laid w) (h : w.heap[x]? = some o) (ho : o.isCells = false) : Away w x where
  zero := by rintro rfl; have := hl.1; rw [noCell h ho] at this; cases this
  ent r he := by have := he.c0; rw [noCell h ho] at this; cases this
  leaf a n c hc := by rw [noCell h ho] at hc; cases hc
  node f l bl hc _ _ := by rw [noCell h ho] at hc; cases hc
  bunch e r hc _ := by rw [noCell h ho] at hc; cases hc
/-- What Insert of a switch leaves. -/
def InsS (t vb n : Nat) (F : Nat → Prop) (L : List Ent) (V : Int → Int × Int) (r : Rl) (w w' : World) : Prop :=
  ∃ F' L' b, TabIs w' t F' L' ∧ (∀ x, F' x → F x ∨ w.heap.size ≤ x) ∧ Chg (fun x => F x ∨ x = vb) w w' ∧ (∀ x, x ∈ L' ↔ x = (b, r) ∨ x ∈ L) ∧ L'.length = L.length + 1 ∧ VerdAt w' vb (n + 1) (putV V r.id r.ac r.po)
theorem insS_of {w W1 w2 : World} {t vb n : Nat} {F : Nat → Prop} {L : List Ent} {V : Int → Int × Int} {r : Rl} (hB : Below w.heap.size w W1) (hI : InsTab W1.drew w2 t F L r) (hV : VerdAt w vb n V) (hn : n < maxLen) (hi : (Lit.int .i64 r.id).wf = true) (hFv : ¬ F vb) (hc : insCode L r = 0) :
    ∃ w3, (Instr.mapUpdate 73 (.map (some vb)) (.int .i64 r.id) (.agg #[.int .i64 r.ac, .int .i64 r.po])).run Tryz.prog w2.drew = .ok () w3 ∧ InsS t vb n F L V r w w3 := by
  obtain ⟨F', L', hT2, hF2, hC2, hL2⟩ := hI
  rw [if_pos hc] at hL2
  obtain ⟨b, hm2, hl2⟩ := hL2
  have hV1 := hV.below hB
  obtain ⟨o, ho, hoc⟩ := hV.obj
  have hvl : vb < w.heap.size := lt_of_heap ho
  have hV2 : VerdAt w2.drew vb n V := hV1.same (hC2.block vb (Nat.lt_of_lt_of_le hvl hB.size) hFv)
  obtain ⟨o2, ho2, hoc2⟩ := hV2.obj
  obtain ⟨w3, hup, hV3, hg⟩ := hV2.put r.id r.ac r.po hi hn
  have hc3 : Chg (fun x => x = vb) w2 w3 := ⟨hg.os, hg.tape, hg.output, hg.size, fun x hx hne => hg.block x hx (by simpa using hne)⟩
  refine ⟨w3, hup, F', L', b, hT2.away hc3 (by rintro x rfl; exact away_obj hT2.laid ho2 hoc2) ?_, ?_, ?_, hm2, hl2, hV3⟩
  · rintro x hx rfl
    rcases hF2 x hx with h | h
    · exact hFv h
    · have h1 : W1.heap.size ≤ x := h
      have h2 := hB.size
      omega
  · intro x hx
    rcases hF2 x hx with h | h
    · exact .inl h
    · have h1 : W1.heap.size ≤ x := h
      have h2 := hB.size
      exact .inr (by omega)
  · have c1 : Chg (fun x => F x ∨ x = vb) w W1.drew := Chg.of_below hB.drew
    exact (c1.trans (hC2.mono fun x _ hx => .inl hx)).trans (hc3.mono fun x _ hx => .inr hx)

set_option maxRecDepth 100000 in
set_option maxHeartbeats 2000000 in
/-- What Insert of a switch leaves, for a rule that lacks no port. -/
theorem sInsert_any (s t vb n : Nat) (pv : Value) (P : List Prt) (F : Nat → Prop) (L : List Ent) (V : Int → Int × Int) (r : Rl) (w : World) (h0 : w.cell? ⟨s, 0, none⟩ = some pv) (hp : PortsAt w pv P) (hr : r.ac = 2 → 0 ≤ r.po ∧ r.po < P.length) (h3 : w.cell? ⟨s, 3, none⟩ = some (.pointer (some ⟨t, 0, none⟩))) (hT : TabIs w t F L)
    (h4 : w.cell? ⟨s, 4, none⟩ = some (.map (some vb))) (hV : VerdAt w vb n V) (hn : n < maxLen) (hi : (Lit.int .i64 r.id).wf = true) (hFs : ¬ F s) (hFv : ¬ F vb) (hFl : ∀ x, F x → x < w.heap.size) (hc : insCode L r = 0) :
    Calls Tryz.prog 18 #[.pointer (some ⟨s, 0, none⟩), .agg #[.int .i64 r.id, .int .i64 r.pr, .int .i64 r.k0, .int .i64 r.v0, .int .i64 r.m0, .int .i64 r.k1, .int .i64 r.v1, .int .i64 r.m1, .int .i64 r.k2, .int .i64 r.v2, .int .i64 r.m2, .int .i64 r.k3, .int .i64 r.v3, .int .i64 r.m3, .int .i64 r.k4, .int .i64 r.v4, .int .i64 r.m4, .int .i64 r.ac, .int .i64 r.po]] w fun e w' => e = .returned (.int .i64 0) ∧ InsS t vb n F L V r w w' := by
  obtain ⟨dr, hur, hdr⟩ := underRule
  obtain ⟨W0, hW0⟩ : ∃ W0, W0 = w.alloc (.cells #[.int .i64 r.id, .int .i64 r.pr, .int .i64 r.k0, .int .i64 r.v0, .int .i64 r.m0, .int .i64 r.k1, .int .i64 r.v1, .int .i64 r.m1, .int .i64 r.k2, .int .i64 r.v2, .int .i64 r.m2, .int .i64 r.k3, .int .i64 r.v3, .int .i64 r.m3, .int .i64 r.k4, .int .i64 r.v4, .int .i64 r.m4, .int .i64 r.ac, .int .i64 r.po] 53) := ⟨_, rfl⟩
  have hB : Below w.heap.size w W0 := by rw [hW0]; exact (Below.refl _ w).alloc (Nat.le_refl _) _
  have hbx : W0.heap[w.heap.size]? = some (.cells #[.int .i64 r.id, .int .i64 r.pr, .int .i64 r.k0, .int .i64 r.v0, .int .i64 r.m0, .int .i64 r.k1, .int .i64 r.v1, .int .i64 r.m1, .int .i64 r.k2, .int .i64 r.v2, .int .i64 r.m2, .int .i64 r.k3, .int .i64 r.v3, .int .i64 r.m3, .int .i64 r.k4, .int .i64 r.v4, .int .i64 r.m4, .int .i64 r.ac, .int .i64 r.po] 53 (0, 0)) := by rw [hW0]; exact allocN _ _
  have hr0 : W0.rangeAt w.heap.size 0 [.int .i64 r.id, .int .i64 r.pr, .int .i64 r.k0, .int .i64 r.v0, .int .i64 r.m0, .int .i64 r.k1, .int .i64 r.v1, .int .i64 r.m1, .int .i64 r.k2, .int .i64 r.v2, .int .i64 r.m2, .int .i64 r.k3, .int .i64 r.v3, .int .i64 r.m3, .int .i64 r.k4, .int .i64 r.v4, .int .i64 r.m4, .int .i64 r.ac, .int .i64 r.po] := by rw [hW0]; exact range_new _ _ _
  have CL := hide (lacksN_any s pv P r W0 (cell_later hB h0) (hp.below hB) hr)
  have hrg : (w.alloc (.cells #[.int .i64 r.id, .int .i64 r.pr, .int .i64 r.k0, .int .i64 r.v0, .int .i64 r.m0, .int .i64 r.k1, .int .i64 r.v1, .int .i64 r.m1, .int .i64 r.k2, .int .i64 r.v2, .int .i64 r.m2, .int .i64 r.k3, .int .i64 r.v3, .int .i64 r.m3, .int .i64 r.k4, .int .i64 r.v4, .int .i64 r.m4, .int .i64 r.ac, .int .i64 r.po] 53)).rangeAt w.heap.size 0 [.int .i64 r.id, .int .i64 r.pr, .int .i64 r.k0, .int .i64 r.v0, .int .i64 r.m0, .int .i64 r.k1, .int .i64 r.v1, .int .i64 r.m1, .int .i64 r.k2, .int .i64 r.v2, .int .i64 r.m2, .int .i64 r.k3, .int .i64 r.v3, .int .i64 r.m3, .int .i64 r.k4, .int .i64 r.v4, .int .i64 r.m4, .int .i64 r.ac, .int .i64 r.po] := by rw [← hW0]; exact hr0
  have HW := hide hW0
  have HB := hide hB
  have HT := hide hT
  have HV := hide hV
  have HX := hide hbx
  have H3 := hide h3
  have H4 := hide h4
  clear hW0 hB h0 hp hr hT hV hbx h3 h4 hr0
  have hld0 : (loadR (.pointer (some ⟨w.heap.size, 0, none⟩))).run Tryz.prog (w.alloc (.cells #[.int .i64 r.id, .int .i64 r.pr, .int .i64 r.k0, .int .i64 r.v0, .int .i64 r.m0, .int .i64 r.k1, .int .i64 r.v1, .int .i64 r.m1, .int .i64 r.k2, .int .i64 r.v2, .int .i64 r.m2, .int .i64 r.k3, .int .i64 r.v3, .int .i64 r.m3, .int .i64 r.k4, .int .i64 r.v4, .int .i64 r.m4, .int .i64 r.ac, .int .i64 r.po] 53)) = .ok (.agg #[.int .i64 r.id, .int .i64 r.pr, .int .i64 r.k0, .int .i64 r.v0, .int .i64 r.m0, .int .i64 r.k1, .int .i64 r.v1, .int .i64 r.m1, .int .i64 r.k2, .int .i64 r.v2, .int .i64 r.m2, .int .i64 r.k3, .int .i64 r.v3, .int .i64 r.m3, .int .i64 r.k4, .int .i64 r.v4, .int .i64 r.m4, .int .i64 r.ac, .int .i64 r.po]) (w.alloc (.cells #[.int .i64 r.id, .int .i64 r.pr, .int .i64 r.k0, .int .i64 r.v0, .int .i64 r.m0, .int .i64 r.k1, .int .i64 r.v1, .int .i64 r.m1, .int .i64 r.k2, .int .i64 r.v2, .int .i64 r.m2, .int .i64 r.k3, .int .i64 r.v3, .int .i64 r.m3, .int .i64 r.k4, .int .i64 r.v4, .int .i64 r.m4, .int .i64 r.ac, .int .i64 r.po] 53)) := run_loadAt_mid _ w.heap.size 0 53 [.int .i64 r.id, .int .i64 r.pr, .int .i64 r.k0, .int .i64 r.v0, .int .i64 r.m0, .int .i64 r.k1, .int .i64 r.v1, .int .i64 r.m1, .int .i64 r.k2, .int .i64 r.v2, .int .i64 r.m2, .int .i64 r.k3, .int .i64 r.v3, .int .i64 r.m3, .int .i64 r.k4, .int .i64 r.v4, .int .i64 r.m4, .int .i64 r.ac, .int .i64 r.po] dr hrg hur hdr sizeRule
  clear hrg
  go_enter Tryz.func18, Tryz.ntmps18
  go_wp2_with fail
  rw [← HW.out]
  refine CL.out.mono ?_
  rintro e W1 ⟨rfl, hb1⟩
  have hBW : Below w.heap.size w W1 := HB.out.trans (hb1.mono HB.out.size)
  have X1 : W1.heap[w.heap.size]? = some (.cells #[.int .i64 r.id, .int .i64 r.pr, .int .i64 r.k0, .int .i64 r.v0, .int .i64 r.m0, .int .i64 r.k1, .int .i64 r.v1, .int .i64 r.m1, .int .i64 r.k2, .int .i64 r.v2, .int .i64 r.m2, .int .i64 r.k3, .int .i64 r.v3, .int .i64 r.m3, .int .i64 r.k4, .int .i64 r.v4, .int .i64 r.m4, .int .i64 r.ac, .int .i64 r.po] 53 (0, 0)) := (hb1.block _ (lt_of_heap HX.out)).trans HX.out
  have k3 := cell_later hBW H3.out
  have k4 := cell_later hBW H4.out
  have hr1 : W1.rangeAt w.heap.size 0 [.int .i64 r.id, .int .i64 r.pr, .int .i64 r.k0, .int .i64 r.v0, .int .i64 r.m0, .int .i64 r.k1, .int .i64 r.v1, .int .i64 r.m1, .int .i64 r.k2, .int .i64 r.v2, .int .i64 r.m2, .int .i64 r.k3, .int .i64 r.v3, .int .i64 r.m3, .int .i64 r.k4, .int .i64 r.v4, .int .i64 r.m4, .int .i64 r.ac, .int .i64 r.po] := by
    have h := range_new w #[.int .i64 r.id, .int .i64 r.pr, .int .i64 r.k0, .int .i64 r.v0, .int .i64 r.m0, .int .i64 r.k1, .int .i64 r.v1, .int .i64 r.m1, .int .i64 r.k2, .int .i64 r.v2, .int .i64 r.m2, .int .i64 r.k3, .int .i64 r.v3, .int .i64 r.m3, .int .i64 r.k4, .int .i64 r.v4, .int .i64 r.m4, .int .i64 r.ac, .int .i64 r.po] 53
    rw [← HW.out] at h
    exact rangeAt_below h hb1
  have hld1 : (loadR (.pointer (some ⟨w.heap.size, 0, none⟩))).run Tryz.prog W1.drew = .ok (.agg #[.int .i64 r.id, .int .i64 r.pr, .int .i64 r.k0, .int .i64 r.v0, .int .i64 r.m0, .int .i64 r.k1, .int .i64 r.v1, .int .i64 r.m1, .int .i64 r.k2, .int .i64 r.v2, .int .i64 r.m2, .int .i64 r.k3, .int .i64 r.v3, .int .i64 r.m3, .int .i64 r.k4, .int .i64 r.v4, .int .i64 r.m4, .int .i64 r.ac, .int .i64 r.po]) W1.drew := run_loadAt_mid W1.drew w.heap.size 0 53 [.int .i64 r.id, .int .i64 r.pr, .int .i64 r.k0, .int .i64 r.v0, .int .i64 r.m0, .int .i64 r.k1, .int .i64 r.v1, .int .i64 r.m1, .int .i64 r.k2, .int .i64 r.v2, .int .i64 r.m2, .int .i64 r.k3, .int .i64 r.v3, .int .i64 r.m3, .int .i64 r.k4, .int .i64 r.v4, .int .i64 r.m4, .int .i64 r.ac, .int .i64 r.po] dr hr1 hur hdr sizeRule
  have CI : Hid (∀ W : World, Below W1.heap.size W1 W → Calls Tryz.prog 42 #[.pointer (some ⟨t, 0, none⟩), .agg #[.int .i64 r.id, .int .i64 r.pr, .int .i64 r.k0, .int .i64 r.v0, .int .i64 r.m0, .int .i64 r.k1, .int .i64 r.v1, .int .i64 r.m1, .int .i64 r.k2, .int .i64 r.v2, .int .i64 r.m2, .int .i64 r.k3, .int .i64 r.v3, .int .i64 r.m3, .int .i64 r.k4, .int .i64 r.v4, .int .i64 r.m4, .int .i64 r.ac, .int .i64 r.po]] W fun e w' => e = .returned (.int .i64 0) ∧ InsTab W w' t F L r) := hide fun W hb => by
    have h := tins_any t r W F L ((HT.out.still hBW).still hb)
    rw [hc] at h
    exact h
  have HBW := hide hBW
  have HX1 := hide X1
  have hslt := block_lt_of_cell k3
  have TAIL : Hid (∀ w2, InsTab W1.drew w2 t F L r → w2.cell? ⟨s, 4, none⟩ = some (.map (some vb)) ∧ w2.cell? ⟨w.heap.size, 0, none⟩ = some (.int .i64 r.id) ∧ w2.cell? ⟨w.heap.size, 17, none⟩ = some (.int .i64 r.ac) ∧ w2.cell? ⟨w.heap.size, 18, none⟩ = some (.int .i64 r.po) ∧ s < w2.heap.size ∧ w.heap.size < w2.heap.size) := hide fun w2 hI => by
    obtain ⟨_, _, _, _, hc2, _⟩ := hI
    have hnb : ¬ F w.heap.size := fun h => by have := hFl _ h; omega
    have e4 : w2.cell? ⟨s, 4, none⟩ = some (.map (some vb)) := hc2.block.cell hFs k4
    have e0 : w2.cell? ⟨w.heap.size, 0, none⟩ = some (.int .i64 r.id) := hc2.block.cell hnb (show W1.cell? _ = _ from cellRow X1 rfl)
    exact ⟨e4, e0, hc2.block.cell hnb (show W1.cell? _ = _ from cellRow X1 rfl), hc2.block.cell hnb (show W1.cell? _ = _ from cellRow X1 rfl), block_lt_of_cell e4, block_lt_of_cell e0⟩
  have FIN : Hid (∀ w2, InsTab W1.drew w2 t F L r → ∃ w3, (Instr.mapUpdate 73 (.map (some vb)) (.int .i64 r.id) (.agg #[.int .i64 r.ac, .int .i64 r.po])).run Tryz.prog w2.drew = .ok () w3 ∧ InsS t vb n F L V r w w3) := hide fun w2 hI => insS_of hBW hI HV.out hn hi hFv hc
  clear hb1 hBW X1 hr1 CL HW HB HX hld0 hn hi hFv hFl hc HV
  go_wp2_with fail
  go_region_with
    (first | (go_at_call 42; refine (CI.out _ ?_).mono ?_; (exact (Below.refl _ W1).drew); rintro e w2 ⟨rfl, hI⟩; have HI := hide hI; have z3 : w2.cell? ⟨s, 3, none⟩ = some (.pointer (some ⟨t, 0, none⟩)) := (by obtain ⟨_, _, _, _, hc2, _⟩ := hI; exact hc2.block.cell hFs k3); clear hI))
  all_goals
    obtain ⟨z4, y0, y17, y18, hsl, hwl⟩ := TAIL.out _ HI.out
    obtain ⟨w3, hup, hF⟩ := FIN.out _ HI.out
    have HF := hide hF
    clear hF TAIL FIN HI hld1 CI z3
    go_wp2
    go_region_with (fail)
    all_goals
      go_wp2
      go_ret
      exact ⟨rfl, HF.out⟩
end Go.Proofs.YtaejpejfmpbinaaGreatDoor
