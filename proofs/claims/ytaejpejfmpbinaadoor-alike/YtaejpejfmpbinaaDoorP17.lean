import Derived.Test.YtaejpejfmpbinaaDoorP15
namespace Go.Proofs.YtaejpejfmpbinaaDoor
open Go.RowKit Go.Shelf

theorem ent_range {W : World} {b : Nat} {r : Rl} (h : EntAt W b r) : W.rangeAt b 0 [.int .i64 r.id, .int .i64 r.pr, .int .i64 r.k0, .int .i64 r.v0, .int .i64 r.m0, .int .i64 r.k1, .int .i64 r.v1, .int .i64 r.m1, .int .i64 r.k2, .int .i64 r.v2, .int .i64 r.m2, .int .i64 r.k3, .int .i64 r.v3, .int .i64 r.m3, .int .i64 r.k4, .int .i64 r.v4, .int .i64 r.m4, .int .i64 r.ac, .int .i64 r.po] := fun j u hu => by
  have hj : j < 19 := (List.getElem?_eq_some_iff.1 hu).1
  rw [Nat.zero_add, h j (by omega)]
  match j, hj, hu with
  | 0, _, hu => exact hu
  | 1, _, hu => exact hu
  | 2, _, hu => exact hu
  | 3, _, hu => exact hu
  | 4, _, hu => exact hu
  | 5, _, hu => exact hu
  | 6, _, hu => exact hu
  | 7, _, hu => exact hu
  | 8, _, hu => exact hu
  | 9, _, hu => exact hu
  | 10, _, hu => exact hu
  | 11, _, hu => exact hu
  | 12, _, hu => exact hu
  | 13, _, hu => exact hu
  | 14, _, hu => exact hu
  | 15, _, hu => exact hu
  | 16, _, hu => exact hu
  | 17, _, hu => exact hu
  | 18, _, hu => exact hu
  | j + 19, h, _ => exact absurd h (by omega)
theorem ownsRow_some {w : World} {B : Nat} {t : TypeId} {s n : Nat} {v : Value} {xs : List Value} (h : w.ownsRow B t s v n xs) (hv : v ≠ .slice none 0 0) : ∃ g cap, v = .slice (some ⟨g, 0, none⟩) n cap := by
  rcases h.2 with ⟨e, _⟩ | ⟨g, cap, cur, e, _⟩
  · exact absurd e hv
  · exact ⟨g, cap, e⟩
attribute [local go_sem] Oper.semAt_some
/-- append, not laid open by the walk. -/
def appSem (ats : Array TypeId) (ty : TypeId) (args : Array Value) : Sem Next := do pure (.value (← Builtin.append_ ats ty args))
theorem builtin_app (ats : Array TypeId) (ty : TypeId) (cs : Array Bool) (args : Array Value) : builtin .append ats ty cs args = appSem ats ty args := rfl
theorem appSem_run {P : Program} {ats : Array TypeId} {ty : TypeId} {args : Array Value} {w w' : World} {v : Value} (h : (Builtin.append_ ats ty args).run P w = .ok v w') : (appSem ats ty args).run P w = .ok (.value v) w' := by
  simp [appSem, h, Result.andThen]
/-- The load of a rule, not laid open by the walk. -/
def loadSem (v : Value) : Sem Value := Instr.loadAt 31 v
theorem loadAt_fold (v : Value) : Instr.loadAt 31 v = loadSem v := rfl
attribute [local go_sem high] buildRules
attribute [local go_sem ↓ high] builtin_app loadAt_fold

set_option maxRecDepth 100000 in
set_option maxHeartbeats 2000000 in
theorem rules_walk (t b2 : Nat) (sv : Value) (w : World) (Ls : List { e : Ent // EntAt w e.1 e.2 ∧ e.2.ok = true }) (hlen : Ls.length ≤ 200)
    (ht1 : w.cell? ⟨t, 1, none⟩ = some (.pointer (some ⟨b2, 0, none⟩))) (hb2 : w.cell? ⟨b2, 1, none⟩ = some sv) (hrow : RankRow w.heap.size w sv (Ls.map (·.1))) :
    Calls Tryd.prog 12 #[.pointer (some ⟨t, 0, none⟩)] w fun e w' => ∃ g cap, e = .returned (.slice (some ⟨g, 0, none⟩) Ls.length cap) ∧ w'.ownsRow w.heap.size 31 19 (.slice (some ⟨g, 0, none⟩) Ls.length cap) Ls.length (rowL (Ls.map fun x => x.1.2)) ∧ Below w.heap.size w w' := by
  have htlt := block_lt_of_cell ht1
  have hb2lt := block_lt_of_cell hb2
  obtain ⟨dr, hur, hdr⟩ := underRule
  obtain ⟨i0, hi, hz0, hz1, hz2⟩ := info_parts infoRule
  have hrow0 := hrow
  obtain ⟨ra, rcap, rfl, _⟩ := hrow0
  rw [List.length_map] at hb2
  refine (callsIn_wide (n := 5)).1 ?_
  have hro : Fence.wide.round = none := rfl
  refine callsIn_of_wp_marks Tryd.func12 rfl trivial ?_ hro
  simp only [Tryd.ntmps12, List.size_toArray, List.length_cons, List.length_nil, Nat.reduceAdd, Nat.reduceSub, Array.replicate_succ, Array.replicate_zero, List.push_toArray, List.append_toArray, List.nil_append, List.cons_append]
  gi_wp2_with (first | (refine ⟨trivial, ?_⟩; gi_at_call 28; refine (callsIn_wide.2 (lenR_any b2 ra Ls.length rcap _ hb2)).mono ?_; rintro e w' ⟨rfl, hww⟩; rw [hww]; clear hww) | (gi_at_make; refine wpListIn_make_own _ rfl _ _ 26 rfl w.heap.size 31 i0 _ 19 underRules hi hz0 hz1 .i64 .i64 _ Ls.length rfl rfl rfl (by rw [hz2]; omega) (by unfold maxLen; omega) (Nat.le_refl _) ?_; intro w0 hown0 hgrow0; have hb0 : Below w.heap.size w w0 := Below.of_grown hgrow0 (Nat.le_refl _) (fun x hx => by cases hx); have k1 : w0.cell? ⟨t, 1, none⟩ = some (.pointer (some ⟨b2, 0, none⟩)) := (hb0.cell (p := ⟨t, 1, none⟩) htlt).trans ht1; have htl0 : t < w0.heap.size := Nat.lt_of_lt_of_le htlt hb0.size) | (refine ⟨trivial, ?_⟩; gi_at_call 29; refine (all_in Fence.wide 4 trivial hro b2 _).mono ?_; rintro e w' ⟨rfl, rfl⟩))
  have hs0 := hb0.size
  have bO := (Boxed.new w0 26 (.slice (some ⟨w.heap.size, 0, none⟩) 0 Ls.length)).alloc (.cells #[.pointer (some ⟨b2, 0, none⟩)] 53)
  have bN := Boxed.new (w0.alloc (.cells #[.slice (some ⟨w.heap.size, 0, none⟩) 0 Ls.length] 26)) 53 (.pointer (some ⟨b2, 0, none⟩))
  simp only [World.size_alloc] at bO bN
  have hB0 : Below w.heap.size w ((w0.alloc (.cells #[.slice (some ⟨w.heap.size, 0, none⟩) 0 Ls.length] 26)).alloc (.cells #[.pointer (some ⟨b2, 0, none⟩)] 53)) := (hb0.alloc hs0 _).alloc (by simp; omega) _
  have hsz0 : ((w0.alloc (.cells #[.slice (some ⟨w.heap.size, 0, none⟩) 0 Ls.length] 26)).alloc (.cells #[.pointer (some ⟨b2, 0, none⟩)] 53)).heap.size = w0.heap.size + 2 := by simp
  have hcb2 := (hB0.cell (p := ⟨b2, 1, none⟩) hb2lt).trans hb2
  have hO0 := (hown0.alloc (.cells #[.slice (some ⟨w.heap.size, 0, none⟩) 0 Ls.length] 26)).alloc (.cells #[.pointer (some ⟨b2, 0, none⟩)] 53)
  rw [List.length_map] at hrow
  refine wpIn_rangeFunc_ownG hro (by omega) (gf := 49) (lb := #[.pointer (some ⟨w0.heap.size + 1, 0, none⟩)]) rfl trivial (enters_of Tryd.func49 (by kernel_rfl) rfl)
    (all_stops Fence.wide 4 trivial hro (by omega) (w0.heap.size + 1) b2 w.heap.size (.slice ra Ls.length rcap) Ls hlen _ (by omega) hb2lt (by omega) bN.cell hcb2 (hrow.below hB0)) belowK_t (belowK_b (by omega)) (Below.refl _ _) (fun _ => rfl)
    (fun pre W => (∃ v, Boxed W w0.heap.size 26 v ∧ W.ownsRow w.heap.size 31 19 v pre.length (rowL (pre.map fun x => x.1.2)) ∧ v ≠ .slice none 0 0) ∧ Below w.heap.size w W)
    (fun _ _ _ => False)
    (OwnFrom.and (Own.from (holdsRow_own w.heap.size w0.heap.size 26 31 19 (fun (pre : List { e : Ent // EntAt w e.1 e.2 ∧ e.2.ok = true }) => pre.length) (fun pre => rowL (pre.map fun x => x.1.2)) (fun _ v => v ≠ .slice none 0 0)) _) (ownFrom_below (Nat.le_refl _) (by omega)))
    (fun _ _ _ _ _ hs _ _ => hs)
    ⟨⟨_, bO, hO0, by simp⟩, hB0⟩
    (fun x => { tmps := #[.pointer (some ⟨t, 0, none⟩), undef, .slice none 0 0, .pointer (some ⟨w0.heap.size, 0, none⟩), undef, .pointer (some ⟨x.1.1, 0, none⟩), .pointer (some ⟨t, 0, none⟩), .pointer (some ⟨t, 0, none⟩), .pointer (some ⟨t, 1, none⟩), .pointer (some ⟨b2, 0, none⟩), .int .i64 Ls.length, .slice (some ⟨w.heap.size, 0, none⟩) 0 Ls.length, .pointer (some ⟨t, 0, none⟩), .pointer (some ⟨t, 0, none⟩), .pointer (some ⟨t, 1, none⟩), .pointer (some ⟨b2, 0, none⟩), .func (.func 49) #[] #[.pointer (some ⟨w0.heap.size + 1, 0, none⟩)], .agg #[.int .i64 x.1.2.pr, .int .i64 x.1.2.id], .pointer (some ⟨x.1.1, 0, none⟩), undef, undef, undef, undef, undef, undef, undef, undef], defers := [] }) ?assign ?body ?done ?stop
  case assign =>
    intro l x W K hK
    simp only [encE]
    gi_wp2
    exact hK
  case body =>
    rintro l pre x W ⟨⟨v, hv, hrow', hnn⟩, hB⟩ hlt
    have hmx : Tryd.prog.follows .mixedOrders = true := by kernel_rfl
    obtain ⟨g, cp, rfl⟩ := ownsRow_some hrow' hnn
    have heW : EntAt W x.1.1 x.1.2 := x.2.1.below hB x.2.1.lt
    have hrg := ent_range heW
    have hld : (loadSem (.pointer (some ⟨x.1.1, 0, none⟩))).run Tryd.prog W.drew = .ok (.agg #[.int .i64 x.1.2.id, .int .i64 x.1.2.pr, .int .i64 x.1.2.k0, .int .i64 x.1.2.v0, .int .i64 x.1.2.m0, .int .i64 x.1.2.k1, .int .i64 x.1.2.v1, .int .i64 x.1.2.m1, .int .i64 x.1.2.k2, .int .i64 x.1.2.v2, .int .i64 x.1.2.m2, .int .i64 x.1.2.k3, .int .i64 x.1.2.v3, .int .i64 x.1.2.m3, .int .i64 x.1.2.k4, .int .i64 x.1.2.v4, .int .i64 x.1.2.m4, .int .i64 x.1.2.ac, .int .i64 x.1.2.po]) W.drew := run_loadAt_mid W.drew x.1.1 0 31 [.int .i64 x.1.2.id, .int .i64 x.1.2.pr, .int .i64 x.1.2.k0, .int .i64 x.1.2.v0, .int .i64 x.1.2.m0, .int .i64 x.1.2.k1, .int .i64 x.1.2.v1, .int .i64 x.1.2.m1, .int .i64 x.1.2.k2, .int .i64 x.1.2.v2, .int .i64 x.1.2.m2, .int .i64 x.1.2.k3, .int .i64 x.1.2.v3, .int .i64 x.1.2.m3, .int .i64 x.1.2.k4, .int .i64 x.1.2.v4, .int .i64 x.1.2.m4, .int .i64 x.1.2.ac, .int .i64 x.1.2.po] dr (by simpa using hrg) hur hdr sizeRule
    have hcn : ∀ j u, (rowL [x.1.2])[j]? = some u → (W.alloc (.cells #[.int .i64 x.1.2.id, .int .i64 x.1.2.pr, .int .i64 x.1.2.k0, .int .i64 x.1.2.v0, .int .i64 x.1.2.m0, .int .i64 x.1.2.k1, .int .i64 x.1.2.v1, .int .i64 x.1.2.m1, .int .i64 x.1.2.k2, .int .i64 x.1.2.v2, .int .i64 x.1.2.m2, .int .i64 x.1.2.k3, .int .i64 x.1.2.v3, .int .i64 x.1.2.m3, .int .i64 x.1.2.k4, .int .i64 x.1.2.v4, .int .i64 x.1.2.m4, .int .i64 x.1.2.ac, .int .i64 x.1.2.po] 31)).drew.cell? ((⟨W.heap.size, 0, none⟩ : Addr).add j) = some u := cells_new W x.1.2 31
    have hrd : (W.alloc (.cells #[.int .i64 x.1.2.id, .int .i64 x.1.2.pr, .int .i64 x.1.2.k0, .int .i64 x.1.2.v0, .int .i64 x.1.2.m0, .int .i64 x.1.2.k1, .int .i64 x.1.2.v1, .int .i64 x.1.2.m1, .int .i64 x.1.2.k2, .int .i64 x.1.2.v2, .int .i64 x.1.2.m2, .int .i64 x.1.2.k3, .int .i64 x.1.2.v3, .int .i64 x.1.2.m3, .int .i64 x.1.2.k4, .int .i64 x.1.2.v4, .int .i64 x.1.2.m4, .int .i64 x.1.2.ac, .int .i64 x.1.2.po] 31)).drew.ownsRow w.heap.size 31 19 (.slice (some ⟨g, 0, none⟩) pre.length cp) pre.length (rowL (pre.map fun x => x.1.2)) := hrow'.alloc _
    obtain ⟨v', w1, hap, hown', hgr0, hiff⟩ := run_append_own (P := Tryd.prog) (W.alloc (.cells #[.int .i64 x.1.2.id, .int .i64 x.1.2.pr, .int .i64 x.1.2.k0, .int .i64 x.1.2.v0, .int .i64 x.1.2.m0, .int .i64 x.1.2.k1, .int .i64 x.1.2.v1, .int .i64 x.1.2.m1, .int .i64 x.1.2.k2, .int .i64 x.1.2.v2, .int .i64 x.1.2.m2, .int .i64 x.1.2.k3, .int .i64 x.1.2.v3, .int .i64 x.1.2.m3, .int .i64 x.1.2.k4, .int .i64 x.1.2.v4, .int .i64 x.1.2.m4, .int .i64 x.1.2.ac, .int .i64 x.1.2.po] 31)).drew w.heap.size 26 26 31 i0 _ 19 152 underRules hi hz0 hz1 hz2 rfl (by decide) (.slice (some ⟨g, 0, none⟩) pre.length cp) pre.length (rowL (pre.map fun x => x.1.2)) hrd ⟨W.heap.size, 0, none⟩ 1 1 (rowL [x.1.2]) (rowL_length _) hcn (rowL_one _) (by unfold maxLen; omega) (by omega) (by have := hB.size; simp; omega)
    have hgr : (W.alloc (.cells #[.int .i64 x.1.2.id, .int .i64 x.1.2.pr, .int .i64 x.1.2.k0, .int .i64 x.1.2.v0, .int .i64 x.1.2.m0, .int .i64 x.1.2.k1, .int .i64 x.1.2.v1, .int .i64 x.1.2.m1, .int .i64 x.1.2.k2, .int .i64 x.1.2.v2, .int .i64 x.1.2.m2, .int .i64 x.1.2.k3, .int .i64 x.1.2.v3, .int .i64 x.1.2.m3, .int .i64 x.1.2.k4, .int .i64 x.1.2.v4, .int .i64 x.1.2.m4, .int .i64 x.1.2.ac, .int .i64 x.1.2.po] 31)).grownBy w1 (Value.ownBlock (.slice (some ⟨g, 0, none⟩) pre.length cp)) := ⟨hgr0.os, hgr0.tape, hgr0.output, hgr0.size, hgr0.block⟩
    obtain ⟨g', cp', rfl⟩ := ownsRow_some hown' (fun e => by have := hiff.1 e; simp at this)
    have hap2 := appSem_run hap
    clear hap
    obtain ⟨hv2, hv3, hr3, hk3, hb3⟩ := hv.appended (by decide) hrow' hB.size hs0 hown' hgr
    have hc0 := hv.cell
    have hc2 := hv2.cell
    have hf2 := hv2.frozen
    have HV3 := hide hv3
    have HR3 := hide hr3
    have HK3 := hide hk3
    have HB3 := hide hb3
    have HB := hide hB
    have hxlt : x.1.1 < W.heap.size := heW.lt
    have hbl : w0.heap.size < W.heap.size := hv.lt
    clear hv hrow' hnn hB heW hrg hcn hrd hown' hgr hgr0 hiff hv2 hv3 hr3 hk3 hb3
    gi_wp2
    gi_region_with_o (fail)
    all_goals
      gi_wp2
      exact ⟨HK3.out.from _, HB3.out, ⟨⟨_, HV3.out, by rw [List.map_append, rowL_append, List.length_append]; exact HR3.out, by simp⟩, HB.out.trans HB3.out⟩⟩
  case done =>
    rintro D ys W hD rfl ⟨⟨v, hv, hrow', hnn⟩, hB⟩ hK
    obtain ⟨g, cp, rfl⟩ := ownsRow_some hrow' hnn
    have hcv := hv.cell
    have HR := hide hrow'
    have HB := hide hB
    have HK := hide hK
    have HD := hide hD
    clear hv hrow' hnn hB hK hD bO bN hB0 hsz0 hcb2 hO0
    gi_wp2
    have HK2 := HK.out
    refine ⟨by simp, .inl ⟨_, _, rfl, run_takeDeferred HK2, ?_⟩⟩
    have hg := grownBy_putObj' W D (.deferred none)
    have hD2 : w.heap.size ≤ D := by have := HD.out; simp at this; omega
    refine ⟨_, results_tmp rfl _ _ _, g, cp, rfl, HR.out.kept hg (.inr ?_), HB.out.trans (Below.of_grown hg HB.out.size (fun x hx => by cases hx; exact hD2))⟩
    intro e
    rcases HR.out.2 with ⟨e2, _⟩ | ⟨g2, cap2, cur, e2, _, hg2, _⟩
    · cases e2
    · cases e2
      cases e
      rw [hg2] at HK2
      cases HK2
  case stop =>
    rintro D c pre W _ _ h _
    exact h.elim

theorem trules_any (t : Nat) (w : World) (F : Nat → Prop) (L : List Ent) (h : TabIs w t F L) :
    Calls Tryd.prog 12 #[.pointer (some ⟨t, 0, none⟩)] w fun e w' => ∃ g cap, e = .returned (.slice (some ⟨g, 0, none⟩) L.length cap) ∧ w'.ownsRow w.heap.size 31 19 (.slice (some ⟨g, 0, none⟩) L.length cap) L.length (rowL (L.map (·.2))) ∧ Below w.heap.size w w' := by
  obtain ⟨b1, b2, sv1, sv2, LI, T, _, _, rfl⟩ := h
  let Ls : List { e : Ent // EntAt w e.1 e.2 ∧ e.2.ok = true } := L.attach.map fun e => ⟨e.1, T.ent e.1 e.2⟩
  have eL : Ls.map (·.1) = L := by simp only [Ls, List.map_map, Function.comp_def]; exact List.attach_map_subtype_val L
  have hrow : RankRow w.heap.size w sv2 (Ls.map (·.1)) := by
    rw [eL]
    obtain ⟨a, cap, g, e, hc⟩ := rowR_cells T.mR.2.2.1
    exact ⟨a, cap, e, fun j hj => ⟨g, (hc j hj).1, block_lt_of_cell (hc j hj).2.1, (hc j hj).2⟩⟩
  have hl : Ls.length = L.length := by have := congrArg List.length eL; rwa [List.length_map] at this
  have e2 : (Ls.map fun x => x.1.2) = L.map (·.2) := (List.map_map (g := fun (x : Ent) => x.2) (f := fun (x : { e : Ent // EntAt w e.1 e.2 ∧ e.2.ok = true }) => x.1) (l := Ls)).symm.trans (congrArg (List.map fun (x : Ent) => x.2) eL)
  refine (rules_walk t b2 sv2 w Ls (by rw [hl]; exact T.mR.2.2.2.2) T.c1 T.mR.2.1 hrow).mono ?_
  rw [hl, e2]
  exact fun _ _ h => h

end Go.Proofs.YtaejpejfmpbinaaDoor
