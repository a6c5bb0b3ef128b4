import Derived.Test.YtnjalelblbjfiaaGreatDoorP20
import Derived.BigQuiet
import Derived.Test.YtnjalelblbjfiaaGreatDoorP4
namespace Go.Proofs.YtnjalelblbjfiaaGreatDoor
open Go.RowKit
attribute [local go_sem] Oper.semAt_some cell?_regrown
attribute [local go_sem ↓ high] eqlRule1

/-- Blocks that a step on a table may change: none that is nobody's, none of a switch. -/
def Tc (c : Nat) : Prop := c ≠ 4 ∧ ¬ (7 ≤ c ∧ c % 3 = 1)
/-- What a step on a table leaves of all else. -/
structure Went (w W : World) (col col' : Nat → Nat) : Prop where
  chg : ∃ X, Chg X w W ∧ ∀ x, X x → x < w.heap.size → Far w x ∧ Tc (col x)
  ink : ∀ x, x < w.heap.size → col x ≠ 0 → col' x = col x
theorem Went.below {w W : World} {col col' : Nat → Nat} (h : Below w.heap.size w W) (hc : ∀ x, x < w.heap.size → col x ≠ 0 → col' x = col x) : Went w W col col' := ⟨⟨fun _ => False, Chg.of_below h, fun _ hx => hx.elim⟩, hc⟩
theorem ownsRow_lst {w : World} {B : Nat} {t : TypeId} {s n : Nat} {v : Value} {xs : List Value} (h : w.ownsRow B t s v n xs) : Lst w t s v n := by
  rcases h.2 with h | ⟨g, cap, cur, e, hb, hg, hnc, hcm, hcs, htake⟩
  · exact .inl ⟨h.1, h.2⟩
  · exact .inr ⟨g, cap, cur, e, hg, hcs, hnc⟩

set_option maxRecDepth 100000 in
set_option maxHeartbeats 2000000 in
theorem llisted_any (w : World) (wb i : Nat) (tv sv kv : Value) (n : Nat) (Ts : List TabD) (Ks : List KeptD) (col : Nat → Nat) (h : LW w wb tv sv kv n Ts Ks col) (hi : i < Ts.length) (hrs : Ts[i].rs = rls Ts[i].L) (hn : n < 1000000000) (hK : Ks.length + 4 ≤ 1000000000) :
    Calls Tryz.prog 12 #[.pointer (some ⟨wb, 0, none⟩), .pointer (some ⟨Ts[i].p, 0, none⟩)] w fun e W => e = .returned (.bool true) ∧ ∃ kv' Ks' col', Ks'.length = Ks.length + 4 ∧ LW W wb tv sv kv' (n + 1) Ts Ks' col' ∧ Went w W col col' := by
  obtain ⟨dr, hur, hdr⟩ := underRule
  have hd := h.tab i hi
  obtain ⟨d, hde⟩ : ∃ d, d = Ts[i] := ⟨_, rfl⟩
  rw [← hde] at hd hrs ⊢
  have q0 := hd.c0
  have q1 := hd.c1
  have hpl : d.p < w.heap.size := block_lt_of_cell q0
  obtain ⟨a2, cap2, g2, hv2, hrow2⟩ := hd.ref.slice
  have r0 := hd.ref.1
  have hyl : d.y < w.heap.size := block_lt_of_cell r0
  have hll : d.rs.length = d.L.length := by rw [hrs]; exact List.length_map _
  have hmx : d.L.length ≤ 200 := by rw [← hll]; exact hd.ref.2.2.2.1
  rw [hll] at hv2
  rw [hv2] at r0
  have hpos : 0 < w.heap.size := Nat.lt_of_le_of_lt (Nat.zero_le _) hyl
  have CR := hide (trules_any d.t w d.F d.L hd.tab)
  have HH := hide h
  have HN := hide hn
  have HK := hide hK
  have HR2 := hide hrow2
  have HRS := hide hrs
  have hmi : (d.L.length : Int) ≤ 200 := by omega
  clear h hd hn hK hrow2 hrs hv2 hde
  go_enter Tryz.func12, Tryz.ntmps12
  go_wp2_with fail
  refine CR.out.mono ?_
  rintro e W1 ⟨g, cap, rfl, hown, hb1⟩
  have p1 := cell_later hb1 q1
  have y1 := cell_later hb1 r0
  have hpl1 : d.p < W1.heap.size := block_lt_of_cell p1
  have hyl1 : d.y < W1.heap.size := block_lt_of_cell y1
  have HO := hide hown
  have HB1 := hide hb1
  clear CR hown hb1 q0 q1 r0 hpl hyl
  go_wp2_with fail
  go_loopw [6, 7] (fun o i wr => o = .bool true ∧ ∃ j : Nat, j ≤ d.L.length ∧ i = .int .i64 j ∧ Below W1.heap.size W1 wr) (fun _ i _ => d.L.length - (intOf i).toNat)
  case atStart => exact ⟨rfl, 0, by omega, rfl, Below.refl _ _⟩
  case round =>
    obtain ⟨rfl, j, hj, rfl, hbj⟩ := hrel
    by_cases hjl : j < d.L.length
    · have hji : (j : Int) < d.L.length := by omega
      have p2 := cell_later hbj p1
      have y2 := cell_later hbj y1
      have hpl2 : d.p < wr.heap.size := block_lt_of_cell p2
      have hyl2 : d.y < wr.heap.size := block_lt_of_cell y2
      obtain ⟨r, hr⟩ : ∃ r, r = d.rs[j]'(by omega) := ⟨_, rfl⟩
      have hr2 : wr.rangeAt g2 (j * 19) [.int .i64 r.id, .int .i64 r.pr, .int .i64 r.k0, .int .i64 r.v0, .int .i64 r.m0, .int .i64 r.k1, .int .i64 r.v1, .int .i64 r.m1, .int .i64 r.k2, .int .i64 r.v2, .int .i64 r.m2, .int .i64 r.k3, .int .i64 r.v3, .int .i64 r.m3, .int .i64 r.k4, .int .i64 r.v4, .int .i64 r.m4, .int .i64 r.ac, .int .i64 r.po] ∧ a2 = some ⟨g2, 0, none⟩ := by
        obtain ⟨ha, hra⟩ := HR2.out j (by omega)
        rw [← hr] at hra
        exact ⟨rangeAt_below (rangeAt_below hra HB1.out) hbj, ha⟩
      obtain ⟨hr2, rfl⟩ := hr2
      have hr1 : wr.rangeAt g (j * 19) [.int .i64 r.id, .int .i64 r.pr, .int .i64 r.k0, .int .i64 r.v0, .int .i64 r.m0, .int .i64 r.k1, .int .i64 r.v1, .int .i64 r.m1, .int .i64 r.k2, .int .i64 r.v2, .int .i64 r.m2, .int .i64 r.k3, .int .i64 r.v3, .int .i64 r.m3, .int .i64 r.k4, .int .i64 r.v4, .int .i64 r.m4, .int .i64 r.ac, .int .i64 r.po] := by
        have RO : RulesOwn w.heap.size W1 (.slice (some ⟨g, 0, none⟩) d.L.length cap) d.rs := ⟨by rw [hll, HRS.out]; exact HO.out, fun e => by rw [e] at hll; simp at hll; omega, hpos⟩
        obtain ⟨a3, cap3, g3, e3, hro⟩ := RO.row
        obtain ⟨ha, hra⟩ := hro j (by omega)
        rw [hll] at e3
        cases e3
        cases ha
        rw [← hr] at hra
        exact rangeAt_below hra hbj
      have hgl : g < wr.heap.size := block_lt_of_cell (cell_at0 hr1)
      have hgl2 : g2 < wr.heap.size := block_lt_of_cell (cell_at0 hr2)
      have HBJ := hide hbj
      clear hbj hr HR2 HRS HO
      go_wp2_with fail
      refine wp_region_quiet_below (by kernel_rfl) (by kernel_rfl) ?_
      repeat (first | (refine wpQuiet_load_mid rfl 37 _ rfl g (j * 19) rfl [.int .i64 r.id, .int .i64 r.pr, .int .i64 r.k0, .int .i64 r.v0, .int .i64 r.m0, .int .i64 r.k1, .int .i64 r.v1, .int .i64 r.m1, .int .i64 r.k2, .int .i64 r.v2, .int .i64 r.m2, .int .i64 r.k3, .int .i64 r.v3, .int .i64 r.m3, .int .i64 r.k4, .int .i64 r.v4, .int .i64 r.m4, .int .i64 r.ac, .int .i64 r.po] dr (fun w' h => range_regrown hr1 h) hur hdr sizeRule ?_) | (refine wpQuiet_load_mid rfl 37 _ rfl g2 (j * 19) rfl [.int .i64 r.id, .int .i64 r.pr, .int .i64 r.k0, .int .i64 r.v0, .int .i64 r.m0, .int .i64 r.k1, .int .i64 r.v1, .int .i64 r.m1, .int .i64 r.k2, .int .i64 r.v2, .int .i64 r.m2, .int .i64 r.k3, .int .i64 r.v3, .int .i64 r.m3, .int .i64 r.k4, .int .i64 r.v4, .int .i64 r.m4, .int .i64 r.ac, .int .i64 r.po] dr (fun w' h => range_regrown hr2 h) hur hdr sizeRule ?_) | quiet_step (fail))
      refine wpQuiet_nil ?_; intro wq hwq; replace hwq := below_of_regrown hwq; obtain ⟨hcq, hfq⟩ := bcell hwq; have hzq := hwq.size
      have HQ := hide hwq
      clear hwq hcq hfq hzq hr1 hr2 p2 y2
      go_wp2_with fail
      go_roundw
      case rel => exact ⟨rfl, j + 1, by omega, by go_num, HBJ.out.trans (HQ.out.mono HBJ.out.size)⟩
      case measure => simp [intOf]; omega
    · have hji : ¬ (j : Int) < d.L.length := by omega
      have hb : Below w.heap.size w wr := HB1.out.trans (hbj.mono HB1.out.size)
      have ws : WS wr wb tv sv kv n Ks (paint col w.heap.size 0) := HH.out.ws.keep (X := fun _ => False) (Chg.of_below hb) (fun _ hx => hx.elim) (fun x hx _ => paint_lt hx)
      have lst : Lst wr 37 19 (.slice (some ⟨g, 0, none⟩) d.L.length cap) d.L.length := ownsRow_lst (ownsRow_same HO.out fun x hx => hbj.block x (HO.out.lt x hx).2)
      have hgb : w.heap.size ≤ g := (HO.out.lt g rfl).1
      have CL := hide (lrules_any wr wb tv sv kv (.slice (some ⟨g, 0, none⟩) d.L.length cap) n d.L.length Ks (paint col w.heap.size 0) ws lst (fun x hx => by cases hx; exact paint_ge hgb) (by omega) HN.out HK.out)
      have HB := hide hb
      clear ws lst hb hbj p1 y1 hpl1 hyl1
      go_wp2_with fail
      refine CL.out.mono ?_
      rintro e W ⟨rfl, kv', Ks', col', hk, hws, hcg, hcol⟩
      have FIN : ∃ kv' Ks' col', Ks'.length = Ks.length + 4 ∧ LW W wb tv sv kv' (n + 1) Ts Ks' col' ∧ Went w W col col' := by
        have hcol' : ∀ x, x < w.heap.size → col x ≠ 0 → col' x = col x := fun x hx h0 => by
          have := hcol x (Nat.lt_of_lt_of_le hx HB.out.size) (by rw [paint_lt hx]; exact h0)
          rwa [paint_lt hx] at this
        have hct : Chg (fun x => x = wb ∨ kv.ownBlock = some x) w W := ((Chg.of_below HB.out).trans hcg).mono fun x hx h => by
          rcases h with h | h | h
          · exact .inl h
          · exact .inr h
          · have hx' : g = x := Option.some.inj h
            omega
        refine ⟨kv', Ks', col', hk, HH.out.turned hct hcol' hws, ⟨⟨_, hct, fun x hx _ => ?_⟩, hcol'⟩⟩
        rcases hx with rfl | hx
        · exact ⟨HH.out.farW, by rw [HH.out.cw]; unfold Tc; omega⟩
        · exact ⟨HH.out.farK hx, by rw [HH.out.cK x hx]; unfold Tc; omega⟩
      have HF := hide FIN
      clear FIN hcol hcg hws hk CL HB HO HB1
      go_wp2
      go_ret
      exact ⟨rfl, HF.out⟩
end Go.Proofs.YtnjalelblbjfiaaGreatDoor

namespace Go.Proofs.YtnjalelblbjfiaaGreatDoor
open Go.RowKit

theorem lnum_any (x : Int) (w : World) : Calls Tryz.prog 25 #[.int .i64 x] w fun e w' => e = .returned (.int .i64 x) ∧ w' = w := by
  go_enter Tryz.func25, Tryz.ntmps25
  go_wp2
  go_ret
  exact ⟨rfl, rfl⟩
/-- Which of n things a number speaks of. -/
theorem lpick_any (c : Int) (n : Nat) (w : World) (hc : -9223372036854775808 ≤ c ∧ c ≤ 9223372036854775807) (hn : 0 < n ∧ n ≤ 4611686018427387904) : Calls Tryz.prog 26 #[.int .i64 c, .int .i64 n] w fun e w' => (∃ k : Nat, k < n ∧ e = .returned (.int .i64 k)) ∧ w' = w := by
  have hn0 : ¬ (n : Int) = 0 := by omega
  have hn1 : (n : Int) ≠ -1 := by omega
  have key : ∀ a : Int, 0 ≤ a → ∃ k : Nat, k < n ∧ a.tmod n = k := fun a ha => by
    refine ⟨(a.tmod n).toNat, ?_, ?_⟩
    · have h1 := Int.tmod_nonneg (n : Int) ha
      have h2 := Int.tmod_lt_of_pos a (show (0 : Int) < n by omega)
      omega
    · have h1 := Int.tmod_nonneg (n : Int) ha
      omega
  have KEY := hide key
  clear key
  by_cases h : c < 0
  · have hw1 : IntKind.i64.wrap (c + 1) = c + 1 := by rw [IntKind.wrap_i64]; omega
    have hw2 : IntKind.i64.wrap (-(c + 1)) = -(c + 1) := by rw [IntKind.wrap_i64]; omega
    obtain ⟨k, hk, he⟩ := KEY.out (-(c + 1)) (by omega)
    have hw3 : IntKind.i64.wrap (k : Int) = k := by rw [IntKind.wrap_i64]; omega
    have HE := hide he
    have he' := he
    go_enter Tryz.func26, Tryz.ntmps26
    go_wp2
    go_ret
    exact ⟨⟨k, hk, rfl⟩, rfl⟩
  · obtain ⟨k, hk, he⟩ := KEY.out c (by omega)
    have hw3 : IntKind.i64.wrap (k : Int) = k := by rw [IntKind.wrap_i64]; omega
    go_enter Tryz.func26, Tryz.ntmps26
    go_wp2
    go_ret
    exact ⟨⟨k, hk, rfl⟩, rfl⟩
end Go.Proofs.YtnjalelblbjfiaaGreatDoor

namespace Go.Proofs.YtnjalelblbjfiaaGreatDoor
open Go.RowKit
open Go.Sort (grow)
attribute [local go_sem] Oper.semAt_some cell?_regrown

/-- What a table that holds L finds for a key. -/
noncomputable def fndV (L : List Ent) (x0 x1 x2 x3 x4 : Int) : Int × Int := Classical.epsilon fun ab => FindIs L x0 x1 x2 x3 x4 ab.1 ab.2
theorem fndV_eq {L : List Ent} {x0 x1 x2 x3 x4 a b : Int} (h : FindIs L x0 x1 x2 x3 x4 a b) : fndV L x0 x1 x2 x3 x4 = (a, b) := by
  have h2 : FindIs L x0 x1 x2 x3 x4 (fndV L x0 x1 x2 x3 x4).1 (fndV L x0 x1 x2 x3 x4).2 := Classical.epsilon_spec (p := fun ab : Int × Int => FindIs L x0 x1 x2 x3 x4 ab.1 ab.2) ⟨(a, b), h⟩
  have := findV_unique h2 h
  exact Prod.ext this.1 this.2
theorem tfindV (t : Nat) (x0 x1 x2 x3 x4 : Int) (w : World) (F : Nat → Prop) (L : List Ent) (h : TabIs w t F L) :
    Calls Tryz.prog 16 #[.pointer (some ⟨t, 0, none⟩), .agg #[.int .i64 x0, .int .i64 x1, .int .i64 x2, .int .i64 x3, .int .i64 x4]] w fun e w' => e = .returned (.tuple #[.int .i64 (fndV L x0 x1 x2 x3 x4).1, .int .i64 (fndV L x0 x1 x2 x3 x4).2]) ∧ Below w.heap.size w w' := by
  refine (tfind_any t x0 x1 x2 x3 x4 w F L h).mono ?_
  rintro e w' ⟨a, b, rfl, hf, hb⟩
  rw [fndV_eq hf]
  exact ⟨rfl, hb⟩
theorem TabIs.oks {w : World} {t : Nat} {F : Nat → Prop} {L : List Ent} (h : TabIs w t F L) : ∀ r ∈ rls L, r.ok = true := by
  obtain ⟨b1, b2, sv1, sv2, LI, T, _, _, rfl⟩ := h
  intro r hr
  obtain ⟨e, he, rfl⟩ := List.mem_map.1 hr
  exact (T.ent e he).2
theorem xFindV (y : Nat) (v : Value) (x0 x1 x2 x3 x4 : Int) (w : World) (L : List Ent) (h : RefAt 1 w y 0 v (rls L)) (hok : ∀ r ∈ rls L, r.ok = true) (hs : Sorted L) :
    Calls Tryz.prog 126 #[.pointer (some ⟨y, 0, none⟩), .agg #[.int .i64 x0, .int .i64 x1, .int .i64 x2, .int .i64 x3, .int .i64 x4]] w fun e w' => e = .returned (.tuple #[.int .i64 (fndV L x0 x1 x2 x3 x4).1, .int .i64 (fndV L x0 x1 x2 x3 x4).2]) ∧ Below w.heap.size w w' := by
  refine (xFind_any 1 y 0 v L x0 x1 x2 x3 x4 w h hok hs).mono ?_
  rintro e w' ⟨⟨a, b, rfl, hf⟩, hb⟩
  rw [fndV_eq hf]
  exact ⟨rfl, hb⟩

set_option maxRecDepth 100000 in
set_option maxHeartbeats 2000000 in
theorem lfind_any (w : World) (p t y : Nat) (F : Nat → Prop) (L : List Ent) (v : Value) (x0 x1 x2 x3 x4 : Int) (q0 : w.cell? ⟨p, 0, none⟩ = some (.pointer (some ⟨t, 0, none⟩))) (q1 : w.cell? ⟨p, 1, none⟩ = some (.pointer (some ⟨y, 0, none⟩))) (hT : TabIs w t F L) (hR : RefAt 1 w y 0 v (rls L)) :
    Calls Tryz.prog 69 #[.pointer (some ⟨p, 0, none⟩), .agg #[.int .i64 x0, .int .i64 x1, .int .i64 x2, .int .i64 x3, .int .i64 x4]] w fun e W => e = .returned (.bool true) ∧ Below w.heap.size w W := by
  have hpl : p < w.heap.size := block_lt_of_cell q0
  obtain ⟨W1, hW1⟩ : ∃ W1, W1 = w.alloc (.cells #[.int .i64 x0, .int .i64 x1, .int .i64 x2, .int .i64 x3, .int .i64 x4] 39) := ⟨_, rfl⟩
  have hb1 : Below w.heap.size w W1 := by rw [hW1]; exact (Below.refl _ w).alloc (Nat.le_refl _) _
  obtain ⟨bk, hbk⟩ : ∃ bk, bk = w.heap.size := ⟨_, rfl⟩
  have hk : W1.rangeAt bk 0 [.int .i64 x0, .int .i64 x1, .int .i64 x2, .int .i64 x3, .int .i64 x4] := by rw [hW1, hbk]; exact range_new _ _ _
  have p0 := cell_later hb1 q0
  have p1 := cell_later hb1 q1
  have k0 : W1.cell? ⟨bk, 0, none⟩ = some (.int .i64 x0) := hk 0 _ rfl
  have k1 : W1.cell? ⟨bk, 1, none⟩ = some (.int .i64 x1) := hk 1 _ rfl
  have k2 : W1.cell? ⟨bk, 2, none⟩ = some (.int .i64 x2) := hk 2 _ rfl
  have k3 : W1.cell? ⟨bk, 3, none⟩ = some (.int .i64 x3) := hk 3 _ rfl
  have k4 : W1.cell? ⟨bk, 4, none⟩ = some (.int .i64 x4) := hk 4 _ rfl
  have hbl : bk < W1.heap.size := block_lt_of_cell k0
  have hpl1 : p < W1.heap.size := block_lt_of_cell p0
  have CF := hide fun (d : Nat) (os : Array Obj) => tfindV t x0 x1 x2 x3 x4 (grow (redrawn W1 d) os) F L ((hT.still hb1).still (below_regrown W1 d os))
  have CX := hide fun (W : World) (hb : Below W1.heap.size W1 W) (d : Nat) (os : Array Obj) => xFindV y v x0 x1 x2 x3 x4 (grow (redrawn W d) os) L (((hR.below hb1).below hb).below (below_regrown W d os)) hT.oks hT.sorted'
  have HB1 := hide hb1
  clear hT hR hb1 hk q0 q1
  obtain ⟨a, ha⟩ : ∃ a, a = (fndV L x0 x1 x2 x3 x4).1 := ⟨_, rfl⟩
  obtain ⟨b, hb⟩ : ∃ b, b = (fndV L x0 x1 x2 x3 x4).2 := ⟨_, rfl⟩
  rw [← ha, ← hb] at CF CX
  clear ha hb
  go_enter Tryz.func69, Tryz.ntmps69
  go_wp2_with fail
  rw [← hW1, ← hbk]
  clear hW1 hbk hpl
  refine wp_region_quiet_below (by kernel_rfl) (by kernel_rfl) ?_
  repeat (quiet_step (exact Calls.regrown_of (CF.out _ _)))
  refine wpQuiet_nil ?_; intro wq hwq; replace hwq := below_of_regrown hwq; obtain ⟨hcq, hfq⟩ := bcell hwq; have hzq := hwq.size
  have e1 := cell_later hwq p1
  have m0 := cell_later hwq k0
  have m1 := cell_later hwq k1
  have m2 := cell_later hwq k2
  have m3 := cell_later hwq k3
  have m4 := cell_later hwq k4
  have hb2 : bk < wq.heap.size := block_lt_of_cell m0
  have hp2 : p < wq.heap.size := block_lt_of_cell e1
  have CY := hide (CX.out wq hwq)
  have HW2 := hide (HB1.out.trans (hwq.mono HB1.out.size))
  clear hwq hcq hfq hzq CX CF p0 p1 k0 k1 k2 k3 k4 hbl hpl1 HB1
  go_wp2_with fail
  refine wp_region_quiet_below (by kernel_rfl) (by kernel_rfl) ?_
  repeat (quiet_step (exact Calls.regrown_of (CY.out _ _)))
  refine wpQuiet_nil ?_; intro wq hwq; replace hwq := below_of_regrown hwq; obtain ⟨hcq, hfq⟩ := bcell hwq; have hzq := hwq.size
  have HW3 := hide (HW2.out.trans (hwq.mono HW2.out.size))
  have CN := hide (lnum_any b wq)
  clear hwq hcq hfq hzq
  go_wp2_with fail
  refine CN.out.mono ?_
  rintro e W ⟨rfl, rfl⟩
  go_wp2
  go_ret
  exact ⟨rfl, HW3.out⟩
end Go.Proofs.YtnjalelblbjfiaaGreatDoor

namespace Go.Proofs.YtnjalelblbjfiaaGreatDoor
open Go.RowKit

/-- Which of n things a number speaks of. -/
def pkI (c : Int) : Int := if c < 0 then -(c + 1) else c
theorem pk_ex (c : Int) {n : Nat} (hn : 0 < n) : ∃ k : Nat, k < n ∧ (pkI c).tmod n = k := by
  have ha : 0 ≤ pkI c := by unfold pkI; split <;> omega
  have h1 := Int.tmod_nonneg (n : Int) ha
  have h2 := Int.tmod_lt_of_pos (pkI c) (show (0 : Int) < n by omega)
  exact ⟨((pkI c).tmod n).toNat, by omega, by omega⟩
theorem lpick_at (c : Int) (n k : Nat) (w : World) (hc : -9223372036854775808 ≤ c ∧ c ≤ 9223372036854775807) (hn : 0 < n ∧ n ≤ 4611686018427387904) (hk : (pkI c).tmod n = k) (hlt : k < n) : Calls Tryz.prog 26 #[.int .i64 c, .int .i64 n] w fun e w' => e = .returned (.int .i64 k) ∧ w' = w := by
  have hn0 : ¬ (n : Int) = 0 := by omega
  have hn1 : (n : Int) ≠ -1 := by omega
  have hw3 : IntKind.i64.wrap (k : Int) = k := by rw [IntKind.wrap_i64]; omega
  by_cases h : c < 0
  · have hw1 : IntKind.i64.wrap (c + 1) = c + 1 := by rw [IntKind.wrap_i64]; omega
    have hw2 : IntKind.i64.wrap (-(c + 1)) = -(c + 1) := by rw [IntKind.wrap_i64]; omega
    have he : (-(c + 1)).tmod n = k := by rw [← hk]; unfold pkI; rw [if_pos h]
    clear hk
    go_enter Tryz.func26, Tryz.ntmps26
    go_wp2
    go_ret
    exact ⟨rfl, rfl⟩
  · have he : c.tmod n = k := by rw [← hk]; unfold pkI; rw [if_neg h]
    clear hk
    go_enter Tryz.func26, Tryz.ntmps26
    go_wp2
    go_ret
    exact ⟨rfl, rfl⟩

/-- All tables hold what the document's hold. -/
def Agree (Ts : List TabD) : Prop := ∀ d ∈ Ts, d.rs = rls d.L
theorem Agree.set {Ts : List TabD} (h : Agree Ts) {i : Nat} {d : TabD} (hd : d.rs = rls d.L) : Agree (Ts.set i d) := fun x hx => by
  rcases List.mem_or_eq_of_mem_set hx with hx | rfl
  · exact h x hx
  · exact hd
theorem Agree.set2 {Ts : List TabD} (h : Agree Ts) {i : Nat} {d d' : TabD} (hd : d'.rs = rls d'.L) : Agree ((Ts.set i d).set i d') := by
  rw [List.set_set]
  exact h.set hd
section
variable {w w1 w2 w3 W : World} {wb n i : Nat} {tv sv kv : Value} {Ts : List TabD} {Ks : List KeptD} {col : Nat → Nat}
theorem LW.pos (h : LW w wb tv sv kv n Ts Ks col) : 0 < w.heap.size := Nat.lt_of_le_of_lt (Nat.zero_le _) (block_lt_of_cell h.c0)
theorem LW.farT (h : LW w wb tv sv kv n Ts Ks col) (hi : i < Ts.length) {x : Nat} (hx : Ts[i].F x ∨ x = Ts[i].y ∨ Ts[i].v.ownBlock = some x) : Far w x ∧ Tc (col x) := by
  have hd := h.tab i hi
  rcases hx with hx | rfl | hx
  · exact ⟨(hd.tab.foreign' hx).far h.laid, by rw [hd.cF x hx]; unfold Tc; omega⟩
  · obtain ⟨a, cap, g, hvv, _⟩ := hd.ref.slice
    exact ⟨far_one (hd.ref.1.trans (by rw [hvv])) hd.one.1 hd.one.2 h.laid, by rw [hd.cy]; unfold Tc; omega⟩
  · exact ⟨far_rules hd.ref.2.2.1 hx, by rw [hd.cv x hx]; unfold Tc; omega⟩
/-- Behind a call of a table: the document's is as it was. -/
theorem LW.mid (h : LW w wb tv sv kv n Ts Ks col) (hi : i < Ts.length) (hb : Below w.heap.size w w1) {F' : Nat → Prop} {L' : List Ent} (hT : TabIs w2 Ts[i].t F' L') (hF : ∀ x, F' x → Ts[i].F x ∨ w1.heap.size ≤ x) (hc : Chg Ts[i].F w1 w2) (hb2 : Below w2.heap.size w2 w3) : LW w3 wb tv sv kv n (Ts.set i { Ts[i] with F := F', L := L' }) Ks (paint col w1.heap.size (3 * i + 5)) := by
  have h1 : LW w1 wb tv sv kv n Ts Ks col := h.below hb fun _ _ _ => rfl
  exact (h1.tabStep hi hT hF hc).below hb2 fun _ _ _ => rfl
theorem LW.midRef (h : LW w wb tv sv kv n Ts Ks col) (hi : i < Ts.length) (hb : Below w.heap.size w w1) {F' : Nat → Prop} {L' : List Ent} (hT : TabIs w2 Ts[i].t F' L') (hF : ∀ x, F' x → Ts[i].F x ∨ w1.heap.size ≤ x) (hc : Chg Ts[i].F w1 w2) (hb2 : Below w2.heap.size w2 w3) : RefAt 1 w3 Ts[i].y 0 Ts[i].v Ts[i].rs ∧ w3.cell? ⟨Ts[i].p, 0, none⟩ = some (.pointer (some ⟨Ts[i].t, 0, none⟩)) ∧ w3.cell? ⟨Ts[i].p, 1, none⟩ = some (.pointer (some ⟨Ts[i].y, 0, none⟩)) ∧ 0 < w3.heap.size := by
  have h3 := h.mid hi hb hT hF hc hb2
  have hd := h3.tab i (by rw [List.length_set]; exact hi)
  rw [List.getElem_set_self] at hd
  exact ⟨hd.ref, hd.c0, hd.c1, h3.pos⟩
theorem put_done {r : Rl} {e : Ending} (h : LW w wb tv sv kv n Ts Ks col) (hi : i < Ts.length) (ha : Agree Ts) (hb : Below w.heap.size w w1) (hI : InsTab w1 w2 Ts[i].t Ts[i].F Ts[i].L r) (hb2 : Below w2.heap.size w2 w3) (hX : XIns 1 Ts[i].y 0 Ts[i].v Ts[i].rs r w3 e W) :
    e = .returned (.int .i64 (insCode Ts[i].L r)) ∧ ∃ Ts' col', Ts'.length = Ts.length ∧ Agree Ts' ∧ LW W wb tv sv kv n Ts' Ks col' ∧ Went w W col col' := by
  have hrs : Ts[i].rs = rls Ts[i].L := ha _ (List.getElem_mem hi)
  have hlen : Ts[i].rs.length = Ts[i].L.length := by rw [hrs]; exact List.length_map _
  obtain ⟨F', L', hT, hF, hc, hcode⟩ := hI
  have h3 := h.mid hi hb hT hF hc hb2
  have hany : (∃ q ∈ Ts[i].rs, q.id = r.id) ↔ (Ts[i].L.any fun a => a.2.id == r.id) = true := by
    rw [hrs, List.any_eq_true]
    constructor
    · rintro ⟨q, hq, e⟩
      obtain ⟨a, ha, rfl⟩ := List.mem_map.1 hq
      exact ⟨a, ha, by rw [beq_iff_eq]; exact e⟩
    · rintro ⟨a, ha, e⟩
      exact ⟨a.2, List.mem_map.2 ⟨a, ha, rfl⟩, by rwa [beq_iff_eq] at e⟩
  have hi' : i < (Ts.set i { Ts[i] with F := F', L := L' }).length := by rw [List.length_set]; exact hi
  have ink1 : ∀ x, x < w.heap.size → col x ≠ 0 → paint col w1.heap.size (3 * i + 5) x = col x := fun x hx _ => paint_lt (Nat.lt_of_lt_of_le hx hb.size)
  have c13 : Chg (fun x => Ts[i].F x ∨ x = Ts[i].y ∨ Ts[i].v.ownBlock = some x) w w3 := ((Chg.of_below hb).trans (hc.mono fun x _ hx => .inl hx)).trans (Chg.of_below hb2)
  have same : insCode Ts[i].L r ≠ 0 → Below w3.heap.size w3 W → ∃ Ts' col', Ts'.length = Ts.length ∧ Agree Ts' ∧ LW W wb tv sv kv n Ts' Ks col' ∧ Went w W col col' := fun h0 hbW => by
    rw [if_neg h0] at hcode
    refine ⟨_, _, List.length_set .., ha.set (by show Ts[i].rs = rls L'; rw [hcode]; exact hrs), h3.below hbW fun _ _ _ => rfl, ⟨⟨_, c13.trans (Chg.of_below hbW), fun x hx _ => h.farT hi hx⟩, ink1⟩⟩
  rcases hX with ⟨rfl, hok, hbW⟩ | ⟨rfl, hok, hq, hbW⟩ | ⟨rfl, hok, hq, hfull, hbW⟩ | ⟨rfl, hok, hq, hroom, k, hk, hR, hL, v', hr', hcW, hoW, hvW⟩
  · have e4 : insCode Ts[i].L r = 4 := by unfold insCode; rw [hok]; rfl
    exact ⟨by rw [e4], same (by rw [e4]; decide) hbW⟩
  · have e5 : insCode Ts[i].L r = 5 := by unfold insCode; rw [hok, hany.1 hq]; rfl
    exact ⟨by rw [e5], same (by rw [e5]; decide) hbW⟩
  · have hn : (Ts[i].L.any fun a => a.2.id == r.id) = false := by
      rw [← Bool.not_eq_true, ← hany]
      rintro ⟨q, h1, h2⟩
      exact hq q h1 h2
    have e6 : insCode Ts[i].L r = 6 := by unfold insCode; rw [hok, hn]; simp [show 200 ≤ Ts[i].L.length by omega]
    exact ⟨by rw [e6], same (by rw [e6]; decide) hbW⟩
  · have hn : (Ts[i].L.any fun a => a.2.id == r.id) = false := by
      rw [← Bool.not_eq_true, ← hany]
      rintro ⟨q, h1, h2⟩
      exact hq q h1 h2
    have e0 : insCode Ts[i].L r = 0 := by unfold insCode; rw [hok, hn]; simp [show ¬ 200 ≤ Ts[i].L.length by omega]
    rw [if_pos e0] at hcode
    obtain ⟨b, hm, hl'⟩ := hcode
    have hsame : rls L' = (rls Ts[i].L).take k ++ r :: (rls Ts[i].L).drop k := ins_same (h.tab i hi).tab.sorted' hT.sorted' hm (by omega) (by rw [hrs] at hq; exact hq) (by intro j hj hkj; have := hR j (by rw [hrs]; exact hj) hkj; simpa only [hrs] using this) (by intro h0; have := hL h0; simpa only [hrs] using this)
    refine ⟨by rw [e0], ?_⟩
    have hR3 := h3.refStep (i := i) hi' (v' := v') (rs' := Ts[i].rs.take k ++ r :: Ts[i].rs.drop k) (by rw [List.getElem_set_self]; exact hr') (by rw [List.getElem_set_self]; exact hvW) (by rw [List.getElem_set_self]; exact hcW) (by rw [List.getElem_set_self]; exact hoW)
    refine ⟨_, _, by rw [List.length_set, List.length_set], Agree.set2 ha ?_, hR3, ⟨⟨_, c13.trans (hcW.mono fun x _ hx => .inr hx), fun x hx _ => h.farT hi hx⟩, fun x hx h0 => ?_⟩⟩
    · rw [List.getElem_set_self]
      show Ts[i].rs.take k ++ r :: Ts[i].rs.drop k = rls L'
      rw [hsame, hrs]
    · rw [paint_lt (Nat.lt_of_lt_of_le hx c13.size)]
      exact ink1 x hx h0
end
end Go.Proofs.YtnjalelblbjfiaaGreatDoor
