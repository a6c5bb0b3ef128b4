import Derived.Test.YtnjalelblbjfiaaGreatDoorP38
import Derived.Test.YtnjalelblbjfiaaGreatDoorP10
import Derived.Test.YtnjalelblbjfiaaGreatDoorP34
import Derived.Test.YtnjalelblbjfiaaGreatDoorP22
import Derived.Test.YtnjalelblbjfiaaGreatDoorP35
import Derived.Test.YtnjalelblbjfiaaGreatDoorP28
import Derived.Test.YtnjalelblbjfiaaGreatDoorP17
import Derived.Test.YtnjalelblbjfiaaGreatDoorP33
import Derived.Test.YtnjalelblbjfiaaGreatDoorP26
import Derived.Test.YtnjalelblbjfiaaGreatDoorP36
namespace Go.Proofs.YtnjalelblbjfiaaGreatDoor
open Go.RowKit Go.Maps

/-- A switch's routes in memory. -/
structure SwH (w : World) (s rb hb : Nat) (hsv : Value) (R : List Rt) : Prop where
  h2 : w.cell? ⟨s, 2, none⟩ = some (.pointer (some ⟨rb, 0, none⟩))
  h0 : w.cell? ⟨rb, 0, none⟩ = some (.pointer (some ⟨hb, 0, none⟩))
  hM : MapHq w hb hsv R
  hS : SortedH R

section
variable {w W : World} {s k m fm t vb rb hb : Nat} {pv sv fsv hsv : Value} {P : List Prt} {K : List Mc} {Fs : List Fc} {F : Nat → Prop} {L : List Ent} {V : Int → Int × Int} {R : List Rt} {X : Nat → Prop}

theorem MapHq.keep (h : MapHq w hb hsv R) (hc : Chg X w W) (hh : ¬ X hb) (ha : ∀ g, hsv.ownBlock = some g → ¬ X g) : MapHq W hb hsv R := by
  obtain ⟨⟨c0, c1, c2, c3, c4⟩, c5⟩ := h
  exact ⟨⟨hc.block.cell hh c0, hc.block.cell hh c1, ownsRow_blk c2 fun g hg => hc.block g (ownsRow_lt c2 hg).2 (ha g hg), fun j => (World.frozen?_of_block (a := ⟨hb, j, none⟩) (hc.block hb (block_lt_of_cell c0) hh)).trans (c3 j), c4⟩, c5⟩
theorem SwH.keep (h : SwH w s rb hb hsv R) (hc : Chg X w W) (hs : ¬ X s) (hr : ¬ X rb) (hh : ¬ X hb) (ha : ∀ g, hsv.ownBlock = some g → ¬ X g) : SwH W s rb hb hsv R :=
  ⟨hc.block.cell hs h.h2, hc.block.cell hr h.h0, h.hM.keep hc hh ha, h.hS⟩

/-- The first cells of the routes' array. -/
theorem MapHq.first (h : MapHq w hb hsv R) {g : Nat} (hg : hsv.ownBlock = some g) : ∃ a b c d, w.cell? ⟨g, 0, none⟩ = some (.int .i64 a) ∧ w.cell? ⟨g, 1, none⟩ = some (.int .i64 b) ∧ w.cell? ⟨g, 2, none⟩ = some (.int .i64 c) ∧ w.cell? ⟨g, 3, none⟩ = some (.string d) := by
  have hne : R ≠ [] := by
    intro e
    rw [h.2 e] at hg
    cases hg
  obtain ⟨a, cap, g', e, hc⟩ := rowH_cells h.1.2.2.1
  obtain ⟨e', c0, c1, c2, c3⟩ := hc 0 (List.length_pos_iff.2 hne)
  rw [e, e'] at hg
  obtain rfl : g' = g := by simpa [Value.ownBlock] using hg
  rw [Nat.zero_mul] at c0 c1 c2 c3
  exact ⟨_, _, _, _, c0, c1, c2, c3⟩
theorem SwP.port0 (h : SwP w s pv P k m sv K) (hP : 0 < P.length) {b : Nat} (hb : pv.ownBlock = some b) : ∃ n z, w.cell? ⟨b, 0, none⟩ = some (.int .i64 n) ∧ w.cell? ⟨b, 1, none⟩ = some (.map z) := by
  obtain ⟨a, cap, b', e, hcs⟩ := h.hp
  obtain ⟨q0, q1, mv, q2, q3⟩ := hcs 0 hP
  rw [e, q0] at hb
  obtain rfl : b' = b := by simpa [Value.ownBlock] using hb
  rw [Nat.zero_mul] at q1 q2
  have hmv : ∃ z, mv = .map z := by rcases q3 with ⟨rfl, _⟩ | ⟨_, _, _, rfl, _⟩ <;> exact ⟨_, rfl⟩
  obtain ⟨z, rfl⟩ := hmv
  exact ⟨_, z, q1, q2⟩
theorem SwP.slice0 (h : SwP w s pv P k m sv K) : ∃ a n c, w.cell? ⟨s, 0, none⟩ = some (.slice a n c) := by
  obtain ⟨a, cap, b', e, _⟩ := h.hp
  exact ⟨_, _, _, e ▸ h.h0⟩
end
end Go.Proofs.YtnjalelblbjfiaaGreatDoor

namespace Go.Proofs.YtnjalelblbjfiaaGreatDoor
open Go.RowKit

theorem Away.far {w : World} {x : Nat} (h : Away w x) : Far w x := ⟨h.zero, h.ent, fun a n c hc => absurd hc (h.leaf a n c), h.node, h.bunch⟩
theorem TagAt.keepB {w w' : World} {mv : Value} {tg : Int → Bool} (h : TagAt w mv tg) (hk : ∀ b, mv = .map (some b) → w'.heap[b]? = w.heap[b]?) : TagAt w' mv tg := by
  rcases h with h | ⟨b, n, D, e, ⟨es, cl, h1, h2⟩, h3⟩
  · exact .inl h
  · exact .inr ⟨b, n, D, e, ⟨es, cl, (hk b e).trans h1, h2⟩, h3⟩
theorem TagAt.lt {w : World} {mv : Value} {tg : Int → Bool} (h : TagAt w mv tg) {b : Nat} (e : mv = .map (some b)) : b < w.heap.size := by
  rcases h with ⟨h, -⟩ | ⟨b', n, D, e', ⟨es, cl, h1, h2⟩, h3⟩
  · rw [h] at e; cases e
  · rw [e] at e'; cases e'; exact lt_of_heap h1
/-- A switch that the walk has made: the program's and the document's. -/
structure SwD where
  p : Nat
  s : Nat
  y : Nat
  pv : Value
  P : List Prt
  Q : List (Int × Value)
  k : Nat
  m : Nat
  sv : Value
  K : List Mc
  fm : Nat
  fsv : Value
  Fs : List Fc
  t : Nat
  vb : Nat
  F : Nat → Prop
  L : List Ent
  V : Int → Int × Int
  rb : Nat
  hb : Nat
  hsv : Value
  R : List Rt
  x : XSt
/-- The blocks of the program's switch. -/
def SwD.mine (d : SwD) : Nat → Prop := fun b => b = d.s ∨ b = d.k ∨ b = d.m ∨ d.sv.ownBlock = some b ∨ d.pv.ownBlock = some b ∨ (∃ q ∈ d.Q, q.2 = .map (some b)) ∨ b = d.fm ∨ d.fsv.ownBlock = some b ∨ b = d.vb ∨ d.F b ∨ b = d.rb ∨ b = d.hb ∨ d.hsv.ownBlock = some b
/-- The program's switch in memory. -/
structure SwD.Imp (w : World) (d : SwD) : Prop where
  p : SwP w d.s d.pv d.P d.k d.m d.sv d.K
  r : SwR w d.s d.fm d.t d.vb d.fsv d.Fs d.F d.L d.V
  h : SwH w d.s d.rb d.hb d.hsv d.R
  o : PortsO w d.pv d.P d.Q
section
variable {w W : World} {d : SwD} {X : Nat → Prop} {col col' : Nat → Nat}
theorem SwD.Imp.lt (h : d.Imp w) {b : Nat} (hb : d.mine b) : b < w.heap.size := by
  obtain ⟨ov, hov, -⟩ := h.r.hV.obj
  rcases hb with rfl | rfl | rfl | e | e | ⟨q, hq, e⟩ | rfl | e | rfl | e | rfl | rfl | e
  · exact block_lt_of_cell h.p.h0
  · exact block_lt_of_cell h.p.hK.1
  · exact block_lt_of_cell h.p.hK.2.2.1.1.1
  · exact (ownsRow_lt h.p.hK.2.2.1.1.2.2.1 e).2
  · exact (ownsRow_lt h.o.own e).2
  · obtain ⟨j, hj, rfl⟩ := List.getElem_of_mem hq
    exact (h.o.each j (by have := h.o.len; omega)).2.lt e
  · exact block_lt_of_cell h.r.hF.1
  · exact (ownsRow_lt h.r.hF.2.2.1 e).2
  · exact lt_of_heap hov
  · exact h.r.hT.lt e
  · exact block_lt_of_cell h.h.h0
  · exact block_lt_of_cell h.h.hM.1.1
  · exact (ownsRow_lt h.h.hM.1.2.2.1 e).2
/-- The program's switch is as it was when nothing of it turned. -/
theorem SwD.Imp.keep (h : d.Imp w) (hc : Chg X w W) (h1 : ¬ X 1) (hX : ∀ x, X x → x < w.heap.size → Far w x ∧ ¬ d.mine x) : d.Imp W := by
  have hn : ∀ b, d.mine b → W.heap[b]? = w.heap[b]? := fun b hb => hc.block b (h.lt hb) fun hx => (hX b hx (h.lt hb)).2 hb
  have hcell : ∀ {b j : Nat} {v : Value}, d.mine b → w.cell? ⟨b, j, none⟩ = some v → W.cell? ⟨b, j, none⟩ = some v := fun hb hv => (World.cell?_of_block (a := ⟨_, _, none⟩) (hn _ hb)).trans hv
  have hfrz : ∀ {b j : Nat}, d.mine b → w.frozen? ⟨b, j, none⟩ = false → W.frozen? ⟨b, j, none⟩ = false := fun hb hv => (World.frozen?_of_block (a := ⟨_, _, none⟩) (hn _ hb)).trans hv
  have ms : d.mine d.s := .inl rfl
  have mk : d.mine d.k := .inr (.inl rfl)
  have mm : d.mine d.m := .inr (.inr (.inl rfl))
  have msv : ∀ b, d.sv.ownBlock = some b → d.mine b := fun b e => .inr (.inr (.inr (.inl e)))
  have mpv : ∀ b, d.pv.ownBlock = some b → d.mine b := fun b e => .inr (.inr (.inr (.inr (.inl e))))
  have mtg : ∀ b, (∃ q ∈ d.Q, q.2 = .map (some b)) → d.mine b := fun b e => .inr (.inr (.inr (.inr (.inr (.inl e)))))
  have mfm : d.mine d.fm := .inr (.inr (.inr (.inr (.inr (.inr (.inl rfl))))))
  have mfs : ∀ b, d.fsv.ownBlock = some b → d.mine b := fun b e => .inr (.inr (.inr (.inr (.inr (.inr (.inr (.inl e)))))))
  have mvb : d.mine d.vb := .inr (.inr (.inr (.inr (.inr (.inr (.inr (.inr (.inl rfl))))))))
  have mF : ∀ b, d.F b → d.mine b := fun b e => .inr (.inr (.inr (.inr (.inr (.inr (.inr (.inr (.inr (.inl e)))))))))
  have mrb : d.mine d.rb := .inr (.inr (.inr (.inr (.inr (.inr (.inr (.inr (.inr (.inr (.inl rfl))))))))))
  have mhb : d.mine d.hb := .inr (.inr (.inr (.inr (.inr (.inr (.inr (.inr (.inr (.inr (.inr (.inl rfl)))))))))))
  have mhs : ∀ b, d.hsv.ownBlock = some b → d.mine b := fun b e => .inr (.inr (.inr (.inr (.inr (.inr (.inr (.inr (.inr (.inr (.inr (.inr e)))))))))))
  have po : PortsO W d.pv d.P d.Q := ⟨h.o.len, ownsRow_blk h.o.own fun b hb => hn b (mpv b hb), fun j hj => ⟨(h.o.each j hj).1, (h.o.each j hj).2.keepB fun b e => hn b (mtg b ⟨_, List.getElem_mem _, e⟩)⟩⟩
  have hc' : Chg (fun x => X x ∧ x < w.heap.size) w W := ⟨hc.os, hc.tape, hc.output, hc.size, fun b hb hnx => hc.block b hb fun hx => hnx ⟨hx, hb⟩⟩
  obtain ⟨f0, f1, f2, f3, f4⟩ := h.r.hF
  obtain ⟨⟨g0, g1, g2, g3, g4⟩, g5⟩ := h.h.hM
  refine ⟨⟨hcell ms h.p.h0, po.at, hcell ms h.p.h5, h.p.hK.keep fun b hb e => hn b ?_, hc.block.cell h1 h.p.hm.1, hc.block.cell h1 h.p.hm.2.1, hc.block.cell h1 h.p.hm.2.2.1, hc.block.cell h1 h.p.hm.2.2.2⟩, ⟨hcell ms h.r.h1, ⟨hcell mfm f0, hcell mfm f1, ownsRow_blk f2 fun g hg => hn g (mfs g hg), fun j => hfrz mfm (f3 j), f4⟩, h.r.sF, fun g hg => ?_, hcell ms h.r.h3, h.r.hT.far hc' (fun x hx => (hX x hx.1 hx.2).1) (fun x hF hx => (hX x hx.1 hx.2).2 (mF x hF)), hcell ms h.r.h4, h.r.hV.same (hn _ mvb), h.r.hD⟩, ⟨hcell ms h.h.h2, hcell mrb h.h.h0, ⟨⟨hcell mhb g0, hcell mhb g1, ownsRow_blk g2 fun g hg => hn g (mhs g hg), fun j => hfrz mhb (g3 j), g4⟩, g5⟩, h.h.hS⟩, po⟩
  · rcases e with rfl | rfl | e
    · exact mk
    · exact mm
    · exact msv b e
  · obtain ⟨n, v, d0, d1⟩ := h.r.hH g hg
    exact ⟨n, v, hcell (mfs g hg) d0, hcell (mfs g hg) d1⟩
end
end Go.Proofs.YtnjalelblbjfiaaGreatDoor

namespace Go.Proofs.YtnjalelblbjfiaaGreatDoor
open Go.RowKit
open Go.Sort (grow)
attribute [local go_sem] Oper.semAt_some cell?_regrown
attribute [local go_sem ↓ high] kLoad_fold kStore_fold append_fold

theorem append_mc0 {w : World} {B : Nat} {v : Value} {now : Int} {L : List Mc} {e : Mc} (h : RecOwn (mcRec now) B w 92 4 v L) (hB : B ≤ w.heap.size) (hn : L.length ≤ 1000) : ∃ g cap w', (Builtin.append_ #[88, 88] 88 #[v, .slice (some ⟨w.heap.size, 0, none⟩) 1 1]).run Tryz.prog (w.alloc (.cells #[.int .i64 e.vlan, .string e.mac, .int .i64 e.port, .int .i64 (now - e.age)] 92)) = .ok (.slice (some ⟨g, 0, none⟩) (L.length + 1) cap) w' ∧ RecOwn (mcRec now) B w' 92 4 (.slice (some ⟨g, 0, none⟩) (L.length + 1) cap) (L ++ [e]) ∧ Chg (fun b => v.ownBlock = some b) w w' := by
  obtain ⟨i0, hi, hz0, hz1, hz2⟩ := info_parts infoKnown
  have hb : Below w.heap.size w (w.alloc (.cells #[.int .i64 e.vlan, .string e.mac, .int .i64 e.port, .int .i64 (now - e.age)] 92)) := (Below.refl _ w).alloc (Nat.le_refl _) _
  obtain ⟨g, cap, w', hap, hr, hc, hg⟩ := (h.below hb).append (P := Tryz.prog) (tl := 88) (c := 1) (mcRec_length now) (mcRec_one now) underKnowns hi hz0 hz1 hz2 rfl (by decide) [e] (by simp) (a := ⟨w.heap.size, 0, none⟩) (fun q u hu => by rw [Addr.add_mid]; exact range_new w #[.int .i64 e.vlan, .string e.mac, .int .i64 e.port, .int .i64 (now - e.age)] 92 q u hu) (by unfold maxLen; simp; omega) (by simp; omega) (by simp; omega)
  exact ⟨g, cap, w', hap, hr, (Chg.of_below hb).trans hc⟩
/-- What the document's Tick leaves. -/
def XTicked (y : Nat) (x : XSt) (sec : Int) (w : World) (W : World) : Prop := ∃ kv', XSw W y { x with kv := kv', K := tickL sec x.K, now := x.now + sec } ∧ Chg (fun b => b = y) w W ∧ (∀ b, kv'.ownBlock = some b → w.heap.size ≤ b) ∧ (tickL sec x.K = [] → kv' = .slice none 0 0)
theorem XSw.tick {w W : World} {y : Nat} {x : XSt} {sec : Int} (h : XSw w y x) {kv' : Value} (hc : Chg (fun b => b = y) w W) (hy : ∃ cs, W.heap[y]? = some (.cells cs 90 (0, 0))) (ho : ∀ j, j ≠ 4 → j ≠ 5 → W.cell? ⟨y, j, none⟩ = w.cell? ⟨y, j, none⟩) (h4 : W.cell? ⟨y, 4, none⟩ = some kv') (h5 : W.cell? ⟨y, 5, none⟩ = some (.int .i64 (x.now + sec))) (hr : RecOwn (mcRec (x.now + sec)) 1 W 92 4 kv' (tickL sec x.K)) : XSw W y { x with kv := kv', K := tickL sec x.K, now := x.now + sec } := by
  obtain ⟨cs, hb⟩ := h.blk
  have keep : ∀ {t : TypeId} {s n B : Nat} {v : Value} {xs : List Value}, w.ownsRow B t s v n xs → t ≠ 90 → ∀ g, v.ownBlock = some g → W.heap[g]? = w.heap[g]? := fun hO ht1 g hg => hc.block g (hO.lt g hg).2 fun hx => own_block hO hb ht1 (hg.trans (congrArg some hx))
  exact ⟨hy, (ho 0 (by decide) (by decide)).trans h.c0, (ho 1 (by decide) (by decide)).trans h.c1, (ho 2 (by decide) (by decide)).trans h.c2, (ho 3 (by decide) (by decide)).trans h.c3, h4, h5, h.rp.same (keep h.rp.1 (by decide)), h.rf.same (keep h.rf.1 (by decide)), h.rr.same (keep h.rr.1 (by decide)), h.rt.same (keep h.rt.1 (by decide)), hr, fun q hq => ownsRow_same (h.tg q hq) (keep (h.tg q hq) (by decide))⟩
set_option maxRecDepth 100000 in
set_option maxHeartbeats 4000000 in
theorem xTick_bad (y : Nat) (sec : Int) (w : World) (hs : sec < 0 ∨ 1000000 < sec) :
    Calls Tryz.prog 83 #[.pointer (some ⟨y, 0, none⟩), .int .i64 sec] w fun e W => e = .returned (.int .i64 9) ∧ W = w := by
  by_cases h : sec < 0
  · go_enter Tryz.func83, Tryz.ntmps83
    go_wp2
    go_ret
    exact ⟨rfl, rfl⟩
  · have h2 : (1000000 : Int) < sec := by omega
    go_enter Tryz.func83, Tryz.ntmps83
    go_wp2
    go_ret
    exact ⟨rfl, rfl⟩
set_option maxRecDepth 100000 in
set_option maxHeartbeats 4000000 in
theorem xTick_any (y : Nat) (x : XSt) (sec : Int) (w : World) (h : XSw w y x) (hs : 0 ≤ sec ∧ sec ≤ 1000000) (hK : x.K.length ≤ 64) (hN : 0 ≤ x.now ∧ x.now ≤ 1000000000000000000) (hy : ∀ e ∈ x.K, Young e) :
    Calls Tryz.prog 83 #[.pointer (some ⟨y, 0, none⟩), .int .i64 sec] w fun e W => e = .returned (.int .i64 0) ∧ XTicked y x sec w W := by
  obtain ⟨dk, huk, hdk⟩ := underKnown
  obtain ⟨a, cap, g, ekv, hr⟩ := h.knowns
  obtain ⟨K, hKe⟩ : ∃ K, K = x.K := ⟨_, rfl⟩
  obtain ⟨nw, hnw⟩ : ∃ nw, nw = x.now + sec := ⟨_, rfl⟩
  have a1 : ¬ sec < 0 := by omega
  have a2 : ¬ (1000000 : Int) < sec := by omega
  have c4 := h.c4
  have c5 := h.c5
  have f5 := h.frz 5
  have hyl := h.lt
  rw [ekv, ← hKe] at c4
  have hadd : IntKind.i64.wrap (x.now + sec) = nw := by rw [IntKind.wrap_i64, hnw]; omega
  obtain ⟨W1, hW1⟩ : ∃ W1, W1 = w.setCell ⟨y, 5, none⟩ (.int .i64 nw) := ⟨_, rfl⟩
  have c1 : Chg (fun b => b = y) w W1 := by rw [hW1]; exact Chg.setCell (X := fun b => b = y) (p := ⟨y, 5, none⟩) (Chg.refl _ w) (.inl rfl) _
  have ho1 : ∀ j, j ≠ 5 → W1.cell? ⟨y, j, none⟩ = w.cell? ⟨y, j, none⟩ := fun j hj => by rw [hW1]; exact World.cell?_setCell_other _ _ _ _ (fun e => hj (congrArg Addr.off e).symm)
  have y5 : W1.cell? ⟨y, 5, none⟩ = some (.int .i64 nw) := by rw [hW1]; exact World.cell?_setCell_same _ _ _ c5
  have y4 : W1.cell? ⟨y, 4, none⟩ = some (.slice a K.length cap) := (ho1 4 (by decide)).trans c4
  obtain ⟨cs, hcs⟩ := h.blk
  have hb1 : W1.heap[y]? = some (.cells (cs.setIfInBounds 5 (.int .i64 nw)) 90 (0, 0)) := by rw [hW1]; exact heap_setCell_same w y 5 cs 90 _ hcs
  have hne : ∀ b, x.kv.ownBlock = some b → b ≠ y := fun b hb => h.block h.rk.1 (by decide) hb
  have hr1 : ∀ k (hk : k < K.length), a = some ⟨g, 0, none⟩ ∧ W1.rangeAt g (k * 4) (mcRec x.now K[k]) := fun k hk => by
    subst hKe
    obtain ⟨ha, q0, q1, q2, q3⟩ := hr k hk
    have hgy : g ≠ y := hne g (by rw [ekv, ha]; rfl)
    refine ⟨ha, fun i u hu => c1.block.cell hgy ?_⟩
    match i, hu with
    | 0, hu => cases hu; exact q0
    | 1, hu => cases hu; exact q1
    | 2, hu => cases hu; exact q2
    | 3, hu => cases hu; exact q3
    | i + 4, hu => simp [mcRec] at hu
  have HR := hide hr1
  have HX := hide h
  have HC1 := hide c1
  have HO1 := hide ho1
  have HB1 := hide hb1
  have HKE := hide hKe
  have HNW := hide hnw
  have HY : Hid (∀ k (hk : k < K.length), Young K[k]) := hide fun k hk => by subst hKe; exact hy _ (List.getElem_mem hk)
  have HK64 : Hid (K.length ≤ 64) := hide (by rw [hKe]; exact hK)
  have HSEC := hide hs
  have HNN := hide hN
  have ly1 : y < W1.heap.size := block_lt_of_cell y4
  have hki8 : (K.length : Int) ≤ 64 := by rw [hKe]; omega
  have hsz1 : W1.heap.size = w.heap.size := by rw [hW1]; simp
  have HSZ := hide hsz1
  obtain ⟨now, hnow⟩ : ∃ now, now = x.now := ⟨_, rfl⟩
  rw [← hnow] at c5 hadd HR HNN
  have HNOW := hide hnow
  clear h hr ekv hr1 c1 ho1 hb1 hKe hnw hy hK hs hN hcs hsz1 hnow hne
  go_enter Tryz.func83, Tryz.ntmps83
  go_wp2_with fail
  rw [← hW1]
  clear hW1 c4 c5 f5 hadd hyl
  go_loopw [5, 6] (fun lv i wr => ∃ k : Nat, k ≤ K.length ∧ i = .int .i64 k ∧ RecOwn (mcRec nw) W1.heap.size wr 92 4 lv (tickL sec (K.take k)) ∧ Below W1.heap.size W1 wr ∧ (tickL sec (K.take k) = [] → lv = .slice none 0 0)) (fun _ i _ => K.length - (intOf i).toNat)
  case atStart => exact ⟨0, by omega, rfl, RecOwn.nil _ _ _ _ _, Below.refl _ _, fun _ => rfl⟩
  case round =>
    obtain ⟨k, hk, rfl, hown, hb, hnil⟩ := hrel
    obtain ⟨la, lcap, lg, hlv, -⟩ := hown.row (mcRec_length nw)
    subst hlv
    obtain ⟨m, hm⟩ : ∃ m, m = (tickL sec (K.take k)).length := ⟨_, rfl⟩
    rw [← hm] at hown hnil ⊢
    have HNIL := hide hnil
    clear hnil
    have e4 := cell_later hb y4
    have e5 := cell_later hb y5
    have ly : y < wr.heap.size := block_lt_of_cell e4
    by_cases hkl : k < K.length
    · have hki : (k : Int) < K.length := by omega
      obtain ⟨rfl, hrg⟩ := HR.out k hkl
      obtain ⟨z, hz⟩ : ∃ z, z = K[k] := ⟨_, rfl⟩
      obtain ⟨tm, htm⟩ : ∃ tm, tm = now - z.age := ⟨_, rfl⟩
      have hrw : wr.rangeAt g (k * 4) [.int .i64 z.vlan, .string z.mac, .int .i64 z.port, .int .i64 tm] := by
        have := rangeAt_below hrg hb
        rw [← hz] at this
        rw [htm]
        exact this
      have q3 : wr.cell? ⟨g, k * 4 + 3, none⟩ = some (.int .i64 tm) := hrw 3 _ rfl
      have lg' : g < wr.heap.size := block_lt_of_cell q3
      have hyz := HY.out k hkl
      rw [← hz] at hyz
      have hsub : IntKind.i64.wrap (nw - tm) = z.age + sec := by
        have := HNW.out
        have := HNOW.out
        have := HNN.out
        have := HSEC.out
        unfold Young at hyz
        rw [IntKind.wrap_i64]
        omega
      have htk : tickL sec (K.take (k + 1)) = tickL sec (K.take k) ++ if z.age + sec ≤ 300 then [{ z with age := z.age + sec }] else [] := by
        rw [List.take_add_one, List.getElem?_eq_getElem hkl, ← hz]
        exact tickL_snoc sec (K.take k) z
      have htm2 : tm = nw - (z.age + sec) := by
        have := HNW.out
        have := HNOW.out
        omega
      have HTK := hide htk
      have HTM := hide htm2
      have HOWN := hide hown
      have HB := hide hb
      have HM := hide hm
      have HRW := hide hrw
      have hmk : (tickL sec (K.take k)).length ≤ 1000 := by
        have h1 : (tickL sec (K.take k)).length ≤ (K.take k).length := by unfold tickL; exact Nat.le_trans (List.length_filter_le _ _) (by simp)
        rw [List.length_take] at h1
        omega
      have HMK := hide hmk
      obtain ⟨ag, hag⟩ : ∃ ag, ag = z.age + sec := ⟨_, rfl⟩
      rw [← hag] at hsub HTK HTM
      clear hown hb hm hrg hrw hz htm htk htm2 hyz hmk hag
      go_wp2_with fail
      refine wp_region_quiet_below (by kernel_rfl) (by kernel_rfl) ?_
      repeat (quiet_step (fail))
      refine wpQuiet_nil ?_; intro wq hwq; replace hwq := below_of_regrown hwq; obtain ⟨hcq, hfq⟩ := bcell hwq; have hzq := hwq.size
      have HQ := hide hwq
      have hbq : Below W1.heap.size W1 wq := HB.out.trans (hwq.mono HB.out.size)
      have hownq := HOWN.out.below hwq
      have hrq := rangeAt_below HRW.out hwq
      have f4 := cell_later hwq e4
      have lyq : y < wq.heap.size := block_lt_of_cell f4
      have lgq : g < wq.heap.size := block_lt_of_cell (cell_at0 hrq)
      have HBQ := hide hbq
      have HOQ := hide hownq
      clear hwq hcq hfq hzq q3 e4 e5 hbq hownq hsub
      by_cases hage : ag ≤ 300
      · obtain ⟨g3, cp3, w3, hap, hown3, hch3⟩ := append_mc0 (e := { z with age := ag }) HOQ.out HBQ.out.size HMK.out
        simp only at hap
        rw [← HM.out, ← HTM.out] at hap
        rw [← HM.out] at hown3
        have hap3 := appN_run hap
        have hld : (kLoad (.pointer (some ⟨g, k * 4, none⟩))).run Tryz.prog wq = .ok (.agg #[.int .i64 z.vlan, .string z.mac, .int .i64 z.port, .int .i64 tm]) wq := run_loadAt_mid wq g (k * 4) 92 [.int .i64 z.vlan, .string z.mac, .int .i64 z.port, .int .i64 tm] dk hrq huk hdk sizeKnown
        have hb3 : Below W1.heap.size W1 w3 := HBQ.out.trans (hch3.below HBQ.out.size fun b hb' => HOQ.out.base hb')
        have HT2 : Hid (tickL sec (K.take (k + 1)) = tickL sec (K.take k) ++ [{ z with age := ag }]) := hide (by rw [HTK.out, if_pos hage])
        have HO3 := hide hown3
        have HB3 := hide hb3
        clear hap hown3 hch3 hb3 hrq
        go_wp2_with fail
        go_roundw
        case rel => exact ⟨k + 1, by omega, by go_num, by rw [HT2.out]; exact HO3.out, HB3.out, fun e => by rw [HT2.out] at e; simp at e⟩
        case measure => simp [intOf]; omega
      · have HT2 : Hid (tickL sec (K.take (k + 1)) = tickL sec (K.take k)) := hide (by rw [HTK.out, if_neg hage, List.append_nil])
        clear hrq
        go_wp2_with fail
        go_roundw
        case rel => exact ⟨k + 1, by omega, by go_num, by rw [HT2.out]; exact HOQ.out, HBQ.out, fun e => HNIL.out (HT2.out ▸ e)⟩
        case measure => simp [intOf]; omega
    · have hki : ¬ (k : Int) < K.length := by omega
      have hke : K.take k = K := List.take_of_length_le (by omega)
      have f4 : wr.frozen? ⟨y, 4, none⟩ = false := frzRow ((hb.block y ly1).trans HB1.out) 4
      rw [hke] at hown
      have FIN : Hid (XTicked y x sec w (wr.setCell ⟨y, 4, none⟩ (.slice la m lcap))) := hide (by
        have bw := (hb.block y ly1).trans HB1.out
        have hney : (Value.slice la m lcap).ownBlock ≠ some y := fun e => by have := hown.base e; omega
        have cW : Chg (fun b => b = y) w (wr.setCell ⟨y, 4, none⟩ (.slice la m lcap)) := Chg.setCell (p := ⟨y, 4, none⟩) (HC1.out.trans (Chg.of_below hb)) (.inl rfl) _
        refine ⟨.slice la m lcap, HX.out.tick cW ⟨_, heap_setCell_same wr y 4 _ 90 _ bw⟩ (fun j h4 h5 => ?_) (World.cell?_setCell_same _ _ _ e4) ?_ ?_, cW, fun b hb' => ?_, fun e => HNIL.out (by rw [hke, HKE.out]; exact e)⟩
        · rw [World.cell?_setCell_other _ _ _ _ (fun e => h4 (congrArg Addr.off e).symm), (OnlyAt.of_block (hb.block y ly1) j).1]
          exact HO1.out j h5
        · rw [World.cell?_setCell_other _ _ _ _ (by simp), ← HNW.out]
          exact e5
        · rw [← HNW.out, ← HKE.out]
          refine (hown.lower ?_).same fun b hb' => Below.heap_setCell _ _ _ _ fun e => hney (by rw [hb']; exact congrArg some e)
          omega
        · have := hown.base hb'
          have := HSZ.out
          omega)
      clear hown hb hm hke
      go_wp2
      go_ret
      exact ⟨rfl, FIN.out⟩
end Go.Proofs.YtnjalelblbjfiaaGreatDoor

namespace Go.Proofs.YtnjalelblbjfiaaGreatDoor
open Go.RowKit

section
variable {w W : World} {x : Nat}
theorem far_str {n : Int} {v : ByteArray} (hl : Laid w) (h0 : w.cell? ⟨x, 0, none⟩ = some (.int .i64 n)) (h1 : w.cell? ⟨x, 1, none⟩ = some (.string v)) : Far w x := (away_str hl h0 h1).far
theorem far_tags {n : Int} {b : Option Nat} (hl : Laid w) (h0 : w.cell? ⟨x, 0, none⟩ = some (.int .i64 n)) (h1 : w.cell? ⟨x, 1, none⟩ = some (.map b)) : Far w x where
  zero := by rintro rfl; have := hl.2.1; rw [h1] at this; cases this
  ent r he := by have := he.c1; rw [h1] at this; cases this
  leaf a n c h := by rw [h0] at h; cases h
  node f l bl h _ _ := by rw [h1] at h; cases h
  bunch e r h _ := by rw [h0] at h; cases h
theorem far_known {m : Nat} {fn : Fn} {f c : Array Value} (hl : Laid w) (h0 : w.cell? ⟨x, 0, none⟩ = some (.pointer (some ⟨m, 0, none⟩))) (h1 : w.cell? ⟨x, 1, none⟩ = none) (hm : w.cell? ⟨m, 0, none⟩ = some (.func fn f c)) : Far w x where
  zero := by rintro rfl; have := hl.2.1; rw [h1] at this; cases this
  ent r he := by have := he.c0; rw [h0] at this; cases this
  leaf a n c h := by rw [h0] at h; cases h
  node f l bl h _ _ := by rw [h1] at h; cases h
  bunch e r h he := by rw [h0] at h; cases h; have := he.c0; rw [hm] at this; cases this
end
/-- A switch of the walk: whose its blocks are, and that both are alike. -/
structure SwD.Ok (w : World) (col : Nat → Nat) (i : Nat) (M : Int) (d : SwD) : Prop where
  c0 : w.cell? ⟨d.p, 0, none⟩ = some (.pointer (some ⟨d.s, 0, none⟩))
  c1 : w.cell? ⟨d.p, 1, none⟩ = some (.pointer (some ⟨d.y, 0, none⟩))
  cp : col d.p = 4
  imp : d.Imp w
  cI : ∀ b, d.mine b → col b = 6 * i + 10
  one : w.cell? ⟨d.k, 1, none⟩ = none
  ref : XSw w d.y d.x
  cX : ∀ b, d.x.blocks d.y b → col b = 6 * i + 13
  eP : d.P = d.x.P
  eK : d.K = d.x.K
  n0 : 0 < d.x.Q.length
  n8 : d.x.Q.length ≤ 8
  k64 : d.x.K.length ≤ 64
  tl : ∀ q ∈ d.x.Q, q.T.length ≤ 1000000000
  kp : ∀ e ∈ d.x.K, (0 ≤ e.port ∧ e.port < d.x.Q.length) ∧ isGrp e.mac = false
  nt : ∀ q ∈ d.x.Q, 0 ≤ q.nat ∧ q.nat < 4096
  yg : ∀ e ∈ d.x.K, Young e
  nil : d.x.K = [] → d.x.kv = .slice none 0 0
  now : 0 ≤ d.x.now ∧ d.x.now ≤ M
section
variable {w W : World} {col col' : Nat → Nat} {i : Nat} {M : Int} {d : SwD} {X : Nat → Prop}
theorem XSw.lts {y : Nat} {x : XSt} (h : XSw w y x) {b : Nat} (hb : x.blocks y b) : b < w.heap.size := by
  rcases hb with rfl | e | e | e | e | e | ⟨q, hq, e⟩
  · exact h.lt
  · exact h.rp.lt e
  · exact h.rf.lt e
  · exact h.rr.lt e
  · exact h.rt.lt e
  · exact h.rk.lt e
  · exact ((h.tg q hq).lt b e).2
theorem SwD.Ok.keep (h : d.Ok w col i M) (hc : Chg X w W) (h1 : ¬ X 1) (hX : ∀ x, X x → x < w.heap.size → Far w x ∧ col x ≠ 4 ∧ col x ≠ 6 * i + 10 ∧ col x ≠ 6 * i + 13) (hcol : ∀ x, x < w.heap.size → col x ≠ 0 → col' x = col x) : d.Ok W col' i M := by
  have hpl : d.p < w.heap.size := block_lt_of_cell h.c0
  have hp : ¬ X d.p := fun hx => (hX _ hx hpl).2.1 h.cp
  have hk : ¬ X d.k := fun hx => (hX _ hx (h.imp.lt (.inr (.inl rfl)))).2.2.1 (h.cI _ (.inr (.inl rfl)))
  have hkl : d.k < w.heap.size := h.imp.lt (.inr (.inl rfl))
  refine ⟨hc.block.cell hp h.c0, hc.block.cell hp h.c1, (hcol _ hpl (by rw [h.cp]; omega)).trans h.cp, h.imp.keep hc h1 fun x hx hl => ⟨(hX x hx hl).1, fun hm => (hX x hx hl).2.2.1 (h.cI x hm)⟩, fun b hb => (hcol _ (h.imp.lt hb) (by rw [h.cI b hb]; omega)).trans (h.cI b hb), ?_, h.ref.keep fun b hb hl => hc.block b hl fun hx => (hX b hx hl).2.2.2 (h.cX b hb), fun b hb => (hcol _ (h.ref.lts hb) (by rw [h.cX b hb]; omega)).trans (h.cX b hb), h.eP, h.eK, h.n0, h.n8, h.k64, h.tl, h.kp, h.nt, h.yg, h.nil, h.now⟩
  exact (World.cell?_of_block (a := ⟨d.k, 1, none⟩) (hc.block d.k hkl hk)).trans h.one
theorem SwD.Ok.later (h : d.Ok w col i M) {M' : Int} (hM : M ≤ M') : d.Ok w col i M' := { h with now := ⟨h.now.1, Int.le_trans h.now.2 hM⟩ }
/-- What of it a call may turn is no table's. -/
theorem SwD.Ok.farK (h : d.Ok w col i M) (hl : Laid w) {b : Nat} (hb : b = d.k ∨ KX d.m d.sv b) : Far w b := by
  rcases hb with rfl | hb
  · exact far_known hl h.imp.p.hK.1 h.one h.imp.p.hK.2.2.1.1.1
  · exact (known_away hl h.imp.p.hK b hb).far
theorem SwD.Ok.farP (h : d.Ok w col i M) (hl : Laid w) {b : Nat} (hb : d.pv.ownBlock = some b) : Far w b := by
  obtain ⟨a, cap, g, e, hc⟩ := h.imp.p.hp
  obtain ⟨ha, q0, mv, q1, q2⟩ := hc 0 (by rw [h.eP]; unfold XSt.P; rw [List.length_map]; exact h.n0)
  rw [e, ha] at hb
  obtain rfl : g = b := by simpa [Value.ownBlock] using hb
  rcases q2 with ⟨rfl, -⟩ | ⟨b', -, -, rfl, -⟩
  · exact far_tags hl q0 q1
  · exact far_tags hl q0 q1
theorem SwD.Ok.farY (h : d.Ok w col i M) (hl : Laid w) : Far w d.y := by
  obtain ⟨a, cap, g, e, -⟩ := h.ref.ports
  obtain ⟨a1, cap1, g1, e1, -⟩ := h.ref.facesAt
  obtain ⟨a3, cap3, g3, e3, -⟩ := h.ref.rt.row
  have c0 := h.ref.c0
  have c1 := h.ref.c1
  have c3 := h.ref.c3
  rw [e] at c0
  rw [e1] at c1
  rw [e3] at c3
  exact far_world c0 c1 ⟨_, _, _, c3⟩ hl
theorem SwD.Ok.farV (h : d.Ok w col i M) (hl : Laid w) {b : Nat} (hb : d.x.kv.ownBlock = some b) : Far w b := by
  obtain ⟨a, cap, g, e, hr⟩ := h.ref.knowns
  have hn : 0 < d.x.K.length := by
    rcases Nat.eq_zero_or_pos d.x.K.length with h0 | h0
    · rw [h.nil (List.length_eq_zero_iff.1 h0)] at hb; cases hb
    · exact h0
  obtain ⟨ha, q0, q1, -⟩ := hr 0 hn
  rw [e, ha] at hb
  obtain rfl : g = b := by simpa [Value.ownBlock] using hb
  exact far_str hl q0 q1
theorem SwD.Ok.farXP (h : d.Ok w col i M) (hl : Laid w) {b : Nat} (hb : d.x.pv.ownBlock = some b) : Far w b := by
  obtain ⟨a, cap, g, e, hr⟩ := h.ref.ports
  obtain ⟨ha, q0, q1, a1, cap1, b1, e1, -⟩ := hr 0 h.n0
  rw [e, ha] at hb
  obtain rfl : g = b := by simpa [Value.ownBlock] using hb
  rw [e1] at q1
  exact far_kept q0 q1 hl
end
/-- The switches that the walk has made. -/
structure LS (w : World) (sv : Value) (Ss : List SwD) (col : Nat → Nat) (M : Int) : Prop where
  mean : Means w
  c1 : col 1 = 4
  row : RowIs w 46 1 sv Ss.length (Ss.map fun d => .pointer (some ⟨d.p, 0, none⟩))
  cS : ∀ x, sv.ownBlock = some x → col x = 7
  pS : ∀ x j u, sv.ownBlock = some x → w.cell? ⟨x, j, none⟩ = some u → ∃ q, u = .pointer q
  sw : ∀ i (hi : i < Ss.length), (Ss[i]).Ok w col i M
theorem means_lt {w : World} (h : Means w) : 1 < w.heap.size := block_lt_of_cell h.1
section
variable {w W : World} {sv : Value} {Ss : List SwD} {col col' : Nat → Nat} {M : Int} {X : Nat → Prop}
theorem LS.keep (h : LS w sv Ss col M) (hc : Chg X w W) (hX : ∀ x, X x → x < w.heap.size → Far w x ∧ col x ≠ 7 ∧ col x ≠ 4 ∧ ∀ i, col x ≠ 6 * i + 10 ∧ col x ≠ 6 * i + 13) (hcol : ∀ x, x < w.heap.size → col x ≠ 0 → col' x = col x) : LS W sv Ss col' M := by
  have h1 : ¬ X 1 := fun hx => (hX 1 hx (means_lt h.mean)).2.2.1 h.c1
  refine ⟨⟨hc.block.cell h1 h.mean.1, hc.block.cell h1 h.mean.2.1, hc.block.cell h1 h.mean.2.2.1, hc.block.cell h1 h.mean.2.2.2⟩, (hcol 1 (means_lt h.mean) (by rw [h.c1]; omega)).trans h.c1, h.row.keep fun x hx => hc.block x (h.row.lt hx) fun hx' => (hX x hx' (h.row.lt hx)).2.1 (h.cS x hx), fun x hx => (hcol x (h.row.lt hx) (by rw [h.cS x hx]; omega)).trans (h.cS x hx), fun x j u hx hu => h.pS x j u hx ?_, fun i hi => (h.sw i hi).keep hc h1 (fun x hx hl => ⟨(hX x hx hl).1, (hX x hx hl).2.2.1, ((hX x hx hl).2.2.2 i).1, ((hX x hx hl).2.2.2 i).2⟩) hcol⟩
  rwa [(OnlyAt.of_block (hc.block x (h.row.lt hx) fun hx' => (hX x hx' (h.row.lt hx)).2.1 (h.cS x hx)) j).1] at hu
end
end Go.Proofs.YtnjalelblbjfiaaGreatDoor
