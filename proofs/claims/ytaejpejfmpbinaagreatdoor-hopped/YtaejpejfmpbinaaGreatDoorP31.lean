import Derived.Test.YtaejpejfmpbinaaGreatDoorP30
import Derived.Test.YtaejpejfmpbinaaGreatDoorP15
namespace Go.Proofs.YtaejpejfmpbinaaGreatDoor
open Go.RowKit Go.Maps

theorem jud_fate (n : Int) : fateRead (ofL (judD n)) = -1 := fate_plain (macL 5) (macL 6) _ 8 0 rfl rfl (by decide) (by rw [← ofL_size, pk_size]; simp [judR]) (mac_grp _)
theorem jud_out {n : Int} {K' : List Mc} (h : LearnK [] ⟨1, ofL (macL 6), 0, 0⟩ K') : fwdO P4 (judQ n) (portOf (known K' 1 (ofL (macL 5)))) (known K' 1 (ofL (macL 5))).isSome 4 = [(1, ofL (judD n)), (2, ofL (judD n)), (3, ofL (judD n))] := by
  have hk : known K' 1 (ofL (macL 5)) = none := by
    rw [h.known List.Pairwise.nil (by simp), if_neg, known_nil]
    rintro ⟨_, e⟩
    have := macL_inj (by omega) (by omega) (ofL_inj e)
    omega
  rw [hk, fwd_P4 (judQ n) _ _ rfl rfl]
  have hd : (judQ n).f.to ++ (judQ n).f.fr ++ (judQ n).f.ty ++ (judQ n).f.rest = ofL (judD n) := by
    show ofL (macL 5) ++ ofL (macL 6) ++ ofL [8, 0] ++ ofL (pkL 9 17 1 2 (judR n)) = _
    rw [ofL_append, ofL_append, ofL_append]
    rfl
  rw [hd]
  rfl
/-- What becomes of Judged's frame at a switch that knows nobody. -/
def JudOut (j : Option (Int × List (Int × ByteArray))) (n : Int) (r : Int) (L : List (Int × ByteArray)) : Prop :=
  (∀ rr LL, j = some (rr, LL) → r = rr ∧ L = LL) ∧ (j = none → r = 0 ∧ L = [(1, ofL (judD n)), (2, ofL (judD n)), (3, ofL (judD n))])
theorem jud_frame (s k m fm t vb : Nat) (pv : Value) (F : Nat → Prop) (Lr : List Ent) (V : Int → Int × Int) (n : Int) (w : World) (h : SwP w s pv P4 k m (.slice none 0 0) []) (hR : SwR w s fm t vb (.slice none 0 0) [] F Lr V) (hVP : ∀ id, (V id).1 = 2 → 0 ≤ (V id).2 ∧ (V id).2 < P4.length) (hid : ∀ b, (Lit.int .i64 (fndP Lr b).1).wf = true) :
    Calls Tryz.prog 9 #[.pointer (some ⟨s, 0, none⟩), .int .i64 0, .string (ofL (judD n))] w (FrameEnd w k m (.slice none 0 0) fun r L _ => JudOut (judP Lr V P4 (judQ n)) n r L) := by
  have hnat : ∀ p ∈ P4, (Lit.int .i64 p.nat).wf = true := fun p hp' => by rw [List.eq_of_mem_replicate hp']; rfl
  refine (sFrame_of s k m pv (.slice none 0 0) P4 [] 0 _ w h (by decide) (by simp) hnat _ _ _ (middleJ s k m fm t vb pv (.slice none 0 0) (.slice none 0 0) P4 [] [] F Lr V 0 _ w h hR hnat hVP hid (fun f _ => rfl))).mono fun e W hE => hE.mono ?_
  intro r L K' hF
  have hb : ∀ f, readF (ofL (judD n)) = some f → barredAt (pAt P4 (0 : Int).toNat) f = false := by
    intro f hf
    rw [jud_read] at hf
    cases hf
    rfl
  cases hF with
  | unknown h => exact absurd (show (0 : Int) ≤ 0 ∧ (0 : Int) < P4.length by decide) h
  | bad _ h => exact absurd (jud_fate n) h
  | barred f _ _ hf hb' =>
    rw [hb f hf] at hb'
    cases hb'
  | judged f K2 r2 L2 _ _ hf _ _ hj =>
    rw [jud_unp n hf] at hj
    refine ⟨fun rr LL e => ?_, fun e => ?_⟩
    · rw [hj] at e
      cases e
      exact ⟨rfl, rfl⟩
    · rw [hj] at e
      cases e
  | stopped f K2 r2 _ _ _ _ _ _ ho => cases ho
  | out f K2 q _ _ hf _ hl hj ho =>
    rw [jud_unp n hf] at hj ho
    cases ho
    have hl' : LearnK [] ⟨1, ofL (macL 6), 0, 0⟩ K' := by
      rw [jud_read] at hf
      cases hf
      exact hl
    have hO := jud_out (n := n) hl'
    refine ⟨fun rr LL e => ?_, fun _ => ⟨?_, hO⟩⟩
    · rw [hj] at e
      cases e
    · show (if (fwdO P4 (judQ n) (portOf (known K' 1 (ofL (macL 5)))) (known K' 1 (ofL (macL 5))).isSome 4).length = 0 then (8 : Int) else 0) = 0
      rw [hO]
      rfl
end Go.Proofs.YtaejpejfmpbinaaGreatDoor

namespace Go.Proofs.YtaejpejfmpbinaaGreatDoor
open Go.RowKit Go.Maps

theorem PortsO.noTags {w : World} {pv : Value} {P : List Prt} {Q : List (Int × Value)} (h : PortsO w pv P Q) (hQ : ∀ p ∈ Q, p = ((1 : Int), Value.map none)) : NoTags w pv P := by
  intro a n cap e j hj
  have hl := h.len
  rcases h.own.2 with ⟨e2, h0⟩ | ⟨g, c, cur, e2, _⟩
  · rw [e2] at e; cases e
  · have ho := h.own
    rw [e2] at ho e
    cases e
    have hg := rowQ_get Q j (by omega)
    have hq := hQ Q[j] (List.getElem_mem (by omega))
    rw [hq] at hg
    exact (ho.cellAt _ (by omega)).trans hg.2
/-- All of a hall. -/
theorem HallAt.all {w w' : World} {s : Nat} (h : HallAt w s w') : Below w.heap.size w w' ∧ ∃ fb t vb k m F pv, SwP w' s pv P4 k m (.slice none 0 0) [] ∧ SwR w' s fb t vb (.slice none 0 0) [] F [] noV ∧ NoTags w' pv P4 ∧ (w.heap.size ≤ s ∧ w.heap.size ≤ k ∧ w.heap.size ≤ m ∧ w.heap.size ≤ fb ∧ w.heap.size ≤ vb) ∧ (∀ x, F x → w.heap.size ≤ x) ∧ ∀ b, pv.ownBlock = some b → w.heap.size ≤ b := by
  obtain ⟨fb, rb, hb, t, vb, k, m0, F, Wb, W1, pv, Q, m, rfl, hI, hP, hQ, hC, hpb, hc, hS, hm⟩ := h
  have l1 := hI.n.lo
  have l2 := hI.lo
  have z1 := l1.size
  have z2 := l2.size
  have lk := hI.n.lk
  have lm := hI.n.lm
  have hk : k < Wb.heap.size := block_lt_of_cell hI.n.nk.1
  have hm0 : m0 < Wb.heap.size := block_lt_of_cell hI.n.nk.2.2.1.1.1
  have hb3 : Below w.heap.size W1 w' := hc.below (by omega) (by rintro x (rfl | rfl) <;> assumption)
  refine ⟨(l1.trans (l2.mono z1)).trans hb3, fb, t, vb, k, m, F, pv, hS, hI.swR hC hc, ?_, ⟨z1, lk, by omega, hI.n.lf, hI.n.lv⟩, hI.n.lt, fun b hb => by have := hpb b hb; omega⟩
  intro a n cap e j hj
  have h1 := hP.noTags hQ a n cap e j hj
  refine hc.block.cell ?_ h1
  have hab : pv.ownBlock = some a.block := by rw [e]; rfl
  have := hpb _ hab
  rintro (e2 | e2) <;> omega
end Go.Proofs.YtaejpejfmpbinaaGreatDoor

namespace Go.Proofs.YtaejpejfmpbinaaGreatDoor
open Go.RowKit Go.Maps

theorem Foreign.away {w : World} {x : Nat} (hl : Laid w) (h : Foreign w x) : Away w x := by
  refine ⟨?_, fun r he => h.notEnt he, fun a n c hc => ?_, fun f l bl h1 h2 h3 => ?_, fun e r hc he => ?_⟩
  · rintro rfl
    have c0 := hl.1
    have c1 := hl.2.1
    have c2 := hl.2.2.1
    rcases h with ⟨b2, q, fn, f, c, g0, g1, g2⟩ | ⟨fn, f, c, a, l, k, g0, g1⟩ | ⟨n, p, g0, g1⟩ | ⟨n, m, p, g0, g1, g2⟩ | ⟨o, ho, hco⟩ | ⟨hx0, cs, ct, cfr, ga, gb, gc, gd, gh, gs, g0, g1, g2, g3⟩
    · rw [g0] at c0; cases c0
    · rw [g0] at c0; cases c0
    · rw [g1] at c1; cases c1
    · rw [g2] at c2; cases c2
    · rw [noCell ho hco] at c0; cases c0
    · exact hx0 rfl
  · rcases h with ⟨b2, q, fn, f, c, g0, g1, g2⟩ | ⟨fn, f, c, a, l, k, g0, g1⟩ | ⟨n, p, g0, g1⟩ | ⟨n, m, p, g0, g1, g2⟩ | ⟨o, ho, hco⟩ | ⟨hx0, cs, ct, cfr, ga, gb, gc, gd, gh, gs, g0, g1, g2, g3⟩ <;> first | (rw [g0] at hc; cases hc) | (rw [noCell ho hco] at hc; cases hc)
  · rcases h with ⟨b2, q, fn, f, c, g0, g1, g2⟩ | ⟨fn, f, c, a, l, k, g0, g1⟩ | ⟨n, p, g0, g1⟩ | ⟨n, m, p, g0, g1, g2⟩ | ⟨o, ho, hco⟩ | ⟨hx0, cs, ct, cfr, ga, gb, gc, gd, gh, gs, g0, g1, g2, g3⟩
    · rw [g1] at h1; cases h1
    · rw [g1] at h1; cases h1
    · rw [g1] at h1; cases h1
    · rw [g2] at h2; cases h2
    · rw [noCell ho hco] at h1; cases h1
    · rw [g3] at h3; cases h3
  · rcases h with ⟨b2, q, fn, f, c, g0, g1, g2⟩ | ⟨fn, f, c, a, l, k, g0, g1⟩ | ⟨n, p, g0, g1⟩ | ⟨n, m, p, g0, g1, g2⟩ | ⟨o, ho, hco⟩ | ⟨hx0, cs, ct, cfr, ga, gb, gc, gd, gh, gs, g0, g1, g2, g3⟩
    · rw [g0] at hc
      cases hc
      have c0 := he.c0
      rw [g2] at c0
      cases c0
    · rw [g0] at hc; cases hc
    · rw [g0] at hc; cases hc
    · rw [g0] at hc; cases hc
    · rw [noCell ho hco] at hc; cases hc
    · rw [g0] at hc; cases hc

/-- A switch whose blocks all lie above is as it was. -/
theorem SwP.other {w W : World} {s k m B : Nat} {pv : Value} {P : List Prt} {X : Nat → Prop} (h : SwP w s pv P k m (.slice none 0 0) []) (hN : NoTags w pv P) (hc : Chg X w W) (hX : ∀ x, X x → x < B) (h1 : ¬ X 1) (ls : B ≤ s) (lk : B ≤ k) (lm : B ≤ m) (lp : ∀ b, pv.ownBlock = some b → B ≤ b) : SwP W s pv P k m (.slice none 0 0) [] ∧ NoTags W pv P := by
  have nx : ∀ {x}, B ≤ x → ¬ X x := fun hx hX' => by have := hX _ hX'; omega
  obtain ⟨a, cap, b, e, hcs⟩ := h.hp
  refine ⟨⟨hc.block.cell (nx ls) h.h0, ⟨a, cap, b, e, fun j hj => ?_⟩, hc.block.cell (nx ls) h.h5, h.hK.keep fun x hx hk => hc.block x hx ?_, hc.block.cell h1 h.hm.1, hc.block.cell h1 h.hm.2.1, hc.block.cell h1 h.hm.2.2.1, hc.block.cell h1 h.hm.2.2.2⟩, ?_⟩
  · obtain ⟨q0, q1, mv, q2, q3⟩ := hcs j hj
    subst q0
    have hb : ¬ X b := nx (lp b (by rw [e]; rfl))
    have hmv := hN _ _ _ e j hj
    rw [q2] at hmv
    cases hmv
    refine ⟨rfl, hc.block.cell hb q1, .map none, hc.block.cell hb q2, ?_⟩
    rcases q3 with ⟨_, hq⟩ | ⟨_, _, _, hq, _⟩
    · exact .inl ⟨rfl, hq⟩
    · cases hq
  · rcases hk with rfl | rfl | hk
    · exact nx lk
    · exact nx lm
    · cases hk
  · intro a' n' cap' e' j hj
    exact hc.block.cell (nx (lp _ (by rw [e']; rfl))) (hN a' n' cap' e' j hj)
theorem SwR.other {w W : World} {s fm t vb B : Nat} {F : Nat → Prop} {L : List Ent} {V : Int → Int × Int} {X : Nat → Prop} (h : SwR w s fm t vb (.slice none 0 0) [] F L V) (hc : Chg X w W) (hX : ∀ x, X x → x < B) (hA : ∀ x, X x → Away w x) (ls : B ≤ s) (lf : B ≤ fm) (lv : B ≤ vb) (lt : ∀ x, F x → B ≤ x) : SwR W s fm t vb (.slice none 0 0) [] F L V := by
  have nx : ∀ {x}, B ≤ x → ¬ X x := fun hx hX' => by have := hX _ hX'; omega
  obtain ⟨o, ho, _⟩ := h.hV.obj
  obtain ⟨c0, c1, c2, c3, c4⟩ := h.hF
  exact ⟨hc.block.cell (nx ls) h.h1, ⟨hc.block.cell (nx lf) c0, hc.block.cell (nx lf) c1, ⟨rfl, .inl ⟨rfl, rfl⟩⟩, fun j => (World.frozen?_of_block (a := ⟨fm, j, none⟩) (hc.block fm (block_lt_of_cell c0) (nx lf))).trans (c3 j), c4⟩, h.sF, fun g hg => (by cases hg), hc.block.cell (nx ls) h.h3, h.hT.away hc hA (fun x hx => nx (lt x hx)), hc.block.cell (nx ls) h.h4, h.hV.same (hc.block vb (lt_of_heap ho) (nx lv)), h.hD⟩
end Go.Proofs.YtaejpejfmpbinaaGreatDoor

namespace Go.Proofs.YtaejpejfmpbinaaGreatDoor
open Go.RowKit

theorem infoH : (Tryz.prog.info? 249).map (fun i => (i.zero, i.size, i.bytes)) = some (some (.agg #[.int .i64 0, .int .i64 0, .int .i64 0, .string ByteArray.empty]), 4, 40) := by kernel_rfl
theorem underH : Tryz.prog.underlying 236 = some (.slice 249) := by kernel_rfl
theorem sizeH : (Tryz.prog.info? 249).map (·.size) = some 4 := by kernel_rfl

set_option maxRecDepth 100000 in
set_option maxHeartbeats 1000000 in
theorem insH_end (sv : Value) (n : Nat) (xs : List Value) (vb : Nat) (vs : List Value) (w : World) (h : w.ownsRow 0 249 4 sv n xs) (hn : n ≤ 199) (hvl : vs.length = 4) (hvs : ∀ j u, vs[j]? = some u → w.cell? ⟨vb, j, none⟩ = some u) (h1 : ∀ u ∈ vs, u.oneCell' = true) :
    Calls Tryz.prog 147 #[sv, .int .i64 n, .slice (some ⟨vb, 0, none⟩) 1 1] w (InsPost 249 4 sv n (xs ++ vs) w) := by
  obtain ⟨i0, hi, hz0, hz1, hz2⟩ := info_parts infoH
  have H := hide h
  have HV := hide hvs
  have hnn : (n : Int) ≤ 199 := by omega
  rcases h.2 with ⟨hv, h0⟩ | ⟨g, cap, cur, hv, _, hg, hcap, hmax, hcs, htk⟩
  · subst hv h0
    clear h hvs
    go_enter Tryz.func147, Tryz.ntmps147
    go_wp2_with (first | (at_builtin; refine wpList_append_lies _ rfl _ _ 236 rfl 0 249 i0 (.agg #[.int .i64 0, .int .i64 0, .int .i64 0, .string ByteArray.empty]) 4 40 underH hi hz0 hz1 hz2 rfl (by decide) _ 0 xs rfl H.out ⟨vb, 0, none⟩ 1 1 vs rfl (by rw [hvl]) (fun j u hj => by rw [Addr.add_lit, Nat.zero_add]; exact HV.out j u hj) h1 (by decide) (by unfold maxLen; omega) (by omega) (Nat.zero_le _) _ rfl ?_))
    intro g1 cap1 w1 hown1 hgrow1 hat1 hlt1
    have P1 := hide (show InsPost 249 4 (.slice none 0 0) 0 (xs ++ vs) w (.returned (.slice (some ⟨g1, 0, none⟩) 1 cap1)) w1 from ⟨g1, cap1, rfl, hown1, by rcases hat1 with e | e; exact .inl e; exact .inr (by omega), Chg.grown hgrow1 fun _ e => e⟩)
    clear hown1 hgrow1 hat1
    go_wp2
    go_ret
    exact P1.out
  · subst hv
    clear h hvs htk hcs hg
    have hb : cap ≤ 9223372036854775807 := by unfold maxLen at hmax; omega
    have hcn : (n : Int) ≤ cap := by omega
    go_enter Tryz.func147, Tryz.ntmps147
    go_wp2_with (first | (at_builtin; refine wpList_append_lies _ rfl _ _ 236 rfl 0 249 i0 (.agg #[.int .i64 0, .int .i64 0, .int .i64 0, .string ByteArray.empty]) 4 40 underH hi hz0 hz1 hz2 rfl (by decide) _ n xs rfl H.out ⟨vb, 0, none⟩ 1 1 vs rfl (by rw [hvl]) (fun j u hj => by rw [Addr.add_lit, Nat.zero_add]; exact HV.out j u hj) h1 (by decide) (by unfold maxLen; omega) (by omega) (Nat.zero_le _) _ rfl ?_))
    all_goals
      intro g1 cap1 w1 hown1 hgrow1 hat1 hlt1
      have P1 := hide (show InsPost 249 4 (.slice (some ⟨g, 0, none⟩) n cap) n (xs ++ vs) w (.returned (.slice (some ⟨g1, 0, none⟩) (n + 1) cap1)) w1 from ⟨g1, cap1, rfl, hown1, by rcases hat1 with e | e; exact .inl e; exact .inr (by omega), Chg.grown hgrow1 fun _ e => e⟩)
      clear hown1 hgrow1 hat1
      go_wp2
      go_ret
      exact P1.out

set_option maxRecDepth 100000 in
set_option maxHeartbeats 1000000 in
theorem insH_room (g n cap i : Nat) (cur : Array Value) (xs : List Value) (vb : Nat) (tv : TypeId) (kv : Nat) (vs : List Value) (w : World) (hg : w.heap[g]? = some (.cells cur 249 (0, 0))) (hmax : cap ≤ maxLen) (hcs : cur.size = cap * 4) (hxl : xs.length = n * 4) (htk : cur.toList.take (n * 4) = xs) (hx1 : ∀ u ∈ xs, u.oneCell' = true)
    (hi : i < n) (hroom : n + 1 ≤ cap) (hn : n ≤ 199) (hvl : vs.length = 4) (hvs : ∀ j u, vs[j]? = some u → w.cell? ⟨vb, j, none⟩ = some u) (h1 : ∀ u ∈ vs, u.oneCell' = true) (hvb : vb ≠ g) (hsa : w.shape? vb = some (tv, kv)) (hfv : ∀ j, w.frozen? ⟨vb, j, none⟩ = false) :
    Calls Tryz.prog 147 #[.slice (some ⟨g, 0, none⟩) n cap, .int .i64 i, .slice (some ⟨vb, 0, none⟩) 1 1] w (InsPost 249 4 (.slice (some ⟨g, 0, none⟩) n cap) n (xs.take (i * 4) ++ vs ++ xs.drop (i * 4)) w) := by
  have hsb : w.shape? g = some (249, cur.size) := by simp [World.shape?, hg]
  have hov : ∀ lb cb, (callFunc 165 #[.slice (some ⟨vb, 0, none⟩) 1 1, .slice (some ⟨g, (i + 1) * 4, none⟩) lb cb]).run Tryz.prog w = .ok (.value (.bool false)) w := fun lb cb => by
    rw [run_callFunc_extern Tryz.func165 (by kernel_rfl) (by kernel_rfl) (by kernel_rfl) (e := Extern.SlicesOverlaps.overlaps #[236, 236] #[4]) (by kernel_rfl),
      Lib.run_overlaps_apart w 236 4 249 underH 4 (fun _ => rfl) ⟨vb, 0, none⟩ ⟨g, (i + 1) * 4, none⟩ 1 1 lb cb hvb tv 249 kv cur.size hsa hsb (by omega) (hfv _) (hfv _)]
    rfl
  have hb : cap ≤ 9223372036854775807 := by unfold maxLen at hmax; omega
  have hcn : (n : Int) ≤ cap := by omega
  have hcn1 : (n : Int) + 1 ≤ cap := by omega
  have hz2 : ¬ ((i : Int) = (n : Int)) := by omega
  have hin : (i : Int) < n := by omega
  have hnc : ¬ ((cap : Int) < (n : Int) + 1) := by omega
  have hci : ¬ (cap = i) := by omega
  have hci1 : ¬ (cap = i + 1) := by omega
  have hw1 : IntKind.i64.wrap ((i : Int) + 1) = (i : Int) + 1 := by rw [IntKind.wrap_i64]; omega
  have hw2 : IntKind.i64.wrap ((n : Int) + 1) = (n : Int) + 1 := by rw [IntKind.wrap_i64]; omega
  have htn : ((i : Int) + 1).toNat = i + 1 := by omega
  have htn2 : ((n : Int) + 1).toNat = n + 1 := by omega
  have hb1 : (0 : Int) ≤ (i : Int) + 1 := by omega
  have hb2 : i ≤ n := by omega
  have hb3 : (i : Int) ≤ (n : Int) + 1 := by omega
  have hcl : cur.toList.length = cap * 4 := by rw [Array.length_toList]; exact hcs
  obtain ⟨D, hD⟩ : ∃ D, D = xs.drop (i * 4) := ⟨_, rfl⟩
  have hDl : D.length = (n - i) * 4 := by rw [hD, List.length_drop, hxl]; omega
  have hDc : ∀ j v, D[j]? = some v → w.cell? ⟨g, i * 4 + j, none⟩ = some v := fun j v hj => by
    rw [hD, List.getElem?_drop, ← htk, List.getElem?_take] at hj
    split at hj
    · exact cell_in_row hg hj
    · cases hj
  have hD1 : ∀ u ∈ D, u.oneCell' = true := fun u hu => hx1 u (by rw [hD] at hu; exact List.mem_of_mem_drop hu)
  have hrow : (splice (splice cur.toList ((i + 1) * 4) D) (i * 4) vs).take ((n + 1) * 4) = xs.take (i * 4) ++ vs ++ xs.drop (i * 4) := by
    rw [show (i + 1) * 4 = i * 4 + 4 by omega, show (n + 1) * 4 = n * 4 + 4 by omega, hD]
    exact ins_room cur.toList xs vs (i * 4) (n * 4) 4 htk hxl hvl (by omega) (by rw [hcl]; omega)
  have hrl : (splice (splice cur.toList ((i + 1) * 4) D) (i * 4) vs).length = cap * 4 := by
    rw [length_splice _ _ _ (by rw [length_splice _ _ _ (by omega)]; omega), length_splice _ _ _ (by omega), hcl]
  obtain ⟨ys, hys⟩ : ∃ ys, ys = xs.take (i * 4) ++ vs ++ xs.drop (i * 4) := ⟨_, rfl⟩
  have hyl : ys.length = (n + 1) * 4 := by rw [hys]; simp only [List.length_append, List.length_take, List.length_drop, hxl, hvl]; omega
  rw [← hys] at hrow ⊢
  have HG : Hid (w.heap[g]? = some (.cells cur.toList.toArray 249 (0, 0))) := hide (by rw [hg])
  have HV := hide hvs
  have HC := hide hcl
  have HDl := hide hDl
  have HDc := hide hDc
  have HD1 := hide hD1
  have HR := hide hrow
  have HRl := hide hrl
  have HYl := hide hyl
  clear hg hvs htk hxl hcs hsb hcl hDl hDc hD1 hrow hrl hyl hys hD
  generalize cur.toList = C at *
  have hmx := hide hmax
  clear hmax
  go_enter Tryz.func147, Tryz.ntmps147
  go_wp2_with (simp only [hov])
  go_region_law (refine step_copy_wide rfl _ _ 236 236 rfl 249 4 underH sizeH g ((i + 1) * 4) (n - i) (cap - (i + 1)) ⟨g, i * 4, none⟩ (n + 1 - i) (cap - i) (by simp [Act.eval, Act.put]) (by simp [Act.eval, Act.put]) C 249 HG.out D (n - i) (by simp only [Nat.min_def]; split <;> omega) HDl.out (fun j v hj => by rw [Addr.add_lit]; exact HDc.out j v hj) (by rw [HDl.out, HC.out]; omega) HD1.out (fun b => b = g) w (Chg.refl _ _).drew (.inl rfl) ?_; intro w1 G1 C1 O1)
  have HV1 : Hid (∀ j u, vs[j]? = some u → w1.cell? ⟨vb, j, none⟩ = some u) := hide fun j u hj => (World.cell?_of_block (w := w) (a := ⟨vb, j, none⟩) (O1.out vb hvb)).trans (HV.out j u hj)
  have HL1 : Hid (i * 4 + vs.length ≤ (splice C ((i + 1) * 4) D).length) := hide (by rw [length_splice _ _ _ (by rw [HDl.out, HC.out]; omega), HC.out, hvl]; omega)
  go_wp2_with (refine wpList_copy_wide rfl _ _ 236 236 rfl 249 4 underH sizeH g (i * 4) (n + 1 - i) (cap - i) ⟨vb, 0, none⟩ 1 1 rfl rfl (splice C ((i + 1) * 4) D) 249 G1.out vs 1 (by simp only [Nat.min_def]; split <;> omega) (by rw [hvl]) (fun j v hj => by rw [Addr.add_lit, Nat.zero_add]; exact HV1.out j v hj) HL1.out h1 (fun b => b = g) w C1.out (.inl rfl) ?_)
  intro w2 G2 C2 O2
  go_wp2
  go_ret
  exact ⟨g, cap, rfl, ⟨HYl.out, .inr ⟨g, cap, _, rfl, Nat.zero_le _, G2.out, hroom, hmx.out, by rw [List.size_toArray]; exact HRl.out, HR.out⟩⟩, .inl rfl, C2.out.mono fun x _ hx => by subst hx; rfl⟩

theorem cells_zeroH : (Value.cells (.agg #[.int .i64 0, .int .i64 0, .int .i64 0, .string ByteArray.empty])).size = 4 := rfl

set_option maxRecDepth 100000 in
set_option maxHeartbeats 1000000 in
theorem insH_grow (g n cap i : Nat) (cur : Array Value) (xs : List Value) (vb : Nat) (vs : List Value) (w : World) (hg : w.heap[g]? = some (.cells cur 249 (0, 0))) (hxl : xs.length = n * 4) (htk : cur.toList.take (n * 4) = xs) (hx1 : ∀ u ∈ xs, u.oneCell' = true)
    (hi : i < n) (hnc0 : n ≤ cap) (hroom : cap < n + 1) (hn : n ≤ 199) (hvl : vs.length = 4) (hvs : ∀ j u, vs[j]? = some u → w.cell? ⟨vb, j, none⟩ = some u) (h1 : ∀ u ∈ vs, u.oneCell' = true) :
    Calls Tryz.prog 147 #[.slice (some ⟨g, 0, none⟩) n cap, .int .i64 i, .slice (some ⟨vb, 0, none⟩) 1 1] w (InsPost 249 4 (.slice (some ⟨g, 0, none⟩) n cap) n (xs.take (i * 4) ++ vs ++ xs.drop (i * 4)) w) := by
  obtain rfl : cap = n := by omega
  obtain ⟨i0, hii, hz0, hzs, hzb⟩ := info_parts infoH
  have hglt : g < w.heap.size := (Array.getElem?_eq_some_iff.1 hg).1
  have hvlt : vb < w.heap.size := by
    obtain ⟨u, hu⟩ : ∃ u, vs[0]? = some u := ⟨_, List.getElem?_eq_getElem (by omega)⟩
    exact block_lt_of_cell (hvs 0 u hu)
  obtain ⟨D, hD⟩ : ∃ D, D = xs.drop (i * 4) := ⟨_, rfl⟩
  have hDl : D.length = (cap - i) * 4 := by rw [hD, List.length_drop, hxl]; omega
  have hDc : ∀ j v, D[j]? = some v → w.cell? ⟨g, i * 4 + j, none⟩ = some v := fun j v hj => by
    rw [hD, List.getElem?_drop, ← htk, List.getElem?_take] at hj
    split at hj
    · exact cell_in_row hg hj
    · cases hj
  have hD1 : ∀ u ∈ D, u.oneCell' = true := fun u hu => hx1 u (by rw [hD] at hu; exact List.mem_of_mem_drop hu)
  have hold : (Builtin.firstCells i0.size i (.slice (some ⟨g, 0, none⟩) i cap)).run Tryz.prog w.drew = .ok (xs.take (i * 4)).toArray w.drew := by
    rw [hzs]
    exact run_firstCells_some w.drew 4 i ⟨g, 0, none⟩ i cap (xs.take (i * 4)) (by rw [List.length_take]; omega) (fun j v hj => by
      rw [Addr.add_lit, Nat.zero_add]
      rw [List.getElem?_take] at hj
      split at hj
      · rw [← htk, List.getElem?_take] at hj
        split at hj
        · exact cell_in_row hg hj
        · cases hj
      · cases hj)
  have hik : i + (cap + 1 - i) = cap + 1 := by omega
  have hkk : (cap : Int) + 1 - (i : Int) = ((cap + 1 - i : Nat) : Int) := by omega
  obtain ⟨G, hG⟩ : ∃ G, G = grownCap w (cap + 1) cap 249 := ⟨_, rfl⟩
  obtain ⟨ROW, hROW⟩ : ∃ ROW : Array Value, ROW = (xs.take (i * 4)).toArray ++ Builtin.zeroCells (Value.cells (.agg #[.int .i64 0, .int .i64 0, .int .i64 0, .string ByteArray.empty])) (cap + 1 - i) ++ Builtin.zeroCells (Value.cells (.agg #[.int .i64 0, .int .i64 0, .int .i64 0, .string ByteArray.empty])) (G - (cap + 1)) := ⟨_, rfl⟩
  obtain ⟨W1, hW1⟩ : ∃ W1, W1 = w.drew.alloc (.cells ROW 249) := ⟨_, rfl⟩
  have hrz : ∀ ty, (Builtin.append_ #[236, 3] ty #[.slice (some ⟨g, 0, none⟩) i cap, .int .i64 ((cap : Int) + 1 - (i : Int))]).run Tryz.prog w = .ok (.slice (some ⟨w.heap.size, 0, none⟩) (cap + 1) G) W1 := fun ty => by
    have h := Lib.run_append_grow_zeros w 236 3 ty 249 i0 _ .i64 .i64 underH (by kernel_rfl) hii hz0 (some ⟨g, 0, none⟩) i cap (xs.take (i * 4)) hold (cap + 1 - i) (by omega) (by omega) (by omega) (by omega) (by rw [hzb]; omega) (by rw [hzb, hik]; exact growslice_fits hroom (by omega))
    rw [hik] at h
    rw [hkk, hW1, hROW, hG]
    exact h
  have hGn : cap + 1 ≤ G := by rw [hG]; exact grownCap_ge w _ _ _
  have hGm : G ≤ maxLen := by rw [hG]; exact grownCap_le_maxLen w (cap + 1) cap 249 (by unfold maxLen; omega)
  have hG63 : G ≤ 9223372036854775807 := by unfold maxLen at hGm; omega
  have hRs : ROW.toList.length = G * 4 := by
    rw [hROW]
    simp only [Builtin.zeroCells, cells_zeroH, Array.toList_append, List.length_append, Array.length_toList, Array.size_map, Array.size_range, List.length_take]
    omega
  have hRt : ROW.toList.take (i * 4) = xs.take (i * 4) := by
    rw [hROW, Array.toList_append, Array.toList_append, List.append_assoc, List.take_append_of_le_length (by rw [List.length_take]; omega), List.take_take, Nat.min_self]
  have hrow : (splice (splice ROW.toList (i * 4) vs) ((i + 1) * 4) D).take ((cap + 1) * 4) = xs.take (i * 4) ++ vs ++ xs.drop (i * 4) := by
    rw [show (i + 1) * 4 = i * 4 + 4 by omega, show (cap + 1) * 4 = cap * 4 + 4 by omega, hD]
    exact ins_grow ROW.toList xs vs (i * 4) (cap * 4) 4 hRt hxl hvl (by omega) (by rw [hRs]; omega)
  have hl1 : (splice ROW.toList (i * 4) vs).length = G * 4 := by rw [length_splice _ _ _ (by omega), hRs]
  have hrl : (splice (splice ROW.toList (i * 4) vs) ((i + 1) * 4) D).length = G * 4 := by rw [length_splice _ _ _ (by omega), hl1]
  obtain ⟨ys, hys⟩ : ∃ ys, ys = xs.take (i * 4) ++ vs ++ xs.drop (i * 4) := ⟨_, rfl⟩
  have hyl : ys.length = (cap + 1) * 4 := by rw [hys]; simp only [List.length_append, List.length_take, List.length_drop, hxl, hvl]; omega
  rw [← hys] at hrow ⊢
  obtain ⟨N, hN⟩ : ∃ N, N = w.heap.size := ⟨_, rfl⟩
  have HG : Hid (W1.heap[N]? = some (.cells ROW.toList.toArray 249 (0, 0))) := hide (by rw [hW1, hN]; exact (by simp : (w.heap.push (Obj.cells ROW 249))[w.heap.size]? = some (Obj.cells ROW.toList.toArray 249)))
  have HO : Hid (∀ k, k < N → W1.heap[k]? = w.heap[k]?) := hide fun k hk => by rw [hW1]; exact ((Below.refl w.heap.size w.drew).alloc (Nat.le_refl _) _).block k (by omega)
  have HCh : Hid (Chg (fun b => b = g) w W1) := hide (by rw [hW1]; exact (Chg.refl _ w).drew.alloc _)
  rw [← hN] at hrz hglt hvlt
  have HV1 : Hid (∀ j u, vs[j]? = some u → W1.cell? ⟨vb, j, none⟩ = some u) := hide fun j u hj => (World.cell?_of_block (w := w) (a := ⟨vb, j, none⟩) (HO.out vb hvlt)).trans (hvs j u hj)
  have HD2 : Hid (∀ j v, D[j]? = some v → W1.cell? ⟨g, i * 4 + j, none⟩ = some v) := hide fun j v hj => (World.cell?_of_block (w := w) (a := ⟨g, i * 4 + j, none⟩) (HO.out g hglt)).trans (hDc j v hj)
  have HDl := hide hDl
  have HD1 := hide hD1
  have HR := hide hrow
  have HRl := hide hrl
  have HRs := hide hRs
  have HL1 := hide hl1
  have HYl := hide hyl
  have HGm := hide hGm
  have HN := hide hN
  have hgN : g ≠ N := by omega
  clear hg hvs htk hxl hDl hDc hD1 hrow hrl hyl hys hD hold hik hkk hROW hRs hRt hl1 hW1 hG hGm hN HO hx1
  generalize ROW.toList = C at *
  have hb : cap ≤ 9223372036854775807 := by omega
  have hz2 : ¬ ((i : Int) = (cap : Int)) := by omega
  have hin : (i : Int) < cap := by omega
  have hnc : (cap : Int) < (cap : Int) + 1 := by omega
  have hci : ¬ (cap = i) := by omega
  have hGi : ¬ (G = i) := by omega
  have hGi1 : ¬ (G = i + 1) := by omega
  have hw1 : IntKind.i64.wrap ((i : Int) + 1) = (i : Int) + 1 := by rw [IntKind.wrap_i64]; omega
  have hw2 : IntKind.i64.wrap ((cap : Int) + 1) = (cap : Int) + 1 := by rw [IntKind.wrap_i64]; omega
  have hw3 : IntKind.i64.wrap ((cap : Int) + 1 - (i : Int)) = (cap : Int) + 1 - (i : Int) := by rw [IntKind.wrap_i64]; omega
  have htn : ((i : Int) + 1).toNat = i + 1 := by omega
  have hb1 : (0 : Int) ≤ (i : Int) + 1 := by omega
  have hb2 : i ≤ cap := by omega
  have hb3 : (i : Int) ≤ (cap : Int) + 1 := by omega
  go_enter Tryz.func147, Tryz.ntmps147
  go_wp2_with (first | (at_builtin; refine Lib.wpList_append_run _ rfl _ _ 236 3 rfl _ _ rfl rfl _ _ (hrz _) ?_) | (refine wpList_copy_wide rfl _ _ 236 236 rfl 249 4 underH sizeH N (i * 4) (cap + 1 - i) (G - i) ⟨vb, 0, none⟩ 1 1 rfl rfl C 249 HG.out vs 1 (by simp only [Nat.min_def]; split <;> omega) (by rw [hvl]) (fun j v hj => by rw [Addr.add_lit, Nat.zero_add]; exact HV1.out j v hj) (by rw [HRs.out, hvl]; omega) h1 (fun b => b = g) w HCh.out (.inr (Nat.le_of_eq HN.out.symm)) ?_))
  intro w1 G1 C1 O1
  have HD3 : Hid (∀ j v, D[j]? = some v → w1.cell? ⟨g, i * 4 + j, none⟩ = some v) := hide fun j v hj => (World.cell?_of_block (w := W1) (a := ⟨g, i * 4 + j, none⟩) (O1.out g hgN)).trans (HD2.out j v hj)
  go_wp2
  go_region_law (refine step_copy_wide rfl _ _ 236 236 rfl 249 4 underH sizeH N ((i + 1) * 4) (cap - i) (G - (i + 1)) ⟨g, i * 4, none⟩ (cap - i) (cap - i) (by simp [Act.eval, Act.put]) (by simp [Act.eval, Act.put]) (splice C (i * 4) vs) 249 G1.out D (cap - i) (by simp only [Nat.min_def]; split <;> omega) HDl.out (fun j v hj => by rw [Addr.add_lit]; exact HD3.out j v hj) (by rw [HDl.out, HL1.out]; omega) HD1.out (fun b => b = g) w C1.out.drew (.inr (Nat.le_of_eq HN.out.symm)) ?_; intro w2 G2 C2 O2)
  go_wp2
  go_ret
  exact ⟨N, G, rfl, ⟨HYl.out, .inr ⟨N, G, _, rfl, Nat.zero_le _, G2.out, hGn, HGm.out, by rw [List.size_toArray]; exact HRl.out, HR.out⟩⟩, .inr (Nat.le_of_eq HN.out.symm), C2.out.mono fun x _ hx => by subst hx; rfl⟩

/-- slices.Insert of one element. -/
theorem insH_any (sv : Value) (n i : Nat) (xs : List Value) (vb : Nat) (tv : TypeId) (kv : Nat) (vs : List Value) (w : World) (h : w.ownsRow 0 249 4 sv n xs) (hx1 : ∀ u ∈ xs, u.oneCell' = true) (hi : i ≤ n) (hn : n ≤ 199) (hvl : vs.length = 4)
    (hvs : ∀ j u, vs[j]? = some u → w.cell? ⟨vb, j, none⟩ = some u) (h1 : ∀ u ∈ vs, u.oneCell' = true) (hvb : sv.ownBlock ≠ some vb) (hsa : w.shape? vb = some (tv, kv)) (hfv : ∀ j, w.frozen? ⟨vb, j, none⟩ = false) :
    Calls Tryz.prog 147 #[sv, .int .i64 i, .slice (some ⟨vb, 0, none⟩) 1 1] w (InsPost 249 4 sv n (xs.take (i * 4) ++ vs ++ xs.drop (i * 4)) w) := by
  by_cases hin : i = n
  · subst hin
    have e1 : xs.take (i * 4) = xs := List.take_of_length_le (by rw [h.1]; exact Nat.le_refl _)
    have e2 : xs.drop (i * 4) = [] := List.drop_eq_nil_of_le (by rw [h.1]; exact Nat.le_refl _)
    rw [e1, e2, List.append_nil]
    exact insH_end sv i xs vb vs w h hn hvl hvs h1
  · have h' := h
    rcases h.2 with ⟨hv, h0⟩ | ⟨g, cap, cur, hv, _, hg, hcap, hmax, hcs, htk⟩
    · omega
    · subst hv
      by_cases hr : n + 1 ≤ cap
      · exact insH_room g n cap i cur xs vb tv kv vs w hg hmax hcs h'.1 htk hx1 (by omega) hr hn hvl hvs h1 (fun e => hvb (by rw [e]; rfl)) hsa hfv
      · exact insH_grow g n cap i cur xs vb vs w hg h'.1 htk hx1 (by omega) hcap (by omega) hn hvl hvs h1

end Go.Proofs.YtaejpejfmpbinaaGreatDoor
