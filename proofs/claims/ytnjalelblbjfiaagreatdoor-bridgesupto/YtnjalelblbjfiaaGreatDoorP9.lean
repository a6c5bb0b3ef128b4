import Derived.Test.YtnjalelblbjfiaaGreatDoorP8
import Derived.Deep.RegionHeld3
namespace Go.Proofs.YtnjalelblbjfiaaGreatDoor
open Go.RowKit

/-- Block x is none of an entry, a tree's node, a bunch's array: it is a table's own block, a map's, or one of the two arrays. -/
def Foreign (w : World) (x : Nat) : Prop :=
  (∃ b q fn f c, w.cell? ⟨x, 0, none⟩ = some (.pointer (some ⟨b, 0, none⟩)) ∧ w.cell? ⟨x, 1, none⟩ = some (.pointer q) ∧ w.cell? ⟨b, 0, none⟩ = some (.func fn f c)) ∨
  (∃ fn f c a l k, w.cell? ⟨x, 0, none⟩ = some (.func fn f c) ∧ w.cell? ⟨x, 1, none⟩ = some (.slice a l k)) ∨
  (∃ n p, w.cell? ⟨x, 0, none⟩ = some (.int .i64 n) ∧ w.cell? ⟨x, 1, none⟩ = some (.pointer p)) ∨
  (∃ n m p, w.cell? ⟨x, 0, none⟩ = some (.int .i64 n) ∧ w.cell? ⟨x, 1, none⟩ = some (.int .i64 m) ∧ w.cell? ⟨x, 2, none⟩ = some (.pointer p)) ∨
  (∃ o, w.heap[x]? = some o ∧ o.isCells = false) ∨
  (x ≠ 0 ∧ ∃ cs t fr a b c d, w.heap[x]? = some (.cells cs t fr) ∧ cs.size ≠ 29 ∧ w.cell? ⟨x, 0, none⟩ = some (.int .i64 a) ∧ w.cell? ⟨x, 1, none⟩ = some (.int .i64 b) ∧ w.cell? ⟨x, 2, none⟩ = some (.int .i64 c) ∧ w.cell? ⟨x, 3, none⟩ = some (.int .i64 d))

theorem noCell {w : World} {x i : Nat} {o : Obj} (h : w.heap[x]? = some o) (ho : o.isCells = false) : w.cell? ⟨x, i, none⟩ = none := by
  unfold World.cell?
  rw [h]
  cases o <;> first | rfl | cases ho

theorem Foreign.notEnt {w : World} {x : Nat} {r : Rl} (h : Foreign w x) (he : EntAt w x r) : False := by
  have c0 := he.c0
  have c1 := he.c1
  have c2 := he.c2
  rcases h with ⟨b, q, fn, f, c, h0, h1, _⟩ | ⟨fn, f, c, a, l, k, h0, h1⟩ | ⟨n, p, h0, h1⟩ | ⟨n, m, p, h0, h1, h2⟩ | ⟨o, h, ho⟩ | ⟨hx0, cs, ct, cfr, ga, gb, gc, gd, gh, gs, g0, g1, g2, g3⟩
  · rw [h0] at c0; cases c0
  · rw [h0] at c0; cases c0
  · rw [h1] at c1; cases c1
  · rw [h2] at c2; cases c2
  · rw [noCell h ho] at c0; cases c0
  · have e1 := he 28 (by omega)
    have e2 := he 29 (by omega)
    rw [cell_of_row w x 28 cs ct cfr gh] at e1
    rw [cell_of_row w x 29 cs ct cfr gh] at e2
    have l1 : 28 < cs.size := (Array.getElem?_eq_some_iff.1 (e1.trans (show r.ecells[28]? = some _ from rfl))).1
    have l2 : cs.size ≤ 29 := Array.getElem?_eq_none_iff.1 (e2.trans (show r.ecells[29]? = none from rfl))
    omega

/-- All blocks are as they were but for those of X, which are foreign. -/
def KeptBut (X : Nat → Prop) (w w' : World) : Prop := ∀ b, b < w.heap.size → ¬ X b → w'.heap[b]? = w.heap[b]?

section
variable {X : Nat → Prop} {w w' : World}

theorem KeptBut.cell (h : KeptBut X w w') {b i : Nat} {v : Value} (hx : ¬ X b) (hc : w.cell? ⟨b, i, none⟩ = some v) : w'.cell? ⟨b, i, none⟩ = some v :=
  (World.cell?_of_block (w := w) (a := ⟨b, i, none⟩) (h b (block_lt_of_cell hc) hx)).trans hc

theorem EntAt.kept (h : KeptBut X w w') (hX : ∀ x, X x → Foreign w x) {b : Nat} {r : Rl} (he : EntAt w b r) : EntAt w' b r :=
  he.same (h b he.lt fun hx => (hX b hx).notEnt he)

theorem BunchAt.kept (h : KeptBut X w w') (hX : ∀ x, X x → Foreign w x) {v : Value} {es : List Ent} (hb : BunchAt w v es) : BunchAt w' v es := by
  obtain ⟨a, cap, hv, hc, he⟩ := hb
  refine ⟨a, cap, hv, fun i hi => ?_, fun e hm => (he e hm).kept h hX⟩
  obtain ⟨b, off, ⟨ha, h0⟩, hcell⟩ := hc i hi
  refine ⟨b, off, ⟨ha, h0⟩, h.cell (fun hx => ?_) hcell⟩
  obtain ⟨b', off', ⟨ha', h0'⟩, hcell'⟩ := hc 0 (by omega)
  rw [ha] at ha'
  cases ha'
  subst h0
  have he0 := he es[0] (List.getElem_mem (by omega))
  rw [Nat.zero_add] at hcell'
  rcases hX b hx with ⟨b2, q, fn, f, c, g0, g1, g2⟩ | ⟨fn, f, c, a, l, k, g0, g1⟩ | ⟨n, p, g0, g1⟩ | ⟨n, m, p, g0, g1, g2⟩ | ⟨o, ho, hco⟩ | ⟨hx0, cs, ct, cfr, ga, gb, gc, gd, gh, gs, g0, g1, g2, g3⟩
  · rw [g0] at hcell'
    have e : b2 = es[0].1 := by simpa using hcell'
    have c0 := he0.c0
    rw [← e, g2] at c0
    cases c0
  · rw [g0] at hcell'; cases hcell'
  · rw [g0] at hcell'; cases hcell'
  · rw [g0] at hcell'; cases hcell'
  · rw [noCell ho hco] at hcell'; cases hcell'
  · rw [g0] at hcell'; cases hcell'

theorem TreeAt.kept (h : KeptBut X w w') (hX : ∀ x, X x → Foreign w x) : ∀ {n b : Nat} {es : List Ent}, TreeAt w n b es → TreeAt w' n b es := by
  have leafy : ∀ {b : Nat} {v : Value} {es : List Ent}, BunchAt w v es → w.cell? ⟨b, 0, none⟩ = some v → ¬ X b := by
    intro b v es hb hc hx
    obtain ⟨a, cap, hv, _, _⟩ := hb
    rw [hv] at hc
    rcases hX b hx with ⟨b2, q, fn, f, c, g0, g1, g2⟩ | ⟨fn, f, c, a, l, k, g0, g1⟩ | ⟨n, p, g0, g1⟩ | ⟨n, m, p, g0, g1, g2⟩ | ⟨o, ho, hco⟩ | ⟨hx0, cs, ct, cfr, ga, gb, gc, gd, gh, gs, g0, g1, g2, g3⟩ <;> first | (rw [g0] at hc; cases hc) | (rw [noCell ho hco] at hc; cases hc)
  intro n
  induction n with
  | zero =>
    rintro b es ⟨v, h1, h2, h3⟩
    exact ⟨v, h1.kept h hX, h.cell (leafy h1 h2) h2, h.cell (leafy h1 h2) h3⟩
  | succ n ih =>
    rintro b es (⟨v, h1, h2, h3⟩ | ⟨f, last, bl, bh, hf, h1, h2, h3, h4, h5, h6⟩)
    · exact .inl ⟨v, h1.kept h hX, h.cell (leafy h1 h2) h2, h.cell (leafy h1 h2) h3⟩
    · have hx : ¬ X b := by
        intro hx
        rcases hX b hx with ⟨b2, q, fn, f, c, g0, g1, g2⟩ | ⟨fn, f, c, a, l, k, g0, g1⟩ | ⟨n, p, g0, g1⟩ | ⟨n, m, p, g0, g1, g2⟩ | ⟨o, ho, hco⟩ | ⟨hx0, cs, ct, cfr, ga, gb, gc, gd, gh, gs, g0, g1, g2, g3⟩
        · rw [g1] at h1; cases h1
        · rw [g1] at h1; cases h1
        · rw [g1] at h1; cases h1
        · rw [g2] at h2; cases h2
        · rw [noCell ho hco] at h1; cases h1
        · rw [g3] at h3; cases h3
      exact .inr ⟨f, last, bl, bh, hf, h.cell hx h1, h.cell hx h2, h.cell hx h3, h.cell hx h4, ih h5, ih h6⟩
end

theorem Foreign.below {B : Nat} {w w' : World} {x : Nat} (h : Foreign w x) (hb : Below B w w') (hB : w.heap.size ≤ B) : Foreign w' x := by
  have hc : ∀ {b i : Nat} {v : Value}, w.cell? ⟨b, i, none⟩ = some v → w'.cell? ⟨b, i, none⟩ = some v := fun {b i v} h =>
    (hb.cell (p := ⟨b, i, none⟩) (Nat.lt_of_lt_of_le (block_lt_of_cell h) hB)).trans h
  rcases h with ⟨b2, q, fn, f, c, g0, g1, g2⟩ | ⟨fn, f, c, a, l, k, g0, g1⟩ | ⟨n, p, g0, g1⟩ | ⟨n, m, p, g0, g1, g2⟩ | ⟨o, ho, hco⟩ | ⟨hx0, cs, ct, cfr, ga, gb, gc, gd, gh, gs, g0, g1, g2, g3⟩
  · exact .inl ⟨b2, q, fn, f, c, hc g0, hc g1, hc g2⟩
  · exact .inr (.inl ⟨fn, f, c, a, l, k, hc g0, hc g1⟩)
  · exact .inr (.inr (.inl ⟨n, p, hc g0, hc g1⟩))
  · exact .inr (.inr (.inr (.inl ⟨n, m, p, hc g0, hc g1, hc g2⟩)))
  · exact .inr (.inr (.inr (.inr (.inl ⟨o, (hb.block x (Nat.lt_of_lt_of_le (Array.getElem?_eq_some_iff.1 ho).1 hB)).trans ho, hco⟩))))
  · exact .inr (.inr (.inr (.inr (.inr ⟨hx0, cs, ct, cfr, ga, gb, gc, gd, (hb.block x (Nat.lt_of_lt_of_le (Array.getElem?_eq_some_iff.1 gh).1 hB)).trans gh, gs, hc g0, hc g1, hc g2, hc g3⟩))))

/-- From w to w' nothing has turned but blocks of X; blocks may have been laid. -/
structure Chg (X : Nat → Prop) (w w' : World) : Prop where
  os : w'.os = w.os
  tape : w'.tape = w.tape
  output : w'.output = w.output
  size : w.heap.size ≤ w'.heap.size
  block : KeptBut X w w'

theorem Chg.of_below {X : Nat → Prop} {w w' : World} (h : Below w.heap.size w w') : Chg X w w' := ⟨h.os, h.tape, h.output, h.size, fun b hb _ => h.block b hb⟩
theorem Chg.trans {X : Nat → Prop} {a b c : World} (h : Chg X a b) (k : Chg X b c) : Chg X a c :=
  ⟨k.os.trans h.os, k.tape.trans h.tape, k.output.trans h.output, Nat.le_trans h.size k.size, fun i hi hx => (k.block i (Nat.lt_of_lt_of_le hi h.size) hx).trans (h.block i hi hx)⟩
theorem Chg.mono {X Y : Nat → Prop} {a b : World} (h : Chg X a b) (hXY : ∀ x, x < a.heap.size → X x → Y x) : Chg Y a b :=
  ⟨h.os, h.tape, h.output, h.size, fun i hi hy => h.block i hi fun hx => hy (hXY i hi hx)⟩
theorem Chg.below {X : Nat → Prop} {a b : World} {B : Nat} (h : Chg X a b) (hB : B ≤ a.heap.size) (hX : ∀ x, X x → B ≤ x) : Below B a b :=
  ⟨h.os, h.tape, h.output, h.size, fun k hk => h.block k (by omega) fun hx => by have := hX k hx; omega⟩

end Go.Proofs.YtnjalelblbjfiaaGreatDoor

namespace Go.Proofs.YtnjalelblbjfiaaGreatDoor
open Go.RowKit Go.Shelf

attribute [local go_sem] Oper.semAt_some

set_option maxHeartbeats 1000000 in
theorem all_in (F : Fence) (n : Nat) (h29 : F.fn 51) (hro : F.round = none) (m : Nat) (w : World) :
    CallsIn F n Tryz.prog 51 #[.pointer (some ⟨m, 0, none⟩)] w fun e w' => e = .returned (.func (.func 99) #[] #[.pointer (some ⟨w.heap.size, 0, none⟩)]) ∧ w' = w.alloc (.cells #[.pointer (some ⟨m, 0, none⟩)] 97) := by
  refine callsIn_of_wp Tryz.func51 rfl h29 ?_ hro
  simp only [Tryz.ntmps51, List.size_toArray, List.length_cons, List.length_nil, Nat.reduceAdd, Nat.reduceSub, Array.replicate_succ, Array.replicate_zero, List.push_toArray, List.append_toArray, List.nil_append, List.cons_append]
  gi_wp2
  go_ret
  exact ⟨rfl, rfl⟩

theorem all_stops {Pr : Ent → Prop} (F : Fence) (n : Nat) (h49 : F.fn 99) (hro : F.round = none) (hn : 1 ≤ n) (Bm m n₀ : Nat) (sv : Value) (L : List { e : Ent // Pr e }) (hlen : L.length ≤ 200) (w : World) (hBm : Bm < w.heap.size) (hmlt : m < n₀) (hn₀ : n₀ ≤ w.heap.size)
    (hc : w.cell? ⟨Bm, 0, none⟩ = some (.pointer (some ⟨m, 0, none⟩))) (hm : w.cell? ⟨m, 1, none⟩ = some sv) (hL : RankRow n₀ w sv (L.map (·.1))) :
    SeqStopsK F n Tryz.prog 99 #[.pointer (some ⟨Bm, 0, none⟩)] (encE (Pr := Pr)) (Below n₀) (fun ys => ys = L) (fun pre => pre <+: L) L.length w := fun l J Jx W hW hJ _ hY h0 =>
  all1_in F n h49 hro hn l Bm m n₀ sv L hlen J Jx W.heap.size hJ hY W (Nat.le_trans hn₀ hW.size) ((hW.cell (p := ⟨Bm, 0, none⟩) hBm).trans hc) ((hW.cell (p := ⟨m, 1, none⟩) (Nat.lt_of_lt_of_le hmlt hn₀)).trans hm) (hL.below (hW.mono hn₀)) h0

theorem keepsOthers_below {W W' : World} (h : Below W.heap.size W W') : KeepsOthers W W' :=
  ⟨h.size, fun k _ hk _ => (h.block k (Array.getElem?_eq_some_iff.1 hk).1).trans hk⟩

/-- The entries of one tree. -/
def flt (h : Int) (L : List Ent) : List Ent := L.filter fun e => e.2.home == h
def fltS {Pr : Ent → Prop} (h : Int) (L : List { e : Ent // Pr e }) : List Ent := flt h (L.map (·.1))
theorem fltS_hit {Pr : Ent → Prop} {h : Int} {pre : List { e : Ent // Pr e }} {x : { e : Ent // Pr e }} (hx : (x.1.2.home == h) = true) : fltS h (pre ++ [x]) = fltS h pre ++ [x.1] := by simp [fltS, flt, hx]
theorem fltS_miss {Pr : Ent → Prop} {h : Int} {pre : List { e : Ent // Pr e }} {x : { e : Ent // Pr e }} (hx : (x.1.2.home == h) = false) : fltS h (pre ++ [x]) = fltS h pre := by simp [fltS, flt, hx]
theorem fltS_le {Pr : Ent → Prop} (h : Int) (L : List { e : Ent // Pr e }) : (fltS h L).length ≤ L.length := by
  have := List.length_filter_le (fun e : Ent => e.2.home == h) (L.map (·.1))
  simpa [fltS, flt] using this

theorem grow12 (v : Value) (es : List Ent) (w : World) (hes : BunchAt w v es) (hlen : es.length ≤ 200) :
    Calls Tryz.prog 85 #[v, .int .i64 12, .func (.func 86) #[] #[]] w fun e w' => ∃ b, e = .returned (.pointer (some ⟨b, 0, none⟩)) ∧ TreeAt w' 12 b es ∧ Below w.heap.size w w' :=
  grow_any 12 v es w (Nat.le_refl _) hes hlen

theorem regrown {w w3 : World} {t h D b : Nat} {o : Obj} {es : List Ent} {pt : Option Addr} (hFt : Foreign w t) (htlt : t < w.heap.size) (B3 : Below w.heap.size w w3) (hD3 : w.heap.size ≤ D) (hDt : D ≠ t) (hK3 : w3.heap[D]? = some (.deferred (some [])))
    (hT : TreeAt w3 12 b es) (hfz : ∀ j, w3.frozen? ⟨t, j, none⟩ = w.frozen? ⟨t, j, none⟩) (hpt : w3.cell? ⟨t, 2 + h, none⟩ = some (.pointer pt)) :
    TreeAt ((w3.setCell ⟨t, 2 + h, none⟩ (.pointer (some ⟨b, 0, none⟩))).putObj D o) 12 b es ∧ Chg (fun x => x = t) w ((w3.setCell ⟨t, 2 + h, none⟩ (.pointer (some ⟨b, 0, none⟩))).putObj D o) ∧
      (∀ j, ((w3.setCell ⟨t, 2 + h, none⟩ (.pointer (some ⟨b, 0, none⟩))).putObj D o).cell? ⟨t, j, none⟩ = if j = 2 + h then some (.pointer (some ⟨b, 0, none⟩)) else w.cell? ⟨t, j, none⟩) ∧
      ∀ j, ((w3.setCell ⟨t, 2 + h, none⟩ (.pointer (some ⟨b, 0, none⟩))).putObj D o).frozen? ⟨t, j, none⟩ = w.frozen? ⟨t, j, none⟩ := by
  have hg := grownBy_putObj' (w3.setCell ⟨t, 2 + h, none⟩ (.pointer (some ⟨b, 0, none⟩))) D o
  have hsz : (w3.setCell ⟨t, 2 + h, none⟩ (.pointer (some ⟨b, 0, none⟩))).heap.size = w3.heap.size := by simp
  have ht3 : t < w3.heap.size := Nat.lt_of_lt_of_le htlt B3.size
  have hk : ∀ k, k < w3.heap.size → k ≠ t → k ≠ D → ((w3.setCell ⟨t, 2 + h, none⟩ (.pointer (some ⟨b, 0, none⟩))).putObj D o).heap[k]? = w3.heap[k]? := fun k hk h1 h2 =>
    (hg.block k (by omega) (by simpa using h2)).trans (Below.heap_setCell _ _ _ _ (by simpa using h1))
  have hbt := hg.block t (by omega) (by simpa using Ne.symm hDt)
  refine ⟨?_, ⟨hg.os.trans B3.os, hg.tape.trans B3.tape, hg.output.trans B3.output, Nat.le_trans B3.size (by have := hg.size; omega), fun k hk' hx => (hk k (Nat.lt_of_lt_of_le hk' B3.size) hx (by omega)).trans (B3.block k hk')⟩, fun j => ?_, fun j => ?_⟩
  · refine hT.kept (X := fun x => x = t ∨ x = D) (fun k hk' hx => hk k hk' (fun e => hx (.inl e)) (fun e => hx (.inr e))) ?_
    rintro x (rfl | rfl)
    · exact hFt.below B3 (Nat.le_refl _)
    · exact .inr (.inr (.inr (.inr (.inl ⟨_, hK3, rfl⟩))))
  · rw [World.cell?_of_block (w := w3.setCell ⟨t, 2 + h, none⟩ (.pointer (some ⟨b, 0, none⟩))) (a := ⟨t, j, none⟩) hbt]
    by_cases hj : j = 2 + h
    · rw [if_pos hj, hj]; exact set_same hpt
    · rw [if_neg hj, set_other (.inr (Ne.symm hj))]; exact B3.cell (p := ⟨t, j, none⟩) htlt
  · rw [World.frozen?_of_block (w := w3.setCell ⟨t, 2 + h, none⟩ (.pointer (some ⟨b, 0, none⟩))) (a := ⟨t, j, none⟩) hbt]
    rw [← hfz j]; simp

set_option maxRecDepth 100000 in
set_option maxHeartbeats 2000000 in
theorem regrow_any (t b2 : Nat) (h : Nat) (hh : h < 6) (sv : Value) (w : World) (hl : Laid w) (Ls : List { e : Ent // EntAt w e.1 e.2 ∧ e.2.ok = true }) (hlen : Ls.length ≤ 200)
    (ht1 : w.cell? ⟨t, 1, none⟩ = some (.pointer (some ⟨b2, 0, none⟩))) (hb2 : w.cell? ⟨b2, 1, none⟩ = some sv) (hrow : RankRow w.heap.size w sv (Ls.map (·.1)))
    (hth : ∃ p, w.cell? ⟨t, 2 + h, none⟩ = some (.pointer p)) (htf : ∀ j, w.frozen? ⟨t, j, none⟩ = false) (hFt : Foreign w t) :
    Calls Tryz.prog 36 #[.pointer (some ⟨t, 0, none⟩), .int .i64 h] w fun e w' => e = .returned (.tuple #[]) ∧ ∃ b, TreeAt w' 12 b (flt h (Ls.map (·.1))) ∧ Chg (fun x => x = t) w w' ∧ (∀ j, w'.cell? ⟨t, j, none⟩ = if j = 2 + h then some (.pointer (some ⟨b, 0, none⟩)) else w.cell? ⟨t, j, none⟩) ∧ ∀ j, w'.frozen? ⟨t, j, none⟩ = w.frozen? ⟨t, j, none⟩ := by
  have htlt := block_lt_of_cell ht1
  have hb2lt := block_lt_of_cell hb2
  obtain ⟨i0, hi, hz0, hz1, hz2⟩ := info_parts infoPE
  refine (callsIn_wide (n := 5)).1 ?_
  have hro : Fence.wide.round = none := rfl
  refine callsIn_of_wp_marks Tryz.func36 rfl trivial ?_ hro
  simp only [Tryz.ntmps36, List.size_toArray, List.length_cons, List.length_nil, Nat.reduceAdd, Nat.reduceSub, Array.replicate_succ, Array.replicate_zero, List.push_toArray, List.append_toArray, List.nil_append, List.cons_append]
  gi_wp2_with (refine ⟨trivial, ?_⟩; gi_at_call 51; refine (all_in Fence.wide 4 trivial hro b2 _).mono ?_; rintro e w' ⟨rfl, rfl⟩)
  have bH := ((Boxed.new w 3 (.int .i64 h)).alloc (.cells #[.slice none 0 0] 118)).alloc (.cells #[.pointer (some ⟨b2, 0, none⟩)] 97)
  have bO := (Boxed.new (w.alloc (.cells #[.int .i64 h] 3)) 118 (.slice none 0 0)).alloc (.cells #[.pointer (some ⟨b2, 0, none⟩)] 97)
  have bN := Boxed.new ((w.alloc (.cells #[.int .i64 h] 3)).alloc (.cells #[.slice none 0 0] 118)) 97 (.pointer (some ⟨b2, 0, none⟩))
  simp only [World.size_alloc] at bH bO bN
  have hB0 : Below w.heap.size w (((w.alloc (.cells #[.int .i64 h] 3)).alloc (.cells #[.slice none 0 0] 118)).alloc (.cells #[.pointer (some ⟨b2, 0, none⟩)] 97)) := (by repeat (first | exact Below.refl _ _ | assumption | refine Below.drewN ?_ | refine Below.drew ?_ | refine Below.setCell ?_ (by first | exact Nat.le_refl _ | omega | (simp; done) | (simp; omega)) _ | refine Below.alloc ?_ (by first | exact Nat.le_refl _ | omega | (simp; done) | (simp; omega)) _))
  have hs0 : (((w.alloc (.cells #[.int .i64 h] 3)).alloc (.cells #[.slice none 0 0] 118)).alloc (.cells #[.pointer (some ⟨b2, 0, none⟩)] 97)).heap.size = w.heap.size + 3 := by simp
  have hcb2 := (hB0.cell (p := ⟨b2, 1, none⟩) hb2lt).trans hb2
  refine wpIn_rangeFunc_ownG hro (by omega) (gf := 99) (lb := #[.pointer (some ⟨w.heap.size + 1 + 1, 0, none⟩)]) rfl trivial (enters_of Tryz.func99 (by kernel_rfl) rfl)
    (all_stops Fence.wide 4 trivial hro (by omega) (w.heap.size + 1 + 1) b2 w.heap.size sv Ls hlen _ (by omega) hb2lt (by omega) bN.cell hcb2 (hrow.below hB0)) belowK_t (belowK_b (by omega)) (Below.refl _ _) (fun _ => rfl)
    (fun pre W => ((∃ v, Boxed W (w.heap.size + 1) 118 v ∧ W.ownsRow w.heap.size 96 1 v (fltS h pre).length ((fltS h pre).map ptrE) ∧ True) ∧ Boxed W w.heap.size 3 (.int .i64 h)) ∧ Below w.heap.size w W)
    (fun _ _ _ => False)
    (OwnFrom.and (OwnFrom.and (Own.from (holdsRow_own w.heap.size (w.heap.size + 1) 118 96 1 (fun pre => (fltS h pre).length) (fun pre => (fltS h pre).map ptrE) (fun _ _ => True)) _) (Own.from (boxed_own w.heap.size 3 (fun _ => .int .i64 h)) _)) (ownFrom_below (Nat.le_refl _) (by omega)))
    (fun _ _ _ _ _ hs _ _ => hs)
    ⟨⟨⟨_, bO, World.ownsRow_nil _ _ _ _, trivial⟩, bH⟩, hB0⟩
    (fun x => { tmps := #[.pointer (some ⟨t, 0, none⟩), .int .i64 h, undef, .pointer (some ⟨w.heap.size, 0, none⟩), .pointer (some ⟨w.heap.size + 1, 0, none⟩), undef, .pointer (some ⟨x.1.1, 0, none⟩), .pointer (some ⟨t, 0, none⟩), .pointer (some ⟨t, 0, none⟩), .pointer (some ⟨t, 1, none⟩), .pointer (some ⟨b2, 0, none⟩), .func (.func 99) #[] #[.pointer (some ⟨w.heap.size + 1 + 1, 0, none⟩)], .agg #[.int .i64 x.1.2.pr, .int .i64 x.1.2.id], .pointer (some ⟨x.1.1, 0, none⟩), undef, undef, undef, undef, undef, undef, undef, undef, undef, undef, undef, undef, undef, undef, undef], defers := [] }) ?assign ?body ?done ?stop
  case assign =>
    intro l x W K hK
    simp only [encE]
    gi_wp2
    exact hK
  case body =>
    rintro l pre x W ⟨⟨⟨v, hv, hrow', _⟩, hH⟩, hB⟩ hlt
    have hmx : Tryz.prog.follows .mixedOrders = true := by kernel_rfl
    have hlW : Laid W := hl.below hB hl.pos
    have heW : EntAt W x.1.1 x.1.2 := x.2.1.below hB x.2.1.lt
    have hc := hH.cell
    have hltH := hH.lt
    have HHome := hide fun (W1 : World) (hb : Below W.heap.size W W1) => home_any x.1.1 x.1.2 W1 (hlW.below hb hlW.pos) (heW.below hb heW.lt) x.2.2
    have HV := hide hv
    have HR := hide hrow'
    have HH2 := hide hH
    have HB2 := hide hB
    clear hv hrow' hH hB hlW heW
    have hfl := fltS_le h pre
    cases hq : (x.1.2.home == (h : Int))
    · gi_wp2
      gi_region_with_o (refine ⟨trivial, ?_⟩; gi_at_call 44; refine (CallsIn.inRound l (callsIn_wide.2 (HHome.out _ ?_))).mono ?_; (exact (Below.refl _ _).drew); rintro e w1 ⟨rfl, hb1⟩; have hc1 := cell_later hb1 hc)
      all_goals
        replace hb1 : Below W.heap.size W w1 := ((Below.refl W.heap.size W).drew).trans hb1
        have hv1 : Boxed w1 (w.heap.size + 1) 118 v := (hb1.block _ HV.out.lt).trans HV.out
        have hH1 : Boxed w1 w.heap.size 3 (.int .i64 h) := (hb1.block _ HH2.out.lt).trans HH2.out
        have hR1 := ownsRow_below HR.out hb1 (Nat.le_refl _)
        have hB1 : Below w.heap.size w w1 := HB2.out.trans (hb1.mono HB2.out.size)
        have hk1 := keepsOthers_below hb1
        have hcv := hv1.cell
        have hsz1 := hB1.size
        gi_wp2
        exact ⟨hk1.from _, hb1.mono HB2.out.size, ⟨⟨v, hv1, by rw [fltS_miss hq]; exact hR1, trivial⟩, hH1⟩, hB1⟩
    · gi_wp2
      gi_region_with_o (refine ⟨trivial, ?_⟩; gi_at_call 44; refine (CallsIn.inRound l (callsIn_wide.2 (HHome.out _ ?_))).mono ?_; (exact (Below.refl _ _).drew); rintro e w1 ⟨rfl, hb1⟩; have hc1 := cell_later hb1 hc)
      all_goals
        replace hb1 : Below W.heap.size W w1 := ((Below.refl W.heap.size W).drew).trans hb1
        have hv1 : Boxed w1 (w.heap.size + 1) 118 v := (hb1.block _ HV.out.lt).trans HV.out
        have hH1 : Boxed w1 w.heap.size 3 (.int .i64 h) := (hb1.block _ HH2.out.lt).trans HH2.out
        have hR1 := ownsRow_below HR.out hb1 (Nat.le_refl _)
        have hB1 : Below w.heap.size w w1 := HB2.out.trans (hb1.mono HB2.out.size)
        have hk1 := keepsOthers_below hb1
        have hcv := hv1.cell
        have hsz1 := hB1.size
        have HR1 := hide hR1
        have HB1 := hide hB1
        have HK1 := hide hk1
        have HH1 := hide hH1
        have HQ := hide hq
        have HBB := hide hb1
        clear hR1 hB1 hk1 hH1 hb1
        gi_wp2_with (gi_at_builtin; refine wpListIn_append_own _ rfl _ _ 118 rfl w.heap.size 96 i0 (.pointer none) 1 8 underBunch hi hz0 hz1 hz2 rfl (by decide) _ _ _ rfl (HR1.out.alloc _) ⟨w1.heap.size, 0, none⟩ 1 1 [ptrE x.1] rfl rfl (cell_one_new _ _ _) (by simp [ptrE, Value.oneCell']) (by unfold maxLen; omega) (by omega) (by simp; omega) ?_; intro v' w2 hown' hgrow _; obtain ⟨g', cap', rfl⟩ := ownsRow_succ hown'; obtain ⟨hv2, hv3, hr3, hk3, hb3⟩ := hv1.appended (by decide) HR1.out HB1.out.size (by omega) hown' hgrow; have hc2 := hv2.cell; have hf2 := hv2.frozen)
        have hH3 : Boxed (w2.setCell ⟨w.heap.size + 1, 0, none⟩ (.slice (some ⟨g', 0, none⟩) ((fltS h pre).length + 1) cap')) w.heap.size 3 (.int .i64 h) :=
          ((HH1.out.alloc _).kept hgrow (HH1.out.not_row (by decide) HR1.out)).other (by omega) _
        exact ⟨(HK1.out.trans hk3).from _, (HBB.out.mono HB2.out.size).trans hb3, ⟨⟨_, hv3, by rw [fltS_hit HQ.out]; simpa using hr3, trivial⟩, hH3⟩, HB1.out.trans hb3⟩
  case done =>
    rintro D ys W hD rfl ⟨⟨⟨v, hv, hrow', _⟩, hH⟩, hB⟩ hK
    have hcv := hv.cell
    have hch := hH.cell
    have hbun := hide (bunch_of_row hrow' fun e he => by
      obtain ⟨x, _, rfl⟩ := List.mem_map.1 (List.mem_filter.1 he).1
      exact x.2.1.below hB x.2.1.lt)
    have hfl := Nat.le_trans (fltS_le h ys) hlen
    have hDt : D ≠ t := by omega
    have htW : ∃ p, W.cell? ⟨t, 2 + h, none⟩ = some (.pointer p) := hth.imp fun p hp => (hB.cell (p := ⟨t, 2 + h, none⟩) htlt).trans hp
    have htfW : W.frozen? ⟨t, 2 + h, none⟩ = false := (hB.frozen (p := ⟨t, 2 + h, none⟩) htlt).trans (htf _)
    have htWlt : t < W.heap.size := Nat.lt_of_lt_of_le htlt hB.size
    have HK := hide hK
    have hszW := hB.size
    have hv1 := hv.lt
    obtain ⟨pt, hpt⟩ := htW
    have hhi : (h : Int) < 6 := by omega
    have hva : ∃ a l c, v = .slice a l c := by
      obtain ⟨a, c, rfl, _, _⟩ := hbun.out
      exact ⟨_, _, _, rfl⟩
    obtain ⟨va, vl, vc, rfl⟩ := hva
    have HV := hide hv
    have HH := hide hH
    have HBW := hide hB
    have HDD := hide hD
    clear hv hH hB hK hrow' hD bH bO bN hB0 hs0 hcb2 ht1 hb2 hth
    have hn1 : ¬ t = w.heap.size := by omega
    have hn2 : ¬ t = w.heap.size + 1 := by omega
    have hn3 : ¬ w.heap.size = t := by omega
    have hn4 : ¬ w.heap.size + 1 = t := by omega
    gi_wp2
    refine wpIn_wide.2 ?_
    go_region_held3 (fun w' => w'.cell? ⟨w.heap.size, 0, none⟩ = some (.int .i64 h) ∧ w'.cell? ⟨w.heap.size + 1, 0, none⟩ = some (.slice va vl vc)) (go_keep)
      (first | (go_at_call 85; refine (grow12 _ (fltS h ys) _ ?_ hfl).mono ?_; (exact hbun.out); rintro e w3 ⟨b, rfl, hT3, hb3⟩; have k0 := cell_later hb3 hch; have k1 := cell_later hb3 hcv; have k2 := cell_later hb3 hpt; have k3 : w3.frozen? ⟨t, 2 + h, none⟩ = false := (hb3.frozen (p := ⟨t, 2 + h, none⟩) htWlt).trans htfW; have HT3 := hide hT3; have HB3 := hide hb3; clear hT3 hb3))
    have BW3 : Below W.heap.size W w3 := ((Below.refl W.heap.size W).drew).trans HB3.out
    have B3 : Below w.heap.size w w3 := HBW.out.trans (BW3.mono hszW)
    have hD3 : w.heap.size ≤ D := by have := HDD.out; simp at this; omega
    have hK3 : w3.heap[D]? = some (.deferred (some [])) := (BW3.block D (Array.getElem?_eq_some_iff.1 HK.out).1).trans HK.out
    have hK4 : (w3.setCell ⟨t, 2 + h, none⟩ (.pointer (some ⟨b, 0, none⟩))).heap[D]? = some (.deferred (some [])) := (Below.heap_setCell _ _ _ _ (by simpa using hDt)).trans hK3
    refine ⟨by simp, .inl ⟨_, _, rfl, run_takeDeferred hK4, ?_⟩⟩
    refine ⟨_, results_none rfl _ _ _, rfl, b, ?_⟩
    exact regrown hFt htlt B3 hD3 hDt hK3 HT3.out (fun j => by rw [← B3.frozen (p := ⟨t, j, none⟩) htlt]) k2
  case stop =>
    rintro D c pre W _ _ h _
    exact h.elim

end Go.Proofs.YtnjalelblbjfiaaGreatDoor

namespace Go.Proofs.YtnjalelblbjfiaaGreatDoor
open Go.RowKit
open Go.Sort (grow)

/-- The cells of the two maps' arrays. -/
def rowI (L : List Ent) : List Value := L.flatMap fun e => [.int .i64 e.2.id, .pointer (some ⟨e.1, 0, none⟩)]
def rowR (L : List Ent) : List Value := L.flatMap fun e => [.int .i64 e.2.pr, .int .i64 e.2.id, .pointer (some ⟨e.1, 0, none⟩)]

/-- A map's block: the order, the entries. -/
def MapI (w : World) (m : Nat) (sv : Value) (L : List Ent) : Prop :=
  w.cell? ⟨m, 0, none⟩ = some (.func (.func 33) #[] #[]) ∧ w.cell? ⟨m, 1, none⟩ = some sv ∧ w.ownsRow 0 184 2 sv L.length (rowI L) ∧ (∀ j, w.frozen? ⟨m, j, none⟩ = false) ∧ L.length ≤ 200
def MapR (w : World) (m : Nat) (sv : Value) (L : List Ent) : Prop :=
  w.cell? ⟨m, 0, none⟩ = some (.func (.func 35) #[] #[]) ∧ w.cell? ⟨m, 1, none⟩ = some sv ∧ w.ownsRow 0 189 3 sv L.length (rowR L) ∧ (∀ j, w.frozen? ⟨m, j, none⟩ = false) ∧ L.length ≤ 200

theorem cmpI_lt {a b : Int} : cmpI a b < 0 ↔ a < b := by unfold cmpI; split <;> (try split) <;> omega
theorem cmpI_zero {a b : Int} : cmpI a b = 0 ↔ a = b := by unfold cmpI; split <;> (try split) <;> omega

/-- Sorted by rising IDs. -/
abbrev SortedI (L : List Ent) : Prop := L.Pairwise fun a b => a.2.id < b.2.id

end Go.Proofs.YtnjalelblbjfiaaGreatDoor

namespace Go.Proofs.YtnjalelblbjfiaaGreatDoor
open Go.RowKit
open Go.Sort (grow)

theorem cut_exists (n : Nat) (c : Nat → Int) (hmono : ∀ i j, i ≤ j → j < n → c j < 0 → c i < 0) : ∃ i, i ≤ n ∧ (∀ j, j < i → c j < 0) ∧ ∀ j, i ≤ j → j < n → 0 ≤ c j := by
  induction n with
  | zero => exact ⟨0, Nat.le_refl _, fun j h => by omega, fun j _ h => by omega⟩
  | succ n ih =>
    obtain ⟨i, h1, h2, h3⟩ := ih fun i j hij hj h => hmono i j hij (by omega) h
    by_cases hn : c n < 0
    · exact ⟨n + 1, Nat.le_refl _, fun j hj => hmono j n (by omega) (by omega) hn, fun j h h' => by omega⟩
    · refine ⟨i, by omega, h2, fun j hj hj' => ?_⟩
      by_cases hjn : j = n
      · rw [hjn]; omega
      · exact h3 j hj (by omega)
theorem cut_unique {n : Nat} {c : Nat → Int} {i i' : Nat} (h1 : i ≤ n) (h2 : ∀ j, j < i → c j < 0) (h3 : ∀ j, i ≤ j → j < n → 0 ≤ c j) (k1 : i' ≤ n) (k2 : ∀ j, j < i' → c j < 0) (k3 : ∀ j, i' ≤ j → j < n → 0 ≤ c j) : i = i' := by
  rcases Nat.lt_trichotomy i i' with h | h | h
  · have := h3 i (Nat.le_refl _) (by omega); have := k2 i h; omega
  · exact h
  · have := k3 i' (Nat.le_refl _) (by omega); have := h2 i' h; omega

attribute [local go_sem] cell?_regrown

set_option maxRecDepth 100000 in
set_option maxHeartbeats 400000 in
theorem newI_any (w : World) : Calls Tryz.prog 32 #[.func (.func 33) #[] #[]] w fun e w' => e = .returned (.pointer (some ⟨w.heap.size, 0, none⟩)) ∧ w' = w.alloc (.cells #[.func (.func 33) #[] #[], .slice none 0 0] 169) := by
  go_enter Tryz.func32, Tryz.ntmps32
  go_wp2
  go_ret
  exact ⟨rfl, rfl⟩

set_option maxRecDepth 100000 in
set_option maxHeartbeats 400000 in
theorem newR_any (w : World) : Calls Tryz.prog 34 #[.func (.func 35) #[] #[]] w fun e w' => e = .returned (.pointer (some ⟨w.heap.size, 0, none⟩)) ∧ w' = w.alloc (.cells #[.func (.func 35) #[] #[], .slice none 0 0] 172) := by
  go_enter Tryz.func34, Tryz.ntmps34
  go_wp2
  go_ret
  exact ⟨rfl, rfl⟩

end Go.Proofs.YtnjalelblbjfiaaGreatDoor
