import Derived.Test.YtnjalelblbjfiaaGreatDoorP11
import Derived.Test.YtnjalelblbjfiaaGreatDoorP12
import Derived.Test.YtnjalelblbjfiaaGreatDoorP13
import Derived.ChangeKeysEq
import Derived.BigQuiet
namespace Go.Proofs.YtnjalelblbjfiaaGreatDoor
open Go.RowKit

/-- A block that no table's rule or tree lies in: weaker than Foreign (a list or a struct that begins with one may do). -/
structure Far (w : World) (x : Nat) : Prop where
  zero : x ≠ 0
  ent : ∀ r, ¬ EntAt w x r
  leaf : ∀ a n c, w.cell? ⟨x, 0, none⟩ = some (.slice a n c) → w.cell? ⟨x, 3, none⟩ ≠ some (.pointer none)
  node : ∀ (f l : Int) (bl : Nat), w.cell? ⟨x, 1, none⟩ = some (.int .i64 f) → w.cell? ⟨x, 2, none⟩ = some (.int .i64 l) → w.cell? ⟨x, 3, none⟩ ≠ some (.pointer (some ⟨bl, 0, none⟩))
  bunch : ∀ e r, w.cell? ⟨x, 0, none⟩ = some (.pointer (some ⟨e, 0, none⟩)) → ¬ EntAt w e r

section
variable {X : Nat → Prop} {w w' : World}

theorem EntAt.far (h : KeptBut X w w') (hX : ∀ x, X x → Far w x) {b : Nat} {r : Rl} (he : EntAt w b r) : EntAt w' b r :=
  he.same (h b he.lt fun hx => (hX b hx).ent r he)
theorem BunchAt.far (h : KeptBut X w w') (hX : ∀ x, X x → Far w x) {v : Value} {es : List Ent} (hb : BunchAt w v es) : BunchAt w' v es := by
  obtain ⟨a, cap, hv, hc, he⟩ := hb
  refine ⟨a, cap, hv, fun i hi => ?_, fun e hm => (he e hm).far h hX⟩
  obtain ⟨b, off, ⟨ha, h0⟩, hcell⟩ := hc i hi
  refine ⟨b, off, ⟨ha, h0⟩, h.cell (fun hx => ?_) hcell⟩
  obtain ⟨b', off', ⟨ha', h0'⟩, hcell'⟩ := hc 0 (by omega)
  rw [ha] at ha'
  cases ha'
  subst h0
  rw [Nat.zero_add] at hcell'
  exact (hX b hx).bunch _ _ hcell' (he es[0] (List.getElem_mem (by omega)))
theorem TreeAt.far (h : KeptBut X w w') (hX : ∀ x, X x → Far w x) : ∀ {n b : Nat} {es : List Ent}, TreeAt w n b es → TreeAt w' n b es := by
  have leafy : ∀ {b : Nat} {v : Value} {es : List Ent}, BunchAt w v es → w.cell? ⟨b, 0, none⟩ = some v → w.cell? ⟨b, 3, none⟩ = some (.pointer none) → ¬ X b := by
    intro b v es hb hc h3 hx
    obtain ⟨a, cap, hv, _, _⟩ := hb
    rw [hv] at hc
    exact (hX b hx).leaf _ _ _ hc h3
  intro n
  induction n with
  | zero =>
    rintro b es ⟨v, h1, h2, h3⟩
    exact ⟨v, h1.far h hX, h.cell (leafy h1 h2 h3) h2, h.cell (leafy h1 h2 h3) h3⟩
  | succ n ih =>
    rintro b es (⟨v, h1, h2, h3⟩ | ⟨f, last, bl, bh, hf, h1, h2, h3, h4, h5, h6⟩)
    · exact .inl ⟨v, h1.far h hX, h.cell (leafy h1 h2 h3) h2, h.cell (leafy h1 h2 h3) h3⟩
    · have hx : ¬ X b := fun hx => (hX b hx).node _ _ _ h1 h2 h3
      exact .inr ⟨f, last, bl, bh, hf, h.cell hx h1, h.cell hx h2, h.cell hx h3, h.cell hx h4, ih h5, ih h6⟩
theorem Laid.far (hl : Laid w) (h : KeptBut X w w') (hX : ∀ x, X x → Far w x) : Laid w' := by
  have e : ∀ i, w'.cell? ⟨0, i, none⟩ = w.cell? ⟨0, i, none⟩ := fun i => World.cell?_of_block (a := ⟨0, i, none⟩) (h 0 hl.pos fun hx => (hX 0 hx).zero rfl)
  simpa only [Laid, e] using hl
/-- A table is as it was when nothing of it turned. -/
theorem TabIs.far {t : Nat} {F : Nat → Prop} {L : List Ent} (h : TabIs w t F L) (hb : Chg X w w') (hX : ∀ x, X x → Far w x) (hM : ∀ x, F x → ¬ X x) : TabIs w' t F L := by
  obtain ⟨b1, b2, sv1, sv2, LI, h, hm, hl, rfl⟩ := h
  refine ⟨b1, b2, sv1, sv2, LI, ?_, hm, hl, rfl⟩
  have ht := hM t (.inl rfl)
  refine ⟨h.laid.far hb.block hX, hb.block.cell ht h.c0, hb.block.cell ht h.c1, fun j => (World.frozen?_of_block (a := ⟨t, j, none⟩) (hb.block t (block_lt_of_cell h.c0) ht)).trans (h.tf j), h.mI.chg h.hI hb (hM b1 (.inr (.inl (.inl rfl)))) (fun g hg => hM g (.inr (.inl (.inr hg)))), h.sI, h.hI.chg hb (fun g hg => hM g (.inr (.inl (.inr hg)))),
    h.mR.chg h.hR hb (hM b2 (.inr (.inr (.inl rfl)))) (fun g hg => hM g (.inr (.inr (.inr hg)))), h.sR, h.hR.chg hb (fun g hg => hM g (.inr (.inr (.inr hg)))), fun e he => ⟨(h.ent e he).1.far hb.block hX, (h.ent e he).2⟩, fun k hk => ?_⟩
  obtain ⟨tb, c, T⟩ := h.tree k hk
  exact ⟨tb, hb.block.cell ht c, T.far hb.block hX⟩

end
section
variable {w : World} {x : Nat}
/-- Structs and rows of the walk: what lies in none of a table's trees. -/
theorem far_world {a b : Option Addr} {n m c d : Nat} (h0 : w.cell? ⟨x, 0, none⟩ = some (.slice a n c)) (h1 : w.cell? ⟨x, 1, none⟩ = some (.slice b m d)) (h3 : ∃ a n c, w.cell? ⟨x, 3, none⟩ = some (.slice a n c)) (hl : Laid w) : Far w x := by
  obtain ⟨a3, n3, c3, h3⟩ := h3
  refine ⟨?_, fun r he => ?_, fun a n c _ h => ?_, fun f l bl h _ _ => ?_, fun e r h => ?_⟩
  · rintro rfl
    have := hl.1; rw [h0] at this; cases this
  · have := he.c0; rw [h0] at this; cases this
  · rw [h3] at h; cases h
  · rw [h1] at h; cases h
  · rw [h0] at h; cases h
theorem far_ptr {b : Nat} {p : Value} (h0 : w.cell? ⟨x, 0, none⟩ = some (.pointer (some ⟨b, 0, none⟩))) (hb : w.cell? ⟨b, 0, none⟩ = some p) (hp : ∀ n, p ≠ .int .i64 n) (h1 : ∀ f, w.cell? ⟨x, 1, none⟩ ≠ some (.int .i64 f)) (hl : Laid w) : Far w x := by
  refine ⟨?_, fun r he => ?_, fun a n c h => ?_, fun f l bl h _ _ => absurd h (h1 f), fun e r h he => ?_⟩
  · rintro rfl
    have := hl.1; rw [h0] at this; cases this
  · have := he.c0; rw [h0] at this; cases this
  · rw [h0] at h; cases h
  · rw [h0] at h
    cases h
    have := he.c0
    rw [hb] at this
    exact hp _ (Option.some.inj this)
theorem far_kept {n : Int} {a : Option Addr} {m c : Nat} (h0 : w.cell? ⟨x, 0, none⟩ = some (.int .i64 n)) (h1 : w.cell? ⟨x, 1, none⟩ = some (.slice a m c)) (hl : Laid w) : Far w x := by
  refine ⟨?_, fun r he => ?_, fun a n c h => ?_, fun f l bl h _ _ => ?_, fun e r h => ?_⟩
  · rintro rfl
    have := hl.2.1; rw [h1] at this; cases this
  · have := he.c1; rw [h1] at this; cases this
  · rw [h0] at h; cases h
  · rw [h1] at h; cases h
  · rw [h0] at h; cases h
end
end Go.Proofs.YtnjalelblbjfiaaGreatDoor

namespace Go.Proofs.YtnjalelblbjfiaaGreatDoor
open Go.RowKit

/-- A table, and the document's. -/
structure TabD where
  p : Nat
  t : Nat
  y : Nat
  F : Nat → Prop
  L : List Ent
  v : Value
  rs : List Rl
/-- Whose a block is: 1 the walk's own struct, 2 and 3 its rows, 4 nobody's who would change it, 3 i + 5 table i's, 3 i + 6 the document's. -/
structure TabD.Ok (w : World) (col : Nat → Nat) (i : Nat) (d : TabD) : Prop where
  c0 : w.cell? ⟨d.p, 0, none⟩ = some (.pointer (some ⟨d.t, 0, none⟩))
  c1 : w.cell? ⟨d.p, 1, none⟩ = some (.pointer (some ⟨d.y, 0, none⟩))
  cp : col d.p = 4
  tab : TabIs w d.t d.F d.L
  cF : ∀ x, d.F x → col x = 3 * i + 5
  ref : RefAt 1 w d.y 0 d.v d.rs
  one : w.cell? ⟨d.y, 1, none⟩ = none ∧ w.cell? ⟨d.y, 3, none⟩ = none
  cy : col d.y = 3 * i + 6
  cv : ∀ x, d.v.ownBlock = some x → col x = 3 * i + 6
section
variable {w w' : World} {col col' : Nat → Nat} {i : Nat} {d : TabD} {X : Nat → Prop}
theorem TabD.Ok.keep (h : d.Ok w col i) (hc : Chg X w w') (hX : ∀ x, X x → Far w x) (hn : ∀ x, X x → x < w.heap.size → col x ≠ 4 ∧ col x ≠ 3 * i + 5 ∧ col x ≠ 3 * i + 6) (hcol : ∀ x, x < w.heap.size → col x ≠ 0 → col' x = col x) : d.Ok w' col' i := by
  have hpl : d.p < w.heap.size := block_lt_of_cell h.c0
  have hyl : d.y < w.heap.size := block_lt_of_cell h.ref.1
  have hp : ¬ X d.p := fun hx => (hn _ hx hpl).1 h.cp
  have hy : ¬ X d.y := fun hx => (hn _ hx hyl).2.2 h.cy
  have hvl : ∀ x, d.v.ownBlock = some x → x < w.heap.size := fun x hx => h.ref.2.2.1.lt hx
  have hby := hc.block d.y hyl hy
  refine ⟨hc.block.cell hp h.c0, hc.block.cell hp h.c1, (hcol _ hpl (by rw [h.cp]; omega)).trans h.cp, h.tab.far hc hX fun x hf hx => (hn x hx (h.tab.lt hf)).2.1 (h.cF x hf), fun x hx => (hcol _ (h.tab.lt hx) (by rw [h.cF x hx]; omega)).trans (h.cF x hx), ⟨hc.block.cell hy h.ref.1, (OnlyAt.of_block hby 0).2.trans h.ref.2.1, h.ref.2.2.1.same fun x hx => hc.block x (hvl x hx) fun hx' => (hn _ hx' (hvl x hx)).2.2 (h.cv x hx), h.ref.2.2.2⟩, ⟨(OnlyAt.of_block hby 1).1.trans h.one.1, (OnlyAt.of_block hby 3).1.trans h.one.2⟩, (hcol _ hyl (by rw [h.cy]; omega)).trans h.cy, fun x hx => (hcol _ (hvl x hx) (by rw [h.cv x hx]; omega)).trans (h.cv x hx)⟩
end

/-- A list that is the caller's, full of its mark. -/
structure KeptD where
  n : Nat
  vr : Value
  vo : Value
  vm : Value
  vi : Value
def KeptD.cells (k : KeptD) : List Value := [.int .i64 k.n, k.vr, k.vo, k.vm, k.vi]
def rowK (Ks : List KeptD) : List Value := Ks.flatMap KeptD.cells
/-- The marks. -/
def markRl (n : Nat) : Rl := ⟨-(n : Int), 0, 0, 0, 0, 0, 0, 0, 0, 0, 0, 0, 0, 0, 0, 0, 0, 0, 0⟩
def markO (n : Nat) : List Value := [.int .i64 (-(n : Int)), .string ⟨#[]⟩]
def markM (n : Nat) : List Value := [.int .i64 0, .string ⟨#[]⟩, .int .i64 (-(n : Int)), .int .i64 0]
def markI (n : Nat) : List Value := [.int .i64 (-(n : Int))]
def Full (w : World) (col : Nat → Nat) (s : Nat) (v : Value) (cs : List Value) : Prop := ∃ a len cap, v = .slice a len cap ∧ len ≤ 1000000000 ∧ ∀ k, k < len → ∃ g, a = some ⟨g, 0, none⟩ ∧ col g = 4 ∧ g < w.heap.size ∧ w.rangeAt g (k * s) cs
structure KeptD.Ok (w : World) (col : Nat → Nat) (k : KeptD) : Prop where
  le : k.n ≤ 1000000000
  r : Full w col 19 k.vr (markRl k.n).cells.toList
  o : Full w col 2 k.vo (markO k.n)
  m : Full w col 4 k.vm (markM k.n)
  i : Full w col 1 k.vi (markI k.n)
section
variable {w w' : World} {col col' : Nat → Nat} {X : Nat → Prop}
theorem Full.nil (s : Nat) (cs : List Value) : Full w col s (.slice none 0 0) cs := ⟨none, 0, 0, rfl, by omega, fun k hk => absurd hk (Nat.not_lt_zero k)⟩
theorem Full.keep {s : Nat} {v : Value} {cs : List Value} (h : Full w col s v cs) (hc : Chg X w w') (hn : ∀ x, X x → x < w.heap.size → col x ≠ 4) (hcol : ∀ x, x < w.heap.size → col x ≠ 0 → col' x = col x) : Full w' col' s v cs := by
  obtain ⟨a, len, cap, e, hl, h⟩ := h
  refine ⟨a, len, cap, e, hl, fun k hk => ?_⟩
  obtain ⟨g, ha, h4, hg, hr⟩ := h k hk
  exact ⟨g, ha, (hcol g hg (by rw [h4]; omega)).trans h4, Nat.lt_of_lt_of_le hg hc.size, fun j u hu => hc.block.cell (fun hx => hn g hx hg h4) (hr j u hu)⟩
theorem KeptD.Ok.keep {k : KeptD} (h : k.Ok w col) (hc : Chg X w w') (hn : ∀ x, X x → x < w.heap.size → col x ≠ 4) (hcol : ∀ x, x < w.heap.size → col x ≠ 0 → col' x = col x) : k.Ok w' col' :=
  ⟨h.le, h.r.keep hc hn hcol, h.o.keep hc hn hcol, h.m.keep hc hn hcol, h.i.keep hc hn hcol⟩
end

/-- A row that the walk has made itself. -/
def RowIs (w : World) (t : TypeId) (s : Nat) (v : Value) (n : Nat) (xs : List Value) : Prop := w.ownsRow 1 t s v n xs ∧ (n = 0 → v = .slice none 0 0)
theorem RowIs.lt {w : World} {t : TypeId} {s n : Nat} {v : Value} {xs : List Value} (h : RowIs w t s v n xs) {x : Nat} (hx : v.ownBlock = some x) : x < w.heap.size := (h.1.lt x hx).2
theorem RowIs.keep {w w' : World} {t : TypeId} {s n : Nat} {v : Value} {xs : List Value} (h : RowIs w t s v n xs) (hk : ∀ x, v.ownBlock = some x → w'.heap[x]? = w.heap[x]?) : RowIs w' t s v n xs := by
  refine ⟨⟨h.1.1, ?_⟩, h.2⟩
  rcases h.1.2 with h' | ⟨g, cap, cur, e, hb, hg, r⟩
  · exact .inl h'
  · exact .inr ⟨g, cap, cur, e, hb, (hk g (by rw [e]; rfl)).trans hg, r⟩

/-- All that the walk has made. -/
structure LW (w : World) (wb : Nat) (tv sv kv : Value) (n : Nat) (Ts : List TabD) (Ks : List KeptD) (col : Nat → Nat) : Prop where
  laid : Laid w
  c0 : w.cell? ⟨wb, 0, none⟩ = some tv
  c1 : w.cell? ⟨wb, 1, none⟩ = some sv
  c2 : w.cell? ⟨wb, 2, none⟩ = some (.int .i64 n)
  c3 : w.cell? ⟨wb, 3, none⟩ = some kv
  sS : ∃ a m c, sv = .slice a m c
  frz : ∀ j, w.frozen? ⟨wb, j, none⟩ = false
  rT : RowIs w 44 1 tv Ts.length (Ts.map fun d => .pointer (some ⟨d.p, 0, none⟩))
  rK : RowIs w 78 5 kv Ks.length (rowK Ks)
  cw : col wb = 1
  cT : ∀ x, tv.ownBlock = some x → col x = 2
  pT : ∀ x j u, tv.ownBlock = some x → w.cell? ⟨x, j, none⟩ = some u → ∃ q, u = .pointer q
  cK : ∀ x, kv.ownBlock = some x → col x = 3
  tab : ∀ i (hi : i < Ts.length), (Ts[i]).Ok w col i
  kept : ∀ k ∈ Ks, k.Ok w col
section
variable {w w' : World} {wb n : Nat} {tv sv kv : Value} {Ts : List TabD} {Ks : List KeptD} {col col' : Nat → Nat} {X : Nat → Prop}
/-- All but the tables is as it was. -/
theorem LW.keep (h : LW w wb tv sv kv n Ts Ks col) (hc : Chg X w w') (hX : ∀ x, X x → Far w x) (hn : ∀ x, X x → x < w.heap.size → col x = 0 ∨ 5 ≤ col x) (hcol : ∀ x, x < w.heap.size → col x ≠ 0 → col' x = col x) {Ts' : List TabD} (hm : Ts'.map (fun d => Value.pointer (some ⟨d.p, 0, none⟩)) = Ts.map fun d => Value.pointer (some ⟨d.p, 0, none⟩)) (ht : ∀ i (hi : i < Ts'.length), (Ts'[i]).Ok w' col' i) : LW w' wb tv sv kv n Ts' Ks col' := by
  have hwl : wb < w.heap.size := block_lt_of_cell h.c0
  have hw : ¬ X wb := fun hx => by have := hn _ hx hwl; rw [h.cw] at this; omega
  have hl : Ts'.length = Ts.length := by have := congrArg List.length hm; simpa using this
  refine ⟨h.laid.far hc.block hX, hc.block.cell hw h.c0, hc.block.cell hw h.c1, hc.block.cell hw h.c2, hc.block.cell hw h.c3, h.sS, fun j => (OnlyAt.of_block (hc.block wb hwl hw) j).2.trans (h.frz j), ?_, h.rK.keep fun x hx => hc.block x (h.rK.lt hx) fun hx' => ?_, (hcol _ hwl (by rw [h.cw]; omega)).trans h.cw, fun x hx => (hcol _ (h.rT.lt hx) (by rw [h.cT x hx]; omega)).trans (h.cT x hx), fun x j u hx hu => h.pT x j u hx (by rwa [(OnlyAt.of_block (hc.block x (h.rT.lt hx) fun hx' => by have := hn _ hx' (h.rT.lt hx); rw [h.cT x hx] at this; omega) j).1] at hu), fun x hx => (hcol _ (h.rK.lt hx) (by rw [h.cK x hx]; omega)).trans (h.cK x hx), ht, fun k hk => (h.kept k hk).keep hc (fun x hx hlt => by have := hn x hx hlt; omega) hcol⟩
  · rw [hl, hm]
    refine h.rT.keep fun x hx => hc.block x (h.rT.lt hx) fun hx' => ?_
    have := hn _ hx' (h.rT.lt hx)
    rw [h.cT x hx] at this
    omega
  · have := hn _ hx' (h.rK.lt hx)
    rw [h.cK x hx] at this
    omega
theorem LW.below (h : LW w wb tv sv kv n Ts Ks col) (hb : Below w.heap.size w w') (hcol : ∀ x, x < w.heap.size → col x ≠ 0 → col' x = col x) : LW w' wb tv sv kv n Ts Ks col' :=
  h.keep (X := fun _ => False) (Chg.of_below hb) (fun _ hx => hx.elim) (fun _ hx => hx.elim) hcol rfl fun i hi => (h.tab i hi).keep (X := fun _ => False) (Chg.of_below hb) (fun _ hx => hx.elim) (fun _ hx => hx.elim) hcol
def paint (col : Nat → Nat) (s c : Nat) : Nat → Nat := fun x => if x < s then col x else c
theorem paint_lt {col : Nat → Nat} {s c x : Nat} (h : x < s) : paint col s c x = col x := by unfold paint; rw [if_pos h]
theorem paint_ge {col : Nat → Nat} {s c x : Nat} (h : s ≤ x) : paint col s c x = c := by unfold paint; rw [if_neg (by omega)]
theorem map_set_same {α β : Type} (f : α → β) {l : List α} {i : Nat} (hi : i < l.length) {a : α} (h : f a = f l[i]) : (l.set i a).map f = l.map f := by
  rw [List.map_set, h, ← List.getElem_map f (h := by simpa using hi), List.set_getElem_self]
end
end Go.Proofs.YtnjalelblbjfiaaGreatDoor

namespace Go.Proofs.YtnjalelblbjfiaaGreatDoor
open Go.RowKit
open Go.Sort (grow)
theorem underMatch5' : Tryz.prog.underlying 35 = some (.array 5 34) := by kernel_rfl
set_option maxRecDepth 100000 in
set_option maxHeartbeats 2000000 in
theorem eqMatch5 (d : Nat) (r : Rl) (w : World) : (Op.equalIn (d + 3) 35 (.agg #[.int .i64 r.k0, .int .i64 r.v0, .int .i64 r.m0, .int .i64 r.k1, .int .i64 r.v1, .int .i64 r.m1, .int .i64 r.k2, .int .i64 r.v2, .int .i64 r.m2, .int .i64 r.k3, .int .i64 r.v3, .int .i64 r.m3, .int .i64 r.k4, .int .i64 r.v4, .int .i64 r.m4]) (.agg #[.int .i64 r.k0, .int .i64 r.v0, .int .i64 r.m0, .int .i64 r.k1, .int .i64 r.v1, .int .i64 r.m1, .int .i64 r.k2, .int .i64 r.v2, .int .i64 r.m2, .int .i64 r.k3, .int .i64 r.v3, .int .i64 r.m3, .int .i64 r.k4, .int .i64 r.v4, .int .i64 r.m4])).run Tryz.prog w = .ok true w := by
  obtain ⟨i, hi⟩ : ∃ i, Tryz.prog.info? 34 = some i := by
    cases h : Tryz.prog.info? 34 with
    | none => exact absurd (show (Tryz.prog.info? 34).isSome = true by kernel_rfl) (by rw [h]; simp)
    | some i => exact ⟨i, rfl⟩
  have hc : Tryz.prog.cellsOf 34 = 3 := by kernel_rfl
  have hr : List.range 5 = [0, 1, 2, 3, 4] := rfl
  rw [run_equalIn_array w (d + 2) _ _ underMatch5' hi, hc, hr]
  simp [go_sem, Op.eqItems]
set_option maxRecDepth 100000 in
set_option maxHeartbeats 2000000 in
theorem neqRule1 (r : Rl) (w : World) : (binOp .neq 37 (.agg #[.int .i64 r.id, .int .i64 r.pr, .int .i64 r.k0, .int .i64 r.v0, .int .i64 r.m0, .int .i64 r.k1, .int .i64 r.v1, .int .i64 r.m1, .int .i64 r.k2, .int .i64 r.v2, .int .i64 r.m2, .int .i64 r.k3, .int .i64 r.v3, .int .i64 r.m3, .int .i64 r.k4, .int .i64 r.v4, .int .i64 r.m4, .int .i64 r.ac, .int .i64 r.po]) (.agg #[.int .i64 r.id, .int .i64 r.pr, .int .i64 r.k0, .int .i64 r.v0, .int .i64 r.m0, .int .i64 r.k1, .int .i64 r.v1, .int .i64 r.m1, .int .i64 r.k2, .int .i64 r.v2, .int .i64 r.m2, .int .i64 r.k3, .int .i64 r.v3, .int .i64 r.m3, .int .i64 r.k4, .int .i64 r.v4, .int .i64 r.m4, .int .i64 r.ac, .int .i64 r.po])).run Tryz.prog w = .ok (.bool false) w := by
  have h := eqMatch5 9996 r
  simp [go_sem, h]
set_option maxRecDepth 100000 in
set_option maxHeartbeats 2000000 in
theorem eqlRule1 (r : Rl) (w : World) : (binOp .eql 37 (.agg #[.int .i64 r.id, .int .i64 r.pr, .int .i64 r.k0, .int .i64 r.v0, .int .i64 r.m0, .int .i64 r.k1, .int .i64 r.v1, .int .i64 r.m1, .int .i64 r.k2, .int .i64 r.v2, .int .i64 r.m2, .int .i64 r.k3, .int .i64 r.v3, .int .i64 r.m3, .int .i64 r.k4, .int .i64 r.v4, .int .i64 r.m4, .int .i64 r.ac, .int .i64 r.po]) (.agg #[.int .i64 r.id, .int .i64 r.pr, .int .i64 r.k0, .int .i64 r.v0, .int .i64 r.m0, .int .i64 r.k1, .int .i64 r.v1, .int .i64 r.m1, .int .i64 r.k2, .int .i64 r.v2, .int .i64 r.m2, .int .i64 r.k3, .int .i64 r.v3, .int .i64 r.m3, .int .i64 r.k4, .int .i64 r.v4, .int .i64 r.m4, .int .i64 r.ac, .int .i64 r.po])).run Tryz.prog w = .ok (.bool true) w := by
  have h := eqMatch5 9996 r
  simp [go_sem, h]
theorem neqMarkR (n : Int) (w : World) : (binOp .neq 37 (.agg #[.int .i64 n, .int .i64 0, .int .i64 0, .int .i64 0, .int .i64 0, .int .i64 0, .int .i64 0, .int .i64 0, .int .i64 0, .int .i64 0, .int .i64 0, .int .i64 0, .int .i64 0, .int .i64 0, .int .i64 0, .int .i64 0, .int .i64 0, .int .i64 0, .int .i64 0]) (.agg #[.int .i64 n, .int .i64 0, .int .i64 0, .int .i64 0, .int .i64 0, .int .i64 0, .int .i64 0, .int .i64 0, .int .i64 0, .int .i64 0, .int .i64 0, .int .i64 0, .int .i64 0, .int .i64 0, .int .i64 0, .int .i64 0, .int .i64 0, .int .i64 0, .int .i64 0])).run Tryz.prog w = .ok (.bool false) w := neqRule1 ⟨n, 0, 0, 0, 0, 0, 0, 0, 0, 0, 0, 0, 0, 0, 0, 0, 0, 0, 0⟩ w
theorem neqMarkO (n : Int) (w : World) : (binOp .neq 66 (.agg #[.int .i64 n, .string ⟨#[]⟩]) (.agg #[.int .i64 n, .string ⟨#[]⟩])).run Tryz.prog w = .ok (.bool false) w := by
  simp [go_sem]
theorem neqMarkM (n : Int) (w : World) : (binOp .neq 68 (.agg #[.int .i64 0, .string ⟨#[]⟩, .int .i64 n, .int .i64 0]) (.agg #[.int .i64 0, .string ⟨#[]⟩, .int .i64 n, .int .i64 0])).run Tryz.prog w = .ok (.bool false) w := by
  simp [go_sem]
end Go.Proofs.YtnjalelblbjfiaaGreatDoor

namespace Go.Proofs.YtnjalelblbjfiaaGreatDoor
open Go.RowKit
open Go.Sort (grow)

theorem rowK_length (Ks : List KeptD) : (rowK Ks).length = Ks.length * 5 := by
  induction Ks with
  | nil => rfl
  | cons e t ih =>
    have : rowK (e :: t) = e.cells ++ rowK t := rfl
    rw [this, List.length_append, ih, List.length_cons]
    show 5 + t.length * 5 = _
    omega
theorem rowK_append (a b : List KeptD) : rowK (a ++ b) = rowK a ++ rowK b := List.flatMap_append
theorem rowK_get : ∀ (Ks : List KeptD) (k : Nat) (hk : k < Ks.length) (j : Nat), j < 5 → (rowK Ks)[k * 5 + j]? = Ks[k].cells[j]?
  | [], k, hk, _, _ => absurd hk (by simp)
  | e :: t, k, hk, j, hj => by
    have h : rowK (e :: t) = e.cells ++ rowK t := rfl
    have hl : e.cells.length = 5 := rfl
    rw [h]
    match k, hk with
    | 0, _ => rw [List.getElem?_append_left (by rw [hl]; omega)]; simp
    | k + 1, hk =>
      rw [List.getElem?_append_right (by rw [hl]; omega), hl, show (k + 1) * 5 + j - 5 = k * 5 + j by omega, rowK_get t k (by simpa using hk) j hj]
      rfl
theorem RowIs.kept {w : World} {kv : Value} {Ks : List KeptD} (h : RowIs w 78 5 kv Ks.length (rowK Ks)) : ∃ a cap g, kv = .slice a Ks.length cap ∧ ∀ k (hk : k < Ks.length), a = some ⟨g, 0, none⟩ ∧ w.rangeAt g (k * 5) (Ks[k]).cells := by
  rcases h.1.2 with ⟨hv, h0⟩ | ⟨g, cap, cur, hv, _⟩
  · exact ⟨none, 0, 0, by rw [hv, h0], fun j hj => by omega⟩
  · refine ⟨_, cap, g, hv, fun k hk => ⟨rfl, fun j u hu => ?_⟩⟩
    have ho := h.1
    rw [hv] at ho
    have hj : j < 5 := (List.getElem?_eq_some_iff.1 hu).1
    rw [ho.cellAt _ (by omega), rowK_get Ks k hk j hj]
    exact hu
attribute [local go_sem] cell?_regrown neqMarkO neqMarkM
attribute [local go_sem ↓ high] neqMarkR

set_option maxRecDepth 100000 in
set_option maxHeartbeats 2000000 in
theorem lstill_any (w : World) (wb : Nat) (tv sv kv : Value) (n : Nat) (Ts : List TabD) (Ks : List KeptD) (col : Nat → Nat) (h : LW w wb tv sv kv n Ts Ks col) (hn : Ks.length ≤ 1000000000) :
    Calls Tryz.prog 11 #[.pointer (some ⟨wb, 0, none⟩)] w fun e w' => e = .returned (.bool true) ∧ Below w.heap.size w w' := by
  obtain ⟨dr, hur, hdr⟩ := underRule
  obtain ⟨a, cap, g, rfl, hrow⟩ := h.rK.kept
  have h3 := h.c3
  have hwl : wb < w.heap.size := block_lt_of_cell h3
  have HH := hide h
  have HROW := hide hrow
  clear h hrow
  go_enter Tryz.func11, Tryz.ntmps11
  go_wp2_with fail
  go_loopw [3] (fun i wr => ∃ k : Nat, k ≤ Ks.length ∧ i = .int .i64 k ∧ Below w.heap.size w wr) (fun i _ => Ks.length - (intOf i).toNat)
  case atStart => exact ⟨0, by omega, rfl, Below.refl _ _⟩
  case round =>
    obtain ⟨k, hk, rfl, hb⟩ := hrel
    have k3 := cell_later hb h3
    have hwl' : wb < wr.heap.size := block_lt_of_cell k3
    have HB := hide hb
    by_cases hlt : k < Ks.length
    · obtain ⟨K, hK⟩ : ∃ K, K = Ks[k] := ⟨_, rfl⟩
      obtain ⟨rfl, hr⟩ := HROW.out k hlt
      rw [← hK] at hr
      have ok : K.Ok wr col := (HH.out.kept K (by rw [hK]; exact List.getElem_mem hlt)).keep (X := fun _ => False) (Chg.of_below hb) (fun _ hx => hx.elim) (fun _ _ _ => rfl)
      have hr' : wr.rangeAt g (k * 5) K.cells := rangeAt_below hr hb
      obtain ⟨m, vr, vo, vm, vi⟩ := K
      have q0 : wr.cell? ⟨g, k * 5, none⟩ = some (.int .i64 m) := hr' 0 _ rfl
      have q1 : wr.cell? ⟨g, k * 5 + 1, none⟩ = some vr := hr' 1 _ rfl
      have q2 : wr.cell? ⟨g, k * 5 + 2, none⟩ = some vo := hr' 2 _ rfl
      have q3 : wr.cell? ⟨g, k * 5 + 3, none⟩ = some vm := hr' 3 _ rfl
      have q4 : wr.cell? ⟨g, k * 5 + 4, none⟩ = some vi := hr' 4 _ rfl
      have hgl : g < wr.heap.size := block_lt_of_cell q0
      have hki : (k : Int) < Ks.length := by omega
      have OK := hide ok
      clear ok hr hr' hb hK
      obtain ⟨ar, lr, cr, rfl, hlr, hfr⟩ := OK.out.r
      obtain ⟨ao, lo, co, rfl, hlo, hfo⟩ := OK.out.o
      obtain ⟨am, lm, cm, rfl, hlm, hfm⟩ := OK.out.m
      obtain ⟨ai, li, ci, rfl, hli, hfi⟩ := OK.out.i
      have hm : m ≤ 1000000000 := OK.out.le
      have HFR := hide hfr
      have HFO := hide hfo
      have HFM := hide hfm
      have HFI := hide hfi
      clear OK hfr hfo hfm hfi
      --LOOPS
      obtain ⟨Wk, hWk⟩ : ∃ Wk, Wk = wr.alloc (.cells #[.int .i64 m, .slice ar lr cr, .slice ao lo co, .slice am lm cm, .slice ai li ci] 78) := ⟨_, rfl⟩
      have hbk : Below wr.heap.size wr Wk := by rw [hWk]; exact (Below.refl _ wr).alloc (Nat.le_refl _) _
      obtain ⟨bk, hbe⟩ : ∃ bk, bk = wr.heap.size := ⟨_, rfl⟩
      have hnk : Wk.rangeAt bk 0 [.int .i64 m, .slice ar lr cr, .slice ao lo co, .slice am lm cm, .slice ai li ci] := by rw [hWk, hbe]; exact range_new _ _ _
      have p0 : Wk.cell? ⟨bk, 0, none⟩ = some (.int .i64 m) := hnk 0 _ rfl
      have p1 : Wk.cell? ⟨bk, 1, none⟩ = some (.slice ar lr cr) := hnk 1 _ rfl
      have p2 : Wk.cell? ⟨bk, 2, none⟩ = some (.slice ao lo co) := hnk 2 _ rfl
      have p3 : Wk.cell? ⟨bk, 3, none⟩ = some (.slice am lm cm) := hnk 3 _ rfl
      have p4 : Wk.cell? ⟨bk, 4, none⟩ = some (.slice ai li ci) := hnk 4 _ rfl
      have hwm : IntKind.i64.wrap (-(m : Int)) = -(m : Int) := by rw [IntKind.wrap_i64]; omega
      have HBK := hide hbk
      have HBW := hide (HB.out.trans (hbk.mono HB.out.size))
      have P0 := hide p0
      have P1 := hide p1
      have P2 := hide p2
      have P3 := hide p3
      have P4 := hide p4
      go_wp2_with fail
      rw [← hWk, ← hbe]
      clear hWk hbe hnk hbk p0 p1 p2 p3 p4 q0 q1 q2 q3 q4 k3 hwl' hgl
      go_loopw [5] (fun i W => ∃ j : Nat, j ≤ lr ∧ i = .int .i64 j ∧ Below Wk.heap.size Wk W) (fun i _ => lr - (intOf i).toNat)
      case atStart => exact ⟨0, by omega, rfl, Below.refl _ _⟩
      case round =>
        obtain ⟨j, hj, rfl, hbj⟩ := hrel
        have e0 := cell_later hbj P0.out
        have e1 := cell_later hbj P1.out
        have hbl : bk < wr.heap.size := block_lt_of_cell e0
        have HBJ1 := hide hbj
        clear hbj
        by_cases hjl : j < lr
        · obtain ⟨gr, rfl, -, hgr, hrr⟩ := HFR.out j hjl
          have hrr' : wr.rangeAt gr (j * 19) [.int .i64 (-(m : Int)), .int .i64 0, .int .i64 0, .int .i64 0, .int .i64 0, .int .i64 0, .int .i64 0, .int .i64 0, .int .i64 0, .int .i64 0, .int .i64 0, .int .i64 0, .int .i64 0, .int .i64 0, .int .i64 0, .int .i64 0, .int .i64 0, .int .i64 0, .int .i64 0] := rangeAt_below (rangeAt_below hrr HBK.out) HBJ1.out
          have hgl : gr < wr.heap.size := by have := HBK.out.size; have := HBJ1.out.size; omega
          have hji : (j : Int) < lr := by omega
          clear hrr
          go_wp2_with fail
          refine wp_region_quiet_below (by kernel_rfl) (by kernel_rfl) ?_
          repeat (first | (refine wpQuiet_load_mid rfl 37 _ rfl gr (j * 19) rfl [.int .i64 (-(m : Int)), .int .i64 0, .int .i64 0, .int .i64 0, .int .i64 0, .int .i64 0, .int .i64 0, .int .i64 0, .int .i64 0, .int .i64 0, .int .i64 0, .int .i64 0, .int .i64 0, .int .i64 0, .int .i64 0, .int .i64 0, .int .i64 0, .int .i64 0, .int .i64 0] dr (fun w' h => range_regrown hrr' h) hur hdr sizeRule ?_) | quiet_step (fail))
          refine wpQuiet_nil ?_; intro wq hwq; replace hwq := below_of_regrown hwq; obtain ⟨hcq, hfq⟩ := bcell hwq; have hzq := hwq.size
          have HQ := hide hwq
          clear hwq hcq hfq hzq e0 e1
          go_wp2_with fail
          go_roundw
          case rel => exact ⟨j + 1, by omega, by go_num, HBJ1.out.trans (HQ.out.mono HBJ1.out.size)⟩
          case measure => simp [intOf]; omega
        · have hji : ¬ (j : Int) < lr := by omega
          have HJ := hide hj
          clear hj
          go_wp2_with fail
          go_loopw [6] (fun i W => ∃ j : Nat, j ≤ lo ∧ i = .int .i64 j ∧ Below Wk.heap.size Wk W) (fun i _ => lo - (intOf i).toNat)
          case atStart => exact ⟨0, by omega, rfl, HBJ1.out⟩
          case round =>
            obtain ⟨j, hj, rfl, hbj⟩ := hrel
            have e0 := cell_later hbj P0.out
            have e2 := cell_later hbj P2.out
            have hbl : bk < wr.heap.size := block_lt_of_cell e0
            have HBJ2 := hide hbj
            clear hbj
            by_cases hjl : j < lo
            · obtain ⟨gr, rfl, -, hgr, hrr⟩ := HFO.out j hjl
              have hrr' : wr.rangeAt gr (j * 2) [.int .i64 (-(m : Int)), .string ⟨#[]⟩] := rangeAt_below (rangeAt_below hrr HBK.out) HBJ2.out
              have hgl : gr < wr.heap.size := by have := HBK.out.size; have := HBJ2.out.size; omega
              have hji : (j : Int) < lo := by omega
              clear hrr
              have r0 : wr.cell? ⟨gr, j * 2, none⟩ = some (.int .i64 (-(m : Int))) := hrr' 0 _ rfl
              have r1 : wr.cell? ⟨gr, j * 2 + 1, none⟩ = some (.string ⟨#[]⟩) := hrr' 1 _ rfl
              go_wp2_with fail
              refine wp_region_quiet_below (by kernel_rfl) (by kernel_rfl) ?_
              repeat (quiet_step (fail))
              refine wpQuiet_nil ?_; intro wq hwq; replace hwq := below_of_regrown hwq; obtain ⟨hcq, hfq⟩ := bcell hwq; have hzq := hwq.size
              have HQ := hide hwq
              clear hwq hcq hfq hzq e0 e2
              go_wp2_with fail
              go_roundw
              case rel => exact ⟨j + 1, by omega, by go_num, HBJ2.out.trans (HQ.out.mono HBJ2.out.size)⟩
              case measure => simp [intOf]; omega
            · have hji : ¬ (j : Int) < lo := by omega
              have HJ := hide hj
              clear hj
              go_wp2_with fail
              go_loopw [7] (fun i W => ∃ j : Nat, j ≤ lm ∧ i = .int .i64 j ∧ Below Wk.heap.size Wk W) (fun i _ => lm - (intOf i).toNat)
              case atStart => exact ⟨0, by omega, rfl, HBJ2.out⟩
              case round =>
                obtain ⟨j, hj, rfl, hbj⟩ := hrel
                have e0 := cell_later hbj P0.out
                have e3 := cell_later hbj P3.out
                have hbl : bk < wr.heap.size := block_lt_of_cell e0
                have HBJ3 := hide hbj
                clear hbj
                by_cases hjl : j < lm
                · obtain ⟨gr, rfl, -, hgr, hrr⟩ := HFM.out j hjl
                  have hrr' : wr.rangeAt gr (j * 4) [.int .i64 0, .string ⟨#[]⟩, .int .i64 (-(m : Int)), .int .i64 0] := rangeAt_below (rangeAt_below hrr HBK.out) HBJ3.out
                  have hgl : gr < wr.heap.size := by have := HBK.out.size; have := HBJ3.out.size; omega
                  have hji : (j : Int) < lm := by omega
                  clear hrr
                  have r0 : wr.cell? ⟨gr, j * 4, none⟩ = some (.int .i64 0) := hrr' 0 _ rfl
                  have r1 : wr.cell? ⟨gr, j * 4 + 1, none⟩ = some (.string ⟨#[]⟩) := hrr' 1 _ rfl
                  have r2 : wr.cell? ⟨gr, j * 4 + 2, none⟩ = some (.int .i64 (-(m : Int))) := hrr' 2 _ rfl
                  have r3 : wr.cell? ⟨gr, j * 4 + 3, none⟩ = some (.int .i64 0) := hrr' 3 _ rfl
                  go_wp2_with fail
                  refine wp_region_quiet_below (by kernel_rfl) (by kernel_rfl) ?_
                  repeat (quiet_step (fail))
                  refine wpQuiet_nil ?_; intro wq hwq; replace hwq := below_of_regrown hwq; obtain ⟨hcq, hfq⟩ := bcell hwq; have hzq := hwq.size
                  have HQ := hide hwq
                  clear hwq hcq hfq hzq e0 e3
                  go_wp2_with fail
                  go_roundw
                  case rel => exact ⟨j + 1, by omega, by go_num, HBJ3.out.trans (HQ.out.mono HBJ3.out.size)⟩
                  case measure => simp [intOf]; omega
                · have hji : ¬ (j : Int) < lm := by omega
                  have HJ := hide hj
                  clear hj
                  go_wp2_with fail
                  go_loopw [8] (fun i W => ∃ j : Nat, j ≤ li ∧ i = .int .i64 j ∧ Below Wk.heap.size Wk W) (fun i _ => li - (intOf i).toNat)
                  case atStart => exact ⟨0, by omega, rfl, HBJ3.out⟩
                  case round =>
                    obtain ⟨j, hj, rfl, hbj⟩ := hrel
                    have e0 := cell_later hbj P0.out
                    have e4 := cell_later hbj P4.out
                    have hbl : bk < wr.heap.size := block_lt_of_cell e0
                    have HBJ4 := hide hbj
                    clear hbj
                    by_cases hjl : j < li
                    · obtain ⟨gr, rfl, -, hgr, hrr⟩ := HFI.out j hjl
                      have hrr' : wr.rangeAt gr (j * 1) [.int .i64 (-(m : Int))] := rangeAt_below (rangeAt_below hrr HBK.out) HBJ4.out
                      have hgl : gr < wr.heap.size := by have := HBK.out.size; have := HBJ4.out.size; omega
                      have hji : (j : Int) < li := by omega
                      clear hrr
                      have r0 : wr.cell? ⟨gr, j, none⟩ = some (.int .i64 (-(m : Int))) := by have h := hrr' 0 _ rfl; rwa [Nat.mul_one, Nat.add_zero] at h
                      go_wp2_with fail
                      refine wp_region_quiet_below (by kernel_rfl) (by kernel_rfl) ?_
                      repeat (quiet_step (fail))
                      refine wpQuiet_nil ?_; intro wq hwq; replace hwq := below_of_regrown hwq; obtain ⟨hcq, hfq⟩ := bcell hwq; have hzq := hwq.size
                      have HQ := hide hwq
                      clear hwq hcq hfq hzq e0 e4
                      go_wp2_with fail
                      go_roundw
                      case rel => exact ⟨j + 1, by omega, by go_num, HBJ4.out.trans (HQ.out.mono HBJ4.out.size)⟩
                      case measure => simp [intOf]; omega
                    · have hji : ¬ (j : Int) < li := by omega
                      have HJ := hide hj
                      clear hj
                      go_wp2_with fail
                      go_roundw
                      case rel => exact ⟨k + 1, by omega, by go_num, HBW.out.trans (HBJ4.out.mono HBW.out.size)⟩
                      case measure => simp [intOf]; omega
    · have hki : ¬ (k : Int) < Ks.length := by omega
      go_wp2
      go_ret
      exact ⟨rfl, HB.out⟩
end Go.Proofs.YtnjalelblbjfiaaGreatDoor
