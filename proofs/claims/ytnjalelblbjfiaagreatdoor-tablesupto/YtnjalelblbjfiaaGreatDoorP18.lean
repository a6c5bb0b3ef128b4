import Derived.Test.YtnjalelblbjfiaaGreatDoorP17
import Derived.Test.YtnjalelblbjfiaaGreatDoorP15
import Derived.ChangeKeysEq
import Derived.BigQuiet
namespace Go.Proofs.YtnjalelblbjfiaaGreatDoor
open Go.RowKit

theorem Foreign.far {w : World} {x : Nat} (hl : Laid w) (h : Foreign w x) : Far w x := by
  refine ⟨?_, fun r he => h.notEnt he, fun a n c hc => ?_, fun f l bl h1 h2 h3 => ?_, fun e r hc he => ?_⟩
  · rintro rfl
    have c0 := hl.1
    have c1 := hl.2.1
    have c2 := hl.2.2.1
    rcases h with ⟨b2, q, fn, f, c, g0, g1, g2⟩ | ⟨fn, f, c, a, l, k, g0, g1⟩ | ⟨n, p, g0, g1⟩ | ⟨n, m, p, g0, g1, g2⟩ | ⟨o, ho, hco⟩ | ⟨hx0, cs, ct, cfr, ga, gb, gc, gd, gh, gs, g0, g1, g2, g3⟩
    · rw [g0] at c0; cases c0
    · rw [g0] at c0; cases c0
    · rw [g1] at c1; cases c1
    · rw [g2] at c2; cases c2
    · rw [noCell ho hco] at c0; cases c0
    · exact hx0 rfl
  · rcases h with ⟨b2, q, fn, f, c, g0, g1, g2⟩ | ⟨fn, f, c, a, l, k, g0, g1⟩ | ⟨n, p, g0, g1⟩ | ⟨n, m, p, g0, g1, g2⟩ | ⟨o, ho, hco⟩ | ⟨hx0, cs, ct, cfr, ga, gb, gc, gd, gh, gs, g0, g1, g2, g3⟩ <;> first | (rw [g0] at hc; cases hc) | (rw [noCell ho hco] at hc; cases hc)
  · rcases h with ⟨b2, q, fn, f, c, g0, g1, g2⟩ | ⟨fn, f, c, a, l, k, g0, g1⟩ | ⟨n, p, g0, g1⟩ | ⟨n, m, p, g0, g1, g2⟩ | ⟨o, ho, hco⟩ | ⟨hx0, cs, ct, cfr, ga, gb, gc, gd, gh, gs, g0, g1, g2, g3⟩
    · rw [g1] at h1; cases h1
    · rw [g1] at h1; cases h1
    · rw [g1] at h1; cases h1
    · rw [g2] at h2; cases h2
    · rw [noCell ho hco] at h1; cases h1
    · rw [g3] at h3; cases h3
  · rcases h with ⟨b2, q, fn, f, c, g0, g1, g2⟩ | ⟨fn, f, c, a, l, k, g0, g1⟩ | ⟨n, p, g0, g1⟩ | ⟨n, m, p, g0, g1, g2⟩ | ⟨o, ho, hco⟩ | ⟨hx0, cs, ct, cfr, ga, gb, gc, gd, gh, gs, g0, g1, g2, g3⟩
    · rw [g0] at hc
      cases hc
      have c0 := he.c0
      rw [g2] at c0
      cases c0
    · rw [g0] at hc; cases hc
    · rw [g0] at hc; cases hc
    · rw [g0] at hc; cases hc
    · rw [noCell ho hco] at hc; cases hc
    · rw [g0] at hc; cases hc
theorem TabIs.foreign' {w : World} {t : Nat} {F : Nat → Prop} {L : List Ent} (h : TabIs w t F L) {x : Nat} (hx : F x) : Foreign w x := by
  obtain ⟨b1, b2, sv1, sv2, LI, T, _, _, rfl⟩ := h
  exact T.foreign hx
theorem TabIs.laid' {w : World} {t : Nat} {F : Nat → Prop} {L : List Ent} (h : TabIs w t F L) : Laid w := by
  obtain ⟨b1, b2, sv1, sv2, LI, T, _, _, rfl⟩ := h
  exact T.laid

/-- A table, and the document's. -/
structure TabD where
  p : Nat
  t : Nat
  y : Nat
  F : Nat → Prop
  L : List Ent
  v : Value
  rs : List Rl
/-- Whose a block is: 1 the walk's own struct, 2 and 3 its rows, 4 nobody's who would change it, 3 i + 5 table i's, 3 i + 6 the document's. -/
structure TabD.Ok (w : World) (col : Nat → Nat) (i : Nat) (d : TabD) : Prop where
  c0 : w.cell? ⟨d.p, 0, none⟩ = some (.pointer (some ⟨d.t, 0, none⟩))
  c1 : w.cell? ⟨d.p, 1, none⟩ = some (.pointer (some ⟨d.y, 0, none⟩))
  cp : col d.p = 4
  tab : TabIs w d.t d.F d.L
  cF : ∀ x, d.F x → col x = 3 * i + 5
  ref : RefAt 1 w d.y 0 d.v d.rs
  one : w.cell? ⟨d.y, 1, none⟩ = none ∧ w.cell? ⟨d.y, 3, none⟩ = none
  cy : col d.y = 3 * i + 6
  cv : ∀ x, d.v.ownBlock = some x → col x = 3 * i + 6
section
variable {w w' : World} {col col' : Nat → Nat} {i : Nat} {d : TabD} {X : Nat → Prop}
theorem TabD.Ok.keep (h : d.Ok w col i) (hc : Chg X w w') (hX : ∀ x, X x → Far w x) (hn : ∀ x, X x → x < w.heap.size → col x ≠ 4 ∧ col x ≠ 3 * i + 5 ∧ col x ≠ 3 * i + 6) (hcol : ∀ x, x < w.heap.size → col x ≠ 0 → col' x = col x) : d.Ok w' col' i := by
  have hpl : d.p < w.heap.size := block_lt_of_cell h.c0
  have hyl : d.y < w.heap.size := block_lt_of_cell h.ref.1
  have hp : ¬ X d.p := fun hx => (hn _ hx hpl).1 h.cp
  have hy : ¬ X d.y := fun hx => (hn _ hx hyl).2.2 h.cy
  have hvl : ∀ x, d.v.ownBlock = some x → x < w.heap.size := fun x hx => h.ref.2.2.1.lt hx
  have hby := hc.block d.y hyl hy
  refine ⟨hc.block.cell hp h.c0, hc.block.cell hp h.c1, (hcol _ hpl (by rw [h.cp]; omega)).trans h.cp, h.tab.far hc hX fun x hf hx => (hn x hx (h.tab.lt hf)).2.1 (h.cF x hf), fun x hx => (hcol _ (h.tab.lt hx) (by rw [h.cF x hx]; omega)).trans (h.cF x hx), ⟨hc.block.cell hy h.ref.1, (OnlyAt.of_block hby 0).2.trans h.ref.2.1, h.ref.2.2.1.same fun x hx => hc.block x (hvl x hx) fun hx' => (hn _ hx' (hvl x hx)).2.2 (h.cv x hx), h.ref.2.2.2⟩, ⟨(OnlyAt.of_block hby 1).1.trans h.one.1, (OnlyAt.of_block hby 3).1.trans h.one.2⟩, (hcol _ hyl (by rw [h.cy]; omega)).trans h.cy, fun x hx => (hcol _ (hvl x hx) (by rw [h.cv x hx]; omega)).trans (h.cv x hx)⟩
end

/-- A list that is the caller's, full of its mark. -/
structure KeptD where
  n : Nat
  vr : Value
  vo : Value
  vm : Value
  vi : Value
def KeptD.cells (k : KeptD) : List Value := [.int .i64 k.n, k.vr, k.vo, k.vm, k.vi]
def rowK (Ks : List KeptD) : List Value := Ks.flatMap KeptD.cells
/-- The marks. -/
def markRl (n : Nat) : Rl := ⟨-(n : Int), 0, 0, 0, 0, 0, 0, 0, 0, 0, 0, 0, 0, 0, 0, 0, 0, 0, 0⟩
def markO (n : Nat) : List Value := [.int .i64 (-(n : Int)), .string ⟨#[]⟩]
def markM (n : Nat) : List Value := [.int .i64 0, .string ⟨#[]⟩, .int .i64 (-(n : Int)), .int .i64 0]
def markI (n : Nat) : List Value := [.int .i64 (-(n : Int))]
def Full (w : World) (col : Nat → Nat) (s : Nat) (v : Value) (cs : List Value) : Prop := ∃ a len cap, v = .slice a len cap ∧ len ≤ 1000000000 ∧ ∀ k, k < len → ∃ g, a = some ⟨g, 0, none⟩ ∧ col g = 4 ∧ g < w.heap.size ∧ w.rangeAt g (k * s) cs
structure KeptD.Ok (w : World) (col : Nat → Nat) (k : KeptD) : Prop where
  le : k.n ≤ 1000000000
  r : Full w col 19 k.vr (markRl k.n).cells.toList
  o : Full w col 2 k.vo (markO k.n)
  m : Full w col 4 k.vm (markM k.n)
  i : Full w col 1 k.vi (markI k.n)
section
variable {w w' : World} {col col' : Nat → Nat} {X : Nat → Prop}
theorem Full.nil (s : Nat) (cs : List Value) : Full w col s (.slice none 0 0) cs := ⟨none, 0, 0, rfl, by omega, fun k hk => absurd hk (Nat.not_lt_zero k)⟩
theorem Full.keep {s : Nat} {v : Value} {cs : List Value} (h : Full w col s v cs) (hc : Chg X w w') (hn : ∀ x, X x → x < w.heap.size → col x ≠ 4) (hcol : ∀ x, x < w.heap.size → col x ≠ 0 → col' x = col x) : Full w' col' s v cs := by
  obtain ⟨a, len, cap, e, hl, h⟩ := h
  refine ⟨a, len, cap, e, hl, fun k hk => ?_⟩
  obtain ⟨g, ha, h4, hg, hr⟩ := h k hk
  exact ⟨g, ha, (hcol g hg (by rw [h4]; omega)).trans h4, Nat.lt_of_lt_of_le hg hc.size, fun j u hu => hc.block.cell (fun hx => hn g hx hg h4) (hr j u hu)⟩
theorem KeptD.Ok.keep {k : KeptD} (h : k.Ok w col) (hc : Chg X w w') (hn : ∀ x, X x → x < w.heap.size → col x ≠ 4) (hcol : ∀ x, x < w.heap.size → col x ≠ 0 → col' x = col x) : k.Ok w' col' :=
  ⟨h.le, h.r.keep hc hn hcol, h.o.keep hc hn hcol, h.m.keep hc hn hcol, h.i.keep hc hn hcol⟩
end

/-- A row that the walk has made itself. -/
def RowIs (w : World) (t : TypeId) (s : Nat) (v : Value) (n : Nat) (xs : List Value) : Prop := w.ownsRow 1 t s v n xs ∧ (n = 0 → v = .slice none 0 0)
theorem RowIs.lt {w : World} {t : TypeId} {s n : Nat} {v : Value} {xs : List Value} (h : RowIs w t s v n xs) {x : Nat} (hx : v.ownBlock = some x) : x < w.heap.size := (h.1.lt x hx).2
theorem RowIs.keep {w w' : World} {t : TypeId} {s n : Nat} {v : Value} {xs : List Value} (h : RowIs w t s v n xs) (hk : ∀ x, v.ownBlock = some x → w'.heap[x]? = w.heap[x]?) : RowIs w' t s v n xs := by
  refine ⟨⟨h.1.1, ?_⟩, h.2⟩
  rcases h.1.2 with h' | ⟨g, cap, cur, e, hb, hg, r⟩
  · exact .inl h'
  · exact .inr ⟨g, cap, cur, e, hb, (hk g (by rw [e]; rfl)).trans hg, r⟩

/-- All that the walk has made. -/
structure LW (w : World) (wb : Nat) (tv sv kv : Value) (n : Nat) (Ts : List TabD) (Ks : List KeptD) (col : Nat → Nat) : Prop where
  laid : Laid w
  c0 : w.cell? ⟨wb, 0, none⟩ = some tv
  c1 : w.cell? ⟨wb, 1, none⟩ = some sv
  c2 : w.cell? ⟨wb, 2, none⟩ = some (.int .i64 n)
  c3 : w.cell? ⟨wb, 3, none⟩ = some kv
  sS : ∃ a m c, sv = .slice a m c
  frz : ∀ j, w.frozen? ⟨wb, j, none⟩ = false
  rT : RowIs w 44 1 tv Ts.length (Ts.map fun d => .pointer (some ⟨d.p, 0, none⟩))
  rK : RowIs w 78 5 kv Ks.length (rowK Ks)
  cw : col wb = 1
  cT : ∀ x, tv.ownBlock = some x → col x = 2
  pT : ∀ x j u, tv.ownBlock = some x → w.cell? ⟨x, j, none⟩ = some u → ∃ q, u = .pointer q
  cK : ∀ x, kv.ownBlock = some x → col x = 3
  tab : ∀ i (hi : i < Ts.length), (Ts[i]).Ok w col i
  kept : ∀ k ∈ Ks, k.Ok w col
section
variable {w w' : World} {wb n : Nat} {tv sv kv : Value} {Ts : List TabD} {Ks : List KeptD} {col col' : Nat → Nat} {X : Nat → Prop}
/-- All but the tables is as it was. -/
theorem LW.keep (h : LW w wb tv sv kv n Ts Ks col) (hc : Chg X w w') (hX : ∀ x, X x → Far w x) (hn : ∀ x, X x → x < w.heap.size → col x = 0 ∨ 5 ≤ col x) (hcol : ∀ x, x < w.heap.size → col x ≠ 0 → col' x = col x) {Ts' : List TabD} (hm : Ts'.map (fun d => Value.pointer (some ⟨d.p, 0, none⟩)) = Ts.map fun d => Value.pointer (some ⟨d.p, 0, none⟩)) (ht : ∀ i (hi : i < Ts'.length), (Ts'[i]).Ok w' col' i) : LW w' wb tv sv kv n Ts' Ks col' := by
  have hwl : wb < w.heap.size := block_lt_of_cell h.c0
  have hw : ¬ X wb := fun hx => by have := hn _ hx hwl; rw [h.cw] at this; omega
  have hl : Ts'.length = Ts.length := by have := congrArg List.length hm; simpa using this
  refine ⟨h.laid.far hc.block hX, hc.block.cell hw h.c0, hc.block.cell hw h.c1, hc.block.cell hw h.c2, hc.block.cell hw h.c3, h.sS, fun j => (OnlyAt.of_block (hc.block wb hwl hw) j).2.trans (h.frz j), ?_, h.rK.keep fun x hx => hc.block x (h.rK.lt hx) fun hx' => ?_, (hcol _ hwl (by rw [h.cw]; omega)).trans h.cw, fun x hx => (hcol _ (h.rT.lt hx) (by rw [h.cT x hx]; omega)).trans (h.cT x hx), fun x j u hx hu => h.pT x j u hx (by rwa [(OnlyAt.of_block (hc.block x (h.rT.lt hx) fun hx' => by have := hn _ hx' (h.rT.lt hx); rw [h.cT x hx] at this; omega) j).1] at hu), fun x hx => (hcol _ (h.rK.lt hx) (by rw [h.cK x hx]; omega)).trans (h.cK x hx), ht, fun k hk => (h.kept k hk).keep hc (fun x hx hlt => by have := hn x hx hlt; omega) hcol⟩
  · rw [hl, hm]
    refine h.rT.keep fun x hx => hc.block x (h.rT.lt hx) fun hx' => ?_
    have := hn _ hx' (h.rT.lt hx)
    rw [h.cT x hx] at this
    omega
  · have := hn _ hx' (h.rK.lt hx)
    rw [h.cK x hx] at this
    omega
theorem LW.below (h : LW w wb tv sv kv n Ts Ks col) (hb : Below w.heap.size w w') (hcol : ∀ x, x < w.heap.size → col x ≠ 0 → col' x = col x) : LW w' wb tv sv kv n Ts Ks col' :=
  h.keep (X := fun _ => False) (Chg.of_below hb) (fun _ hx => hx.elim) (fun _ hx => hx.elim) hcol rfl fun i hi => (h.tab i hi).keep (X := fun _ => False) (Chg.of_below hb) (fun _ hx => hx.elim) (fun _ hx => hx.elim) hcol
def paint (col : Nat → Nat) (s c : Nat) : Nat → Nat := fun x => if x < s then col x else c
theorem paint_lt {col : Nat → Nat} {s c x : Nat} (h : x < s) : paint col s c x = col x := by unfold paint; rw [if_pos h]
theorem paint_ge {col : Nat → Nat} {s c x : Nat} (h : s ≤ x) : paint col s c x = c := by unfold paint; rw [if_neg (by omega)]
theorem map_set_same {α β : Type} (f : α → β) {l : List α} {i : Nat} (hi : i < l.length) {a : α} (h : f a = f l[i]) : (l.set i a).map f = l.map f := by
  rw [List.map_set, h, ← List.getElem_map f (h := by simpa using hi), List.set_getElem_self]
/-- A call of a table. -/
theorem LW.tabStep (h : LW w wb tv sv kv n Ts Ks col) {i : Nat} (hi : i < Ts.length) {F' : Nat → Prop} {L' : List Ent} (hT : TabIs w' Ts[i].t F' L') (hF : ∀ x, F' x → Ts[i].F x ∨ w.heap.size ≤ x) (hc : Chg Ts[i].F w w') : LW w' wb tv sv kv n (Ts.set i { Ts[i] with F := F', L := L' }) Ks (paint col w.heap.size (3 * i + 5)) := by
  have hd := h.tab i hi
  have hX : ∀ x, Ts[i].F x → Far w x := fun x hx => (hd.tab.foreign' hx).far h.laid
  refine h.keep hc hX (fun x hx _ => by rw [hd.cF x hx]; omega) (fun x hx _ => paint_lt hx) (map_set_same _ hi rfl) fun j hj => ?_
  rw [List.length_set] at hj
  by_cases hji : i = j
  · subst hji
    rw [List.getElem_set_self]
    have hpl : Ts[i].p < w.heap.size := block_lt_of_cell hd.c0
    have hyl : Ts[i].y < w.heap.size := block_lt_of_cell hd.ref.1
    have hp : ¬ Ts[i].F Ts[i].p := fun hx => by have := hd.cF _ hx; rw [hd.cp] at this; omega
    have hy : ¬ Ts[i].F Ts[i].y := fun hx => by have := hd.cF _ hx; rw [hd.cy] at this; omega
    have hvl : ∀ x, Ts[i].v.ownBlock = some x → x < w.heap.size := fun x hx => hd.ref.2.2.1.lt hx
    have hby := hc.block Ts[i].y hyl hy
    refine ⟨hc.block.cell hp hd.c0, hc.block.cell hp hd.c1, (paint_lt hpl).trans hd.cp, hT, fun x hx => ?_, ⟨hc.block.cell hy hd.ref.1, (OnlyAt.of_block hby 0).2.trans hd.ref.2.1, hd.ref.2.2.1.same fun x hx => hc.block x (hvl x hx) fun hx' => ?_, hd.ref.2.2.2⟩, ⟨(OnlyAt.of_block hby 1).1.trans hd.one.1, (OnlyAt.of_block hby 3).1.trans hd.one.2⟩, (paint_lt hyl).trans hd.cy, fun x hx => (paint_lt (hvl x hx)).trans (hd.cv x hx)⟩
    · by_cases hl : x < w.heap.size
      · rw [paint_lt hl]
        rcases hF x hx with h1 | h1
        · exact hd.cF x h1
        · omega
      · exact paint_ge (by omega)
    · have e1 := hd.cF x hx'
      rw [hd.cv x hx] at e1
      omega
  · rw [List.getElem_set_ne hji]
    exact (h.tab j hj).keep hc hX (fun x hx _ => by rw [hd.cF x hx]; omega) (fun x hx _ => paint_lt hx)
/-- A call of the document's. -/
theorem LW.refStep (h : LW w wb tv sv kv n Ts Ks col) {i : Nat} (hi : i < Ts.length) {v' : Value} {rs' : List Rl} (hR : RefAt 1 w' Ts[i].y 0 v' rs') (hv : ∀ x, v'.ownBlock = some x → Ts[i].v.ownBlock = some x ∨ w.heap.size ≤ x) (hc : Chg (fun b => b = Ts[i].y ∨ Ts[i].v.ownBlock = some b) w w') (ho : OnlyAt w w' Ts[i].y 0) : LW w' wb tv sv kv n (Ts.set i { Ts[i] with v := v', rs := rs' }) Ks (paint col w.heap.size (3 * i + 6)) := by
  have hd := h.tab i hi
  obtain ⟨a, cap, g, hvv, _⟩ := hd.ref.slice
  have hX : ∀ x, (x = Ts[i].y ∨ Ts[i].v.ownBlock = some x) → Far w x := fun x hx => by
    rcases hx with rfl | hx
    · exact far_one (hd.ref.1.trans (by rw [hvv])) hd.one.1 hd.one.2 h.laid
    · exact far_rules hd.ref.2.2.1 hx
  have hC : ∀ x, (x = Ts[i].y ∨ Ts[i].v.ownBlock = some x) → col x = 3 * i + 6 := fun x hx => by
    rcases hx with rfl | hx
    · exact hd.cy
    · exact hd.cv x hx
  refine h.keep hc hX (fun x hx _ => by rw [hC x hx]; omega) (fun x hx _ => paint_lt hx) (map_set_same _ hi rfl) fun j hj => ?_
  rw [List.length_set] at hj
  by_cases hji : i = j
  · subst hji
    rw [List.getElem_set_self]
    have hpl : Ts[i].p < w.heap.size := block_lt_of_cell hd.c0
    have hyl : Ts[i].y < w.heap.size := block_lt_of_cell hd.ref.1
    have hp : ¬ (Ts[i].p = Ts[i].y ∨ Ts[i].v.ownBlock = some Ts[i].p) := fun hx => by have := hC _ hx; rw [hd.cp] at this; omega
    refine ⟨hc.block.cell hp hd.c0, hc.block.cell hp hd.c1, (paint_lt hpl).trans hd.cp, hd.tab.far hc hX fun x hf hx => ?_, fun x hx => (paint_lt (hd.tab.lt hx)).trans (hd.cF x hx), hR, ⟨(ho 1 (by decide)).1.trans hd.one.1, (ho 3 (by decide)).1.trans hd.one.2⟩, (paint_lt hyl).trans hd.cy, fun x hx => ?_⟩
    · have e1 := hC x hx
      rw [hd.cF x hf] at e1
      omega
    · by_cases hl : x < w.heap.size
      · rw [paint_lt hl]
        rcases hv x hx with h1 | h1
        · exact hd.cv x h1
        · omega
      · exact paint_ge (by omega)
  · rw [List.getElem_set_ne hji]
    exact (h.tab j hj).keep hc hX (fun x hx _ => by rw [hC x hx]; omega) (fun x hx _ => paint_lt hx)
end
end Go.Proofs.YtnjalelblbjfiaaGreatDoor

namespace Go.Proofs.YtnjalelblbjfiaaGreatDoor
open Go.RowKit
open Go.Sort (grow)
theorem underMatch5' : Tryz.prog.underlying 35 = some (.array 5 34) := by kernel_rfl
set_option maxRecDepth 100000 in
set_option maxHeartbeats 2000000 in
theorem eqMatch5 (d : Nat) (r : Rl) (w : World) : (Op.equalIn (d + 3) 35 (.agg #[.int .i64 r.k0, .int .i64 r.v0, .int .i64 r.m0, .int .i64 r.k1, .int .i64 r.v1, .int .i64 r.m1, .int .i64 r.k2, .int .i64 r.v2, .int .i64 r.m2, .int .i64 r.k3, .int .i64 r.v3, .int .i64 r.m3, .int .i64 r.k4, .int .i64 r.v4, .int .i64 r.m4]) (.agg #[.int .i64 r.k0, .int .i64 r.v0, .int .i64 r.m0, .int .i64 r.k1, .int .i64 r.v1, .int .i64 r.m1, .int .i64 r.k2, .int .i64 r.v2, .int .i64 r.m2, .int .i64 r.k3, .int .i64 r.v3, .int .i64 r.m3, .int .i64 r.k4, .int .i64 r.v4, .int .i64 r.m4])).run Tryz.prog w = .ok true w := by
  obtain ⟨i, hi⟩ : ∃ i, Tryz.prog.info? 34 = some i := by
    cases h : Tryz.prog.info? 34 with
    | none => exact absurd (show (Tryz.prog.info? 34).isSome = true by kernel_rfl) (by rw [h]; simp)
    | some i => exact ⟨i, rfl⟩
  have hc : Tryz.prog.cellsOf 34 = 3 := by kernel_rfl
  have hr : List.range 5 = [0, 1, 2, 3, 4] := rfl
  rw [run_equalIn_array w (d + 2) _ _ underMatch5' hi, hc, hr]
  simp [go_sem, Op.eqItems]
set_option maxRecDepth 100000 in
set_option maxHeartbeats 2000000 in
theorem neqRule1 (r : Rl) (w : World) : (binOp .neq 37 (.agg #[.int .i64 r.id, .int .i64 r.pr, .int .i64 r.k0, .int .i64 r.v0, .int .i64 r.m0, .int .i64 r.k1, .int .i64 r.v1, .int .i64 r.m1, .int .i64 r.k2, .int .i64 r.v2, .int .i64 r.m2, .int .i64 r.k3, .int .i64 r.v3, .int .i64 r.m3, .int .i64 r.k4, .int .i64 r.v4, .int .i64 r.m4, .int .i64 r.ac, .int .i64 r.po]) (.agg #[.int .i64 r.id, .int .i64 r.pr, .int .i64 r.k0, .int .i64 r.v0, .int .i64 r.m0, .int .i64 r.k1, .int .i64 r.v1, .int .i64 r.m1, .int .i64 r.k2, .int .i64 r.v2, .int .i64 r.m2, .int .i64 r.k3, .int .i64 r.v3, .int .i64 r.m3, .int .i64 r.k4, .int .i64 r.v4, .int .i64 r.m4, .int .i64 r.ac, .int .i64 r.po])).run Tryz.prog w = .ok (.bool false) w := by
  have h := eqMatch5 9996 r
  simp [go_sem, h]
set_option maxRecDepth 100000 in
set_option maxHeartbeats 2000000 in
theorem eqlRule1 (r : Rl) (w : World) : (binOp .eql 37 (.agg #[.int .i64 r.id, .int .i64 r.pr, .int .i64 r.k0, .int .i64 r.v0, .int .i64 r.m0, .int .i64 r.k1, .int .i64 r.v1, .int .i64 r.m1, .int .i64 r.k2, .int .i64 r.v2, .int .i64 r.m2, .int .i64 r.k3, .int .i64 r.v3, .int .i64 r.m3, .int .i64 r.k4, .int .i64 r.v4, .int .i64 r.m4, .int .i64 r.ac, .int .i64 r.po]) (.agg #[.int .i64 r.id, .int .i64 r.pr, .int .i64 r.k0, .int .i64 r.v0, .int .i64 r.m0, .int .i64 r.k1, .int .i64 r.v1, .int .i64 r.m1, .int .i64 r.k2, .int .i64 r.v2, .int .i64 r.m2, .int .i64 r.k3, .int .i64 r.v3, .int .i64 r.m3, .int .i64 r.k4, .int .i64 r.v4, .int .i64 r.m4, .int .i64 r.ac, .int .i64 r.po])).run Tryz.prog w = .ok (.bool true) w := by
  have h := eqMatch5 9996 r
  simp [go_sem, h]
theorem neqMarkR (n : Int) (w : World) : (binOp .neq 37 (.agg #[.int .i64 n, .int .i64 0, .int .i64 0, .int .i64 0, .int .i64 0, .int .i64 0, .int .i64 0, .int .i64 0, .int .i64 0, .int .i64 0, .int .i64 0, .int .i64 0, .int .i64 0, .int .i64 0, .int .i64 0, .int .i64 0, .int .i64 0, .int .i64 0, .int .i64 0]) (.agg #[.int .i64 n, .int .i64 0, .int .i64 0, .int .i64 0, .int .i64 0, .int .i64 0, .int .i64 0, .int .i64 0, .int .i64 0, .int .i64 0, .int .i64 0, .int .i64 0, .int .i64 0, .int .i64 0, .int .i64 0, .int .i64 0, .int .i64 0, .int .i64 0, .int .i64 0])).run Tryz.prog w = .ok (.bool false) w := neqRule1 ⟨n, 0, 0, 0, 0, 0, 0, 0, 0, 0, 0, 0, 0, 0, 0, 0, 0, 0, 0⟩ w
theorem neqMarkO (n : Int) (w : World) : (binOp .neq 66 (.agg #[.int .i64 n, .string ⟨#[]⟩]) (.agg #[.int .i64 n, .string ⟨#[]⟩])).run Tryz.prog w = .ok (.bool false) w := by
  simp [go_sem]
theorem neqMarkM (n : Int) (w : World) : (binOp .neq 68 (.agg #[.int .i64 0, .string ⟨#[]⟩, .int .i64 n, .int .i64 0]) (.agg #[.int .i64 0, .string ⟨#[]⟩, .int .i64 n, .int .i64 0])).run Tryz.prog w = .ok (.bool false) w := by
  simp [go_sem]
end Go.Proofs.YtnjalelblbjfiaaGreatDoor

namespace Go.Proofs.YtnjalelblbjfiaaGreatDoor
open Go.RowKit
open Go.Sort (grow)

theorem rowK_length (Ks : List KeptD) : (rowK Ks).length = Ks.length * 5 := by
  induction Ks with
  | nil => rfl
  | cons e t ih =>
    have : rowK (e :: t) = e.cells ++ rowK t := rfl
    rw [this, List.length_append, ih, List.length_cons]
    show 5 + t.length * 5 = _
    omega
theorem rowK_append (a b : List KeptD) : rowK (a ++ b) = rowK a ++ rowK b := List.flatMap_append
theorem rowK_get : ∀ (Ks : List KeptD) (k : Nat) (hk : k < Ks.length) (j : Nat), j < 5 → (rowK Ks)[k * 5 + j]? = Ks[k].cells[j]?
  | [], k, hk, _, _ => absurd hk (by simp)
  | e :: t, k, hk, j, hj => by
    have h : rowK (e :: t) = e.cells ++ rowK t := rfl
    have hl : e.cells.length = 5 := rfl
    rw [h]
    match k, hk with
    | 0, _ => rw [List.getElem?_append_left (by rw [hl]; omega)]; simp
    | k + 1, hk =>
      rw [List.getElem?_append_right (by rw [hl]; omega), hl, show (k + 1) * 5 + j - 5 = k * 5 + j by omega, rowK_get t k (by simpa using hk) j hj]
      rfl
theorem RowIs.kept {w : World} {kv : Value} {Ks : List KeptD} (h : RowIs w 78 5 kv Ks.length (rowK Ks)) : ∃ a cap g, kv = .slice a Ks.length cap ∧ ∀ k (hk : k < Ks.length), a = some ⟨g, 0, none⟩ ∧ w.rangeAt g (k * 5) (Ks[k]).cells := by
  rcases h.1.2 with ⟨hv, h0⟩ | ⟨g, cap, cur, hv, _⟩
  · exact ⟨none, 0, 0, by rw [hv, h0], fun j hj => by omega⟩
  · refine ⟨_, cap, g, hv, fun k hk => ⟨rfl, fun j u hu => ?_⟩⟩
    have ho := h.1
    rw [hv] at ho
    have hj : j < 5 := (List.getElem?_eq_some_iff.1 hu).1
    rw [ho.cellAt _ (by omega), rowK_get Ks k hk j hj]
    exact hu
attribute [local go_sem] cell?_regrown neqMarkO neqMarkM
attribute [local go_sem ↓ high] neqMarkR

set_option maxRecDepth 100000 in
set_option maxHeartbeats 2000000 in
theorem lstill_any (w : World) (wb : Nat) (tv sv kv : Value) (n : Nat) (Ts : List TabD) (Ks : List KeptD) (col : Nat → Nat) (h : LW w wb tv sv kv n Ts Ks col) (hn : Ks.length ≤ 1000000000) :
    Calls Tryz.prog 11 #[.pointer (some ⟨wb, 0, none⟩)] w fun e w' => e = .returned (.bool true) ∧ Below w.heap.size w w' := by
  obtain ⟨dr, hur, hdr⟩ := underRule
  obtain ⟨a, cap, g, rfl, hrow⟩ := h.rK.kept
  have h3 := h.c3
  have hwl : wb < w.heap.size := block_lt_of_cell h3
  have HH := hide h
  have HROW := hide hrow
  clear h hrow
  go_enter Tryz.func11, Tryz.ntmps11
  go_wp2_with fail
  go_loopw [3] (fun i wr => ∃ k : Nat, k ≤ Ks.length ∧ i = .int .i64 k ∧ Below w.heap.size w wr) (fun i _ => Ks.length - (intOf i).toNat)
  case atStart => exact ⟨0, by omega, rfl, Below.refl _ _⟩
  case round =>
    obtain ⟨k, hk, rfl, hb⟩ := hrel
    have k3 := cell_later hb h3
    have hwl' : wb < wr.heap.size := block_lt_of_cell k3
    have HB := hide hb
    by_cases hlt : k < Ks.length
    · obtain ⟨K, hK⟩ : ∃ K, K = Ks[k] := ⟨_, rfl⟩
      obtain ⟨rfl, hr⟩ := HROW.out k hlt
      rw [← hK] at hr
      have ok : K.Ok wr col := (HH.out.kept K (by rw [hK]; exact List.getElem_mem hlt)).keep (X := fun _ => False) (Chg.of_below hb) (fun _ hx => hx.elim) (fun _ _ _ => rfl)
      have hr' : wr.rangeAt g (k * 5) K.cells := rangeAt_below hr hb
      obtain ⟨m, vr, vo, vm, vi⟩ := K
      have q0 : wr.cell? ⟨g, k * 5, none⟩ = some (.int .i64 m) := hr' 0 _ rfl
      have q1 : wr.cell? ⟨g, k * 5 + 1, none⟩ = some vr := hr' 1 _ rfl
      have q2 : wr.cell? ⟨g, k * 5 + 2, none⟩ = some vo := hr' 2 _ rfl
      have q3 : wr.cell? ⟨g, k * 5 + 3, none⟩ = some vm := hr' 3 _ rfl
      have q4 : wr.cell? ⟨g, k * 5 + 4, none⟩ = some vi := hr' 4 _ rfl
      have hgl : g < wr.heap.size := block_lt_of_cell q0
      have hki : (k : Int) < Ks.length := by omega
      have OK := hide ok
      clear ok hr hr' hb hK
      obtain ⟨ar, lr, cr, rfl, hlr, hfr⟩ := OK.out.r
      obtain ⟨ao, lo, co, rfl, hlo, hfo⟩ := OK.out.o
      obtain ⟨am, lm, cm, rfl, hlm, hfm⟩ := OK.out.m
      obtain ⟨ai, li, ci, rfl, hli, hfi⟩ := OK.out.i
      have hm : m ≤ 1000000000 := OK.out.le
      have HFR := hide hfr
      have HFO := hide hfo
      have HFM := hide hfm
      have HFI := hide hfi
      clear OK hfr hfo hfm hfi
      --LOOPS
      obtain ⟨Wk, hWk⟩ : ∃ Wk, Wk = wr.alloc (.cells #[.int .i64 m, .slice ar lr cr, .slice ao lo co, .slice am lm cm, .slice ai li ci] 78) := ⟨_, rfl⟩
      have hbk : Below wr.heap.size wr Wk := by rw [hWk]; exact (Below.refl _ wr).alloc (Nat.le_refl _) _
      obtain ⟨bk, hbe⟩ : ∃ bk, bk = wr.heap.size := ⟨_, rfl⟩
      have hnk : Wk.rangeAt bk 0 [.int .i64 m, .slice ar lr cr, .slice ao lo co, .slice am lm cm, .slice ai li ci] := by rw [hWk, hbe]; exact range_new _ _ _
      have p0 : Wk.cell? ⟨bk, 0, none⟩ = some (.int .i64 m) := hnk 0 _ rfl
      have p1 : Wk.cell? ⟨bk, 1, none⟩ = some (.slice ar lr cr) := hnk 1 _ rfl
      have p2 : Wk.cell? ⟨bk, 2, none⟩ = some (.slice ao lo co) := hnk 2 _ rfl
      have p3 : Wk.cell? ⟨bk, 3, none⟩ = some (.slice am lm cm) := hnk 3 _ rfl
      have p4 : Wk.cell? ⟨bk, 4, none⟩ = some (.slice ai li ci) := hnk 4 _ rfl
      have hwm : IntKind.i64.wrap (-(m : Int)) = -(m : Int) := by rw [IntKind.wrap_i64]; omega
      have HBK := hide hbk
      have HBW := hide (HB.out.trans (hbk.mono HB.out.size))
      have P0 := hide p0
      have P1 := hide p1
      have P2 := hide p2
      have P3 := hide p3
      have P4 := hide p4
      go_wp2_with fail
      rw [← hWk, ← hbe]
      clear hWk hbe hnk hbk p0 p1 p2 p3 p4 q0 q1 q2 q3 q4 k3 hwl' hgl
      go_loopw [5] (fun i W => ∃ j : Nat, j ≤ lr ∧ i = .int .i64 j ∧ Below Wk.heap.size Wk W) (fun i _ => lr - (intOf i).toNat)
      case atStart => exact ⟨0, by omega, rfl, Below.refl _ _⟩
      case round =>
        obtain ⟨j, hj, rfl, hbj⟩ := hrel
        have e0 := cell_later hbj P0.out
        have e1 := cell_later hbj P1.out
        have hbl : bk < wr.heap.size := block_lt_of_cell e0
        have HBJ1 := hide hbj
        clear hbj
        by_cases hjl : j < lr
        · obtain ⟨gr, rfl, -, hgr, hrr⟩ := HFR.out j hjl
          have hrr' : wr.rangeAt gr (j * 19) [.int .i64 (-(m : Int)), .int .i64 0, .int .i64 0, .int .i64 0, .int .i64 0, .int .i64 0, .int .i64 0, .int .i64 0, .int .i64 0, .int .i64 0, .int .i64 0, .int .i64 0, .int .i64 0, .int .i64 0, .int .i64 0, .int .i64 0, .int .i64 0, .int .i64 0, .int .i64 0] := rangeAt_below (rangeAt_below hrr HBK.out) HBJ1.out
          have hgl : gr < wr.heap.size := by have := HBK.out.size; have := HBJ1.out.size; omega
          have hji : (j : Int) < lr := by omega
          clear hrr
          go_wp2_with fail
          refine wp_region_quiet_below (by kernel_rfl) (by kernel_rfl) ?_
          repeat (first | (refine wpQuiet_load_mid rfl 37 _ rfl gr (j * 19) rfl [.int .i64 (-(m : Int)), .int .i64 0, .int .i64 0, .int .i64 0, .int .i64 0, .int .i64 0, .int .i64 0, .int .i64 0, .int .i64 0, .int .i64 0, .int .i64 0, .int .i64 0, .int .i64 0, .int .i64 0, .int .i64 0, .int .i64 0, .int .i64 0, .int .i64 0, .int .i64 0] dr (fun w' h => range_regrown hrr' h) hur hdr sizeRule ?_) | quiet_step (fail))
          refine wpQuiet_nil ?_; intro wq hwq; replace hwq := below_of_regrown hwq; obtain ⟨hcq, hfq⟩ := bcell hwq; have hzq := hwq.size
          have HQ := hide hwq
          clear hwq hcq hfq hzq e0 e1
          go_wp2_with fail
          go_roundw
          case rel => exact ⟨j + 1, by omega, by go_num, HBJ1.out.trans (HQ.out.mono HBJ1.out.size)⟩
          case measure => simp [intOf]; omega
        · have hji : ¬ (j : Int) < lr := by omega
          have HJ := hide hj
          clear hj
          go_wp2_with fail
          go_loopw [6] (fun i W => ∃ j : Nat, j ≤ lo ∧ i = .int .i64 j ∧ Below Wk.heap.size Wk W) (fun i _ => lo - (intOf i).toNat)
          case atStart => exact ⟨0, by omega, rfl, HBJ1.out⟩
          case round =>
            obtain ⟨j, hj, rfl, hbj⟩ := hrel
            have e0 := cell_later hbj P0.out
            have e2 := cell_later hbj P2.out
            have hbl : bk < wr.heap.size := block_lt_of_cell e0
            have HBJ2 := hide hbj
            clear hbj
            by_cases hjl : j < lo
            · obtain ⟨gr, rfl, -, hgr, hrr⟩ := HFO.out j hjl
              have hrr' : wr.rangeAt gr (j * 2) [.int .i64 (-(m : Int)), .string ⟨#[]⟩] := rangeAt_below (rangeAt_below hrr HBK.out) HBJ2.out
              have hgl : gr < wr.heap.size := by have := HBK.out.size; have := HBJ2.out.size; omega
              have hji : (j : Int) < lo := by omega
              clear hrr
              have r0 : wr.cell? ⟨gr, j * 2, none⟩ = some (.int .i64 (-(m : Int))) := hrr' 0 _ rfl
              have r1 : wr.cell? ⟨gr, j * 2 + 1, none⟩ = some (.string ⟨#[]⟩) := hrr' 1 _ rfl
              go_wp2_with fail
              refine wp_region_quiet_below (by kernel_rfl) (by kernel_rfl) ?_
              repeat (quiet_step (fail))
              refine wpQuiet_nil ?_; intro wq hwq; replace hwq := below_of_regrown hwq; obtain ⟨hcq, hfq⟩ := bcell hwq; have hzq := hwq.size
              have HQ := hide hwq
              clear hwq hcq hfq hzq e0 e2
              go_wp2_with fail
              go_roundw
              case rel => exact ⟨j + 1, by omega, by go_num, HBJ2.out.trans (HQ.out.mono HBJ2.out.size)⟩
              case measure => simp [intOf]; omega
            · have hji : ¬ (j : Int) < lo := by omega
              have HJ := hide hj
              clear hj
              go_wp2_with fail
              go_loopw [7] (fun i W => ∃ j : Nat, j ≤ lm ∧ i = .int .i64 j ∧ Below Wk.heap.size Wk W) (fun i _ => lm - (intOf i).toNat)
              case atStart => exact ⟨0, by omega, rfl, HBJ2.out⟩
              case round =>
                obtain ⟨j, hj, rfl, hbj⟩ := hrel
                have e0 := cell_later hbj P0.out
                have e3 := cell_later hbj P3.out
                have hbl : bk < wr.heap.size := block_lt_of_cell e0
                have HBJ3 := hide hbj
                clear hbj
                by_cases hjl : j < lm
                · obtain ⟨gr, rfl, -, hgr, hrr⟩ := HFM.out j hjl
                  have hrr' : wr.rangeAt gr (j * 4) [.int .i64 0, .string ⟨#[]⟩, .int .i64 (-(m : Int)), .int .i64 0] := rangeAt_below (rangeAt_below hrr HBK.out) HBJ3.out
                  have hgl : gr < wr.heap.size := by have := HBK.out.size; have := HBJ3.out.size; omega
                  have hji : (j : Int) < lm := by omega
                  clear hrr
                  have r0 : wr.cell? ⟨gr, j * 4, none⟩ = some (.int .i64 0) := hrr' 0 _ rfl
                  have r1 : wr.cell? ⟨gr, j * 4 + 1, none⟩ = some (.string ⟨#[]⟩) := hrr' 1 _ rfl
                  have r2 : wr.cell? ⟨gr, j * 4 + 2, none⟩ = some (.int .i64 (-(m : Int))) := hrr' 2 _ rfl
                  have r3 : wr.cell? ⟨gr, j * 4 + 3, none⟩ = some (.int .i64 0) := hrr' 3 _ rfl
                  go_wp2_with fail
                  refine wp_region_quiet_below (by kernel_rfl) (by kernel_rfl) ?_
                  repeat (quiet_step (fail))
                  refine wpQuiet_nil ?_; intro wq hwq; replace hwq := below_of_regrown hwq; obtain ⟨hcq, hfq⟩ := bcell hwq; have hzq := hwq.size
                  have HQ := hide hwq
                  clear hwq hcq hfq hzq e0 e3
                  go_wp2_with fail
                  go_roundw
                  case rel => exact ⟨j + 1, by omega, by go_num, HBJ3.out.trans (HQ.out.mono HBJ3.out.size)⟩
                  case measure => simp [intOf]; omega
                · have hji : ¬ (j : Int) < lm := by omega
                  have HJ := hide hj
                  clear hj
                  go_wp2_with fail
                  go_loopw [8] (fun i W => ∃ j : Nat, j ≤ li ∧ i = .int .i64 j ∧ Below Wk.heap.size Wk W) (fun i _ => li - (intOf i).toNat)
                  case atStart => exact ⟨0, by omega, rfl, HBJ3.out⟩
                  case round =>
                    obtain ⟨j, hj, rfl, hbj⟩ := hrel
                    have e0 := cell_later hbj P0.out
                    have e4 := cell_later hbj P4.out
                    have hbl : bk < wr.heap.size := block_lt_of_cell e0
                    have HBJ4 := hide hbj
                    clear hbj
                    by_cases hjl : j < li
                    · obtain ⟨gr, rfl, -, hgr, hrr⟩ := HFI.out j hjl
                      have hrr' : wr.rangeAt gr (j * 1) [.int .i64 (-(m : Int))] := rangeAt_below (rangeAt_below hrr HBK.out) HBJ4.out
                      have hgl : gr < wr.heap.size := by have := HBK.out.size; have := HBJ4.out.size; omega
                      have hji : (j : Int) < li := by omega
                      clear hrr
                      have r0 : wr.cell? ⟨gr, j, none⟩ = some (.int .i64 (-(m : Int))) := by have h := hrr' 0 _ rfl; rwa [Nat.mul_one, Nat.add_zero] at h
                      go_wp2_with fail
                      refine wp_region_quiet_below (by kernel_rfl) (by kernel_rfl) ?_
                      repeat (quiet_step (fail))
                      refine wpQuiet_nil ?_; intro wq hwq; replace hwq := below_of_regrown hwq; obtain ⟨hcq, hfq⟩ := bcell hwq; have hzq := hwq.size
                      have HQ := hide hwq
                      clear hwq hcq hfq hzq e0 e4
                      go_wp2_with fail
                      go_roundw
                      case rel => exact ⟨j + 1, by omega, by go_num, HBJ4.out.trans (HQ.out.mono HBJ4.out.size)⟩
                      case measure => simp [intOf]; omega
                    · have hji : ¬ (j : Int) < li := by omega
                      have HJ := hide hj
                      clear hj
                      go_wp2_with fail
                      go_roundw
                      case rel => exact ⟨k + 1, by omega, by go_num, HBW.out.trans (HBJ4.out.mono HBW.out.size)⟩
                      case measure => simp [intOf]; omega
    · have hki : ¬ (k : Int) < Ks.length := by omega
      go_wp2
      go_ret
      exact ⟨rfl, HB.out⟩
end Go.Proofs.YtnjalelblbjfiaaGreatDoor

namespace Go.Proofs.YtnjalelblbjfiaaGreatDoor
open Go.RowKit

/-- A mark, so many times. -/
def rep (M : List Value) : Nat → List Value
  | 0 => []
  | j + 1 => M ++ rep M j
theorem rep_length (M : List Value) : ∀ j, (rep M j).length = j * M.length
  | 0 => by simp [rep]
  | j + 1 => by rw [rep, List.length_append, rep_length M j, Nat.succ_mul]; omega
theorem rep_get (M : List Value) {s : Nat} (hs : M.length = s) : ∀ j k q, k < j → q < s → (rep M j)[k * s + q]? = M[q]?
  | 0, k, q, hk, _ => absurd hk (Nat.not_lt_zero k)
  | j + 1, 0, q, _, hq => by
    rw [rep, List.getElem?_append_left (by omega)]
    simp
  | j + 1, k + 1, q, hk, hq => by
    rw [rep, List.getElem?_append_right (by rw [hs, Nat.succ_mul]; omega), hs, show (k + 1) * s + q - s = k * s + q by rw [Nat.succ_mul]; omega]
    exact rep_get M hs j k q (by omega) hq
theorem rep_one {M : List Value} (h : ∀ u ∈ M, u.oneCell' = true) : ∀ j, ∀ u ∈ rep M j, u.oneCell' = true
  | 0, u, hu => by cases hu
  | j + 1, u, hu => (List.mem_append.1 hu).elim (h u) (rep_one h j u)
/-- A row into which marks are put behind the first ones. -/
theorem put_get {L M : List Value} {s len j : Nat} (hM : M.length = s) (hL : (len + j) * s ≤ L.length) (k q : Nat) (hq : q < s) : (L.take (len * s) ++ rep M j ++ L.drop (len * s + (rep M j).length))[k * s + q]? = if len ≤ k ∧ k < len + j then M[q]? else L[k * s + q]? := by
  have hr : (rep M j).length = j * s := by rw [rep_length, hM]
  have hls : len * s ≤ L.length := Nat.le_trans (Nat.mul_le_mul_right s (Nat.le_add_right len j)) hL
  have ht : (L.take (len * s)).length = len * s := by rw [List.length_take]; omega
  have htr : (L.take (len * s) ++ rep M j).length = (len + j) * s := by rw [List.length_append, ht, hr, Nat.add_mul]
  by_cases h1 : k < len
  · rw [if_neg (by omega)]
    have hk : k * s + q < len * s := by
      have : (k + 1) * s ≤ len * s := Nat.mul_le_mul_right s h1
      rw [Nat.succ_mul] at this
      omega
    rw [List.getElem?_append_left (by rw [htr, Nat.add_mul]; omega), List.getElem?_append_left (by omega), List.getElem?_take, if_pos hk]
  · by_cases h2 : k < len + j
    · rw [if_pos ⟨by omega, h2⟩]
      have hk : k * s + q < (len + j) * s := by
        have : (k + 1) * s ≤ (len + j) * s := Nat.mul_le_mul_right s h2
        rw [Nat.succ_mul] at this
        omega
      have hk0 : len * s ≤ k * s := Nat.mul_le_mul_right s (by omega)
      rw [List.getElem?_append_left (by rw [htr]; exact hk), List.getElem?_append_right (by omega), ht]
      have e : k * s + q - len * s = (k - len) * s + q := by rw [Nat.sub_mul]; omega
      rw [e]
      exact rep_get M hM j (k - len) q (by omega) hq
    · rw [if_neg (by omega)]
      have hk : (len + j) * s ≤ k * s := Nat.mul_le_mul_right s (by omega)
      rw [List.getElem?_append_right (by rw [htr]; omega), htr, hr, List.getElem?_drop]
      congr 1
      rw [Nat.add_mul] at hk ⊢
      omega
theorem cell_of_heap {w : World} {g o : Nat} {cs : Array Value} {t : TypeId} {fr : Nat × Nat} (h : w.heap[g]? = some (.cells cs t fr)) : w.cell? ⟨g, o, none⟩ = cs.toList[o]? := by
  simp [World.cell?, h]
/-- Marks put behind a list that is full of them: into its block, where there is room, or into a new one. -/
structure Marked (w w' : World) (e : TypeId) (s : Nat) (M : List Value) (g cap len : Nat) (v' : Value) (b : Nat) : Prop where
  out : ∃ cap', v' = .slice (some ⟨b, 0, none⟩) len cap'
  chg : Chg (fun x => x = g) w w'
  blk : b = g ∨ w.heap.size ≤ b
  lt : b < w'.heap.size
  own : ∃ cur, w'.heap[g]? = some (.cells cur e (0, 0)) ∧ cur.size = cap * s
  full : ∀ k, k < len → w'.rangeAt b (k * s) M
  still : ∀ k, w.rangeAt g (k * s) M → w'.rangeAt g (k * s) M
theorem append_marks {P : Program} {w : World} {t ty e : TypeId} {i : TypeInfo} {z : Value} {s bytes : Nat} (ht : P.underlying t = some (.slice e)) (hi : P.info? e = some i) (hz : i.zero = some z) (hsize : i.size = s) (hby : i.bytes = bytes)
    {M : List Value} (hM : M.length = s) (h1 : ∀ u ∈ M, u.oneCell' = true) {g cap len : Nat} {cur : Array Value} (hg : w.heap[g]? = some (.cells cur e (0, 0))) (hcs : cur.size = cap * s) (hlc : len ≤ cap) (hfull : ∀ k, k < len → w.rangeAt g (k * s) M) (j : Nat) {a : Addr} {c : Nat} (hnews : ∀ q u, (rep M j)[q]? = some u → w.cell? (a.add q) = some u) (_hj : 0 < j)
    (h63 : len + j ≤ maxLen) (hbytes : (len + j) * bytes ≤ 140737488355328) : ∃ v' w' b, (Builtin.append_ #[t, t] ty #[.slice (some ⟨g, 0, none⟩) len cap, .slice (some a) j c]).run P w = .ok v' w' ∧ Marked w w' e s M g cap (len + j) v' b := by
  subst hsize
  subst hby
  have hsmall : len + j ≤ 9223372036854775807 := by simp only [maxLen] at h63; omega
  have hgl : g < w.heap.size := (Array.getElem?_eq_some_iff.1 hg).1
  have hl : (rep M j).length = j * i.size := by rw [rep_length, hM]
  have hcl : cur.toList.length = cap * i.size := by rw [Array.length_toList, hcs]
  have hcur : ∀ k, k < len → ∀ q, q < i.size → cur.toList[k * i.size + q]? = M[q]? := fun k hk q hq => by
    have h := hfull k hk q M[q] (List.getElem?_eq_getElem (by omega))
    rw [cell_of_heap hg] at h
    rw [h, List.getElem?_eq_getElem (by omega)]
  by_cases hroom : len + j ≤ cap
  · have hfit : len * i.size + (rep M j).length ≤ cur.size := by rw [hl, hcs, ← Nat.add_mul]; exact Nat.mul_le_mul_right _ hroom
    have hr := run_append_room (P := P) w t ty e i ht hi g len cap cur hg a j c (rep M j) hl hnews (rep_one h1 j) hroom hfit
    have hL : (len + j) * i.size ≤ cur.toList.length := by rw [hcl]; exact Nat.mul_le_mul_right _ hroom
    have hh := setRow_heap w g cur (cur.toList.take (len * i.size) ++ rep M j ++ cur.toList.drop (len * i.size + (rep M j).length)).toArray e _ hg
    have hcell : ∀ k q, q < i.size → (w.setRow g (cur.toList.take (len * i.size) ++ rep M j ++ cur.toList.drop (len * i.size + (rep M j).length)).toArray).cell? ⟨g, k * i.size + q, none⟩ = if len ≤ k ∧ k < len + j then M[q]? else cur.toList[k * i.size + q]? := fun k q hq => by
      rw [cell_of_heap hh]
      exact put_get hM hL k q hq
    have hq : ∀ q u, M[q]? = some u → q < i.size := fun q u hu => by have := (List.getElem?_eq_some_iff.1 hu).1; omega
    refine ⟨_, _, g, hr, ⟨cap, rfl⟩, ⟨rfl, rfl, rfl, by simp, fun k _ hk => setRow_other w g k _ (fun e => hk e)⟩, .inl rfl, ?_, ⟨_, hh, ?_⟩, fun k hk q u hu => ?_, fun k hk q u hu => ?_⟩
    · exact (Array.getElem?_eq_some_iff.1 hh).1
    · simp only [List.size_toArray, List.length_append, List.length_take, List.length_drop, Array.length_toList]
      omega
    · rw [hcell k q (hq q u hu)]
      split
      · exact hu
      · rw [hcur k (by omega) q (hq q u hu)]; exact hu
    · rw [hcell k q (hq q u hu)]
      split
      · exact hu
      · have := hk q u hu
        rwa [cell_of_heap hg] at this
  · have hxs : (cur.toList.take (len * i.size)).length = len * i.size := by
      rw [List.length_take, hcl]
      exact Nat.min_eq_left (Nat.mul_le_mul_right _ hlc)
    have holds : ∀ q u, (cur.toList.take (len * i.size))[q]? = some u → w.cell? ((⟨g, 0, none⟩ : Addr).add q) = some u := fun q u hu => by
      rw [Addr.add_mid, Nat.zero_add, cell_of_heap hg]
      rw [List.getElem?_take] at hu
      split at hu
      · exact hu
      · cases hu
    have hr := run_append_grow (P := P) w t ty e i z ht hi hz ⟨g, 0, none⟩ len cap (cur.toList.take (len * i.size)) hxs holds a j c (rep M j) hl hnews (by omega) (by omega) (growslice_fits (by omega) hbytes)
    have hne : g ≠ w.heap.size := by omega
    refine ⟨_, _, w.heap.size, hr, ⟨_, rfl⟩, ⟨rfl, rfl, rfl, by simp, fun k hk _ => heap_alloc_old w.drew _ hk⟩, .inr (Nat.le_refl _), by simp, ⟨cur, (heap_alloc_old w.drew _ hgl).trans hg, hcs⟩, fun k hk q u hu => ?_, fun k hk q u hu => ?_⟩
    · have hq : q < i.size := by have := (List.getElem?_eq_some_iff.1 hu).1; omega
      refine (cell_of_heap (g := w.heap.size) (heap_alloc_new w.drew _)).trans ?_
      simp only [Array.toList_append, List.append_assoc]
      by_cases h2 : k < len
      · have hk2 : k * i.size + q < len * i.size := by
          have : (k + 1) * i.size ≤ len * i.size := Nat.mul_le_mul_right _ h2
          rw [Nat.succ_mul] at this
          omega
        rw [List.getElem?_append_left (by simpa [hxs] using hk2), List.toList_toArray, List.getElem?_take, if_pos hk2, hcur k h2 q hq]
        exact hu
      · have hk0 : len * i.size ≤ k * i.size := Nat.mul_le_mul_right _ (by omega)
        rw [List.getElem?_append_right (by rw [List.toList_toArray, hxs]; omega), List.toList_toArray, List.toList_toArray, hxs]
        have e1 : k * i.size + q - len * i.size = (k - len) * i.size + q := by rw [Nat.sub_mul]; omega
        have hk3 : (k - len) * i.size + q < j * i.size := by
          have : (k - len + 1) * i.size ≤ j * i.size := Nat.mul_le_mul_right _ (by omega)
          rw [Nat.succ_mul] at this
          omega
        rw [e1, List.getElem?_append_left (by rw [hl]; exact hk3), rep_get M hM j (k - len) q (by omega) hq]
        exact hu
    · have := hk q u hu
      rw [cell_of_heap hg] at this
      rw [cell_of_heap ((heap_alloc_old w.drew _ hgl).trans hg)]
      exact this
end Go.Proofs.YtnjalelblbjfiaaGreatDoor
