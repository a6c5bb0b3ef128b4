import Derived.Test.YtnjalelblbjfiaaGreatDoorP9
import Derived.Laws.CopyOwn
import Derived.Lib.AppendZerosOnto
import Derived.Lib.Overlaps
import Derived.Lib.AppendZeros
namespace Go.Proofs.YtnjalelblbjfiaaGreatDoor
open Go.RowKit

theorem Chg.drew {X : Nat → Prop} {a b : World} (h : Chg X a b) : Chg X a b.drew := ⟨h.os, h.tape, h.output, h.size, h.block⟩
theorem Chg.refl (X : Nat → Prop) (w : World) : Chg X w w := ⟨rfl, rfl, rfl, Nat.le_refl _, fun _ _ _ => rfl⟩
theorem Chg.setRow {X : Nat → Prop} {a b : World} {g : Nat} (h : Chg X a b) (hx : X g ∨ a.heap.size ≤ g) (cs : Array Value) : Chg X a (b.setRow g cs) :=
  ⟨h.os, h.tape, h.output, by rw [setRow_size]; exact h.size, fun k hk hX => (setRow_other b g k cs (by rintro rfl; rcases hx with hx | hx; exact hX hx; omega)).trans (h.block k hk hX)⟩
theorem Chg.alloc {X : Nat → Prop} {a b : World} (h : Chg X a b) (o : Obj) : Chg X a (b.alloc o) :=
  h.trans (Chg.of_below ((Below.refl _ b).alloc (Nat.le_refl _) o))
theorem Chg.grown {X : Nat → Prop} {w w' : World} {row : Option Nat} (h : w.grownBy w' row) (hX : ∀ k, row = some k → X k) : Chg X w w' :=
  ⟨h.os, h.tape, h.output, h.size, fun k hk hx => h.block k hk fun e => hx (hX k e.symm)⟩

/-- copy of elements of s cells each. -/
theorem run_copy_wide {P : Program} (w : World) (dT sT ty elem : TypeId) (s g o dLen dCap : Nat) (a : Addr) (sLen sCap : Nat) (cur : List Value) (t : TypeId) (cs : List Value) (k : Nat)
    (hu : P.underlying dT = some (.slice elem)) (hs : (P.info? elem).map (·.size) = some s)
    (hg : w.heap[g]? = some (.cells cur.toArray t (0, 0))) (hk : k = Nat.min sLen dLen) (hn : cs.length = k * s)
    (hsrc : ∀ j v, cs[j]? = some v → w.cell? (a.add j) = some v) (hfit : o + cs.length ≤ cur.length) (h1 : ∀ v ∈ cs, v.oneCell' = true) :
    (Builtin.copy_ #[dT, sT] ty #[.slice (some ⟨g, o, none⟩) dLen dCap, .slice (some a) sLen sCap]).run P w = .ok (goInt k) (w.setRow g (splice cur o cs).toArray) := by
  have hl := run_loadCells_list (P := P) w a cs hsrc
  have hst := run_storeCells_at P g o t cs 0 cur.toArray w hg (by simpa using hfit) h1
  rw [hn] at hl
  cases hq : P.info? elem with
  | none => simp [hq] at hs
  | some i =>
    have hi : i.size = s := by simpa [hq] using hs
    simp [Builtin.copy_, run_underlying hu, Builtin.lenOf, Builtin.firstCells, sizeOf, typeInfo, hq, hi, ← hk, hl, hst, splice]

theorem wpList_copy_wide {P : Program} {w : World} {ops : Array Oper} {rest : List Oper} {o : Oper} {a : Act} {Q : Exit → Act → World → Prop} (hgd : o.guard = none) (d x : Operand) (dT sT : TypeId)
    (ho : o.op = .call { callee := .builtin .copy, args := #[d, x], argTypes := #[dT, sT] }) (elem : TypeId) (s : Nat) (hu : P.underlying dT = some (.slice elem)) (hsz : (P.info? elem).map (·.size) = some s)
    (g off dLen dCap : Nat) (ad : Addr) (sLen sCap : Nat) (hd : a.eval d = .slice (some ⟨g, off, none⟩) dLen dCap) (hs : a.eval x = .slice (some ad) sLen sCap)
    (cur : List Value) (t : TypeId) (hg : w.heap[g]? = some (.cells cur.toArray t (0, 0))) (cs : List Value) (k : Nat) (hk : k = Nat.min sLen dLen) (hn : cs.length = k * s)
    (hsrc : ∀ j v, cs[j]? = some v → w.cell? (ad.add j) = some v) (hfit : off + cs.length ≤ cur.length) (h1 : ∀ v ∈ cs, v.oneCell' = true)
    (X : Nat → Prop) (w0 : World) (hc : Chg X w0 w) (hX : X g ∨ w0.heap.size ≤ g)
    (h : ∀ w', Hid (w'.heap[g]? = some (.cells (splice cur off cs).toArray t (0, 0))) → Hid (Chg X w0 w') → Hid (∀ k, k ≠ g → w'.heap[k]? = w.heap[k]?) → wpList P ops Q rest (a.put o.dst (goInt k)) w') : wpList P ops Q (o :: rest) a w := by
  refine wpList_plain hgd fun K hK => ?_
  have hrun := run_copy_wide (P := P) w dT sT o.type elem s g off dLen dCap ad sLen sCap cur t cs k hu hsz hg hk hn hsrc hfit h1
  unfold Oper.wp
  simp [execOp, ho, resolve, invoke, builtin, hd, hs, hrun, Result.andThen]
  exact hK _ _ (h _ (hide (setRow_heap w g _ _ t _ hg)) (hide (hc.setRow hX _)) (hide fun k hk => setRow_other w g k _ hk))

theorem step_copy_wide {P : Program} {ops : Array Oper} {o : Oper} {a : Act} {w : World} {K : Act → World → Prop} {Q : Exit → Act → World → Prop} {E : Prop} (hgd : o.guard = none) (d x : Operand) (dT sT : TypeId)
    (ho : o.op = .call { callee := .builtin .copy, args := #[d, x], argTypes := #[dT, sT] }) (elem : TypeId) (s : Nat) (hu : P.underlying dT = some (.slice elem)) (hsz : (P.info? elem).map (·.size) = some s)
    (g off dLen dCap : Nat) (ad : Addr) (sLen sCap : Nat) (hd : a.eval d = .slice (some ⟨g, off, none⟩) dLen dCap) (hs : a.eval x = .slice (some ad) sLen sCap)
    (cur : List Value) (t : TypeId) (hg : w.heap[g]? = some (.cells cur.toArray t (0, 0))) (cs : List Value) (k : Nat) (hk : k = Nat.min sLen dLen) (hn : cs.length = k * s)
    (hsrc : ∀ j v, cs[j]? = some v → w.cell? (ad.add j) = some v) (hfit : off + cs.length ≤ cur.length) (h1 : ∀ v ∈ cs, v.oneCell' = true)
    (X : Nat → Prop) (w0 : World) (hc : Chg X w0 w) (hX : X g ∨ w0.heap.size ≤ g)
    (h : ∀ w', Hid (w'.heap[g]? = some (.cells (splice cur off cs).toArray t (0, 0))) → Hid (Chg X w0 w') → Hid (∀ k, k ≠ g → w'.heap[k]? = w.heap[k]?) → K (a.put o.dst (goInt k)) w') :
    if Region.wanted o (yielded ops a.tmps) = true then Oper.wp P o a w K Q else E := by
  have hw : Region.wanted o (yielded ops a.tmps) = true := by simp [Region.wanted, hgd]
  rw [if_pos hw]
  have hrun := run_copy_wide (P := P) w dT sT o.type elem s g off dLen dCap ad sLen sCap cur t cs k hu hsz hg hk hn hsrc hfit h1
  unfold Oper.wp
  simp [execOp, ho, resolve, invoke, builtin, hd, hs, hrun, Result.andThen]
  exact h _ (hide (setRow_heap w g _ _ t _ hg)) (hide (hc.setRow hX _)) (hide fun k hk => setRow_other w g k _ hk)

theorem splice_get {α : Type} (L : List α) (o : Nat) (cs : List α) (h : o + cs.length ≤ L.length) (j : Nat) : (splice L o cs)[j]? = if j < o then L[j]? else if j < o + cs.length then cs[j - o]? else L[j]? := by
  unfold splice
  rw [List.getElem?_append]
  simp only [List.length_take, List.getElem?_take, List.getElem?_append, List.getElem?_drop]
  have : min o L.length = o := by omega
  rw [this]
  split
  · rfl
  · split
    · rename_i h1 h2
      rw [if_pos (by omega)]
    · rename_i h1 h2
      rw [if_neg (by omega)]
      congr 1
      omega

/-- The row behind an insertion in place: what stood from a on goes s cells on, then come the new ones. -/
theorem ins_room {α : Type} (L xs vs : List α) (a N s : Nat) (hx : L.take N = xs) (hl : xs.length = N) (hv : vs.length = s) (ha : a ≤ N) (hN : N + s ≤ L.length) :
    (splice (splice L (a + s) (xs.drop a)) a vs).take (N + s) = xs.take a ++ vs ++ xs.drop a := by
  have hd : (xs.drop a).length = N - a := by rw [List.length_drop, hl]
  have l1 : (splice L (a + s) (xs.drop a)).length = L.length := length_splice _ _ _ (by omega)
  have hxg : ∀ j, j < N → xs[j]? = L[j]? := fun j hj => by rw [← hx, List.getElem?_take, if_pos hj]
  apply List.ext_getElem?
  intro j
  rw [List.getElem?_take, splice_get _ _ _ (by omega), List.append_assoc, List.getElem?_append, List.getElem?_append, List.length_take, hl, hv, Nat.min_eq_left ha]
  by_cases h1 : j < a
  · rw [if_pos (by omega), if_pos h1, if_pos h1, splice_get _ _ _ (by omega), if_pos (by omega), List.getElem?_take, if_pos h1, hxg j (by omega)]
  · rw [if_neg h1, if_neg h1]
    by_cases h2 : j < a + s
    · rw [if_pos (by omega), if_pos (by omega), if_pos (by omega)]
    · by_cases h3 : j < N + s
      · rw [if_pos h3, if_neg (by omega), if_neg (by omega), splice_get _ _ _ (by omega), if_neg (by omega), if_pos (by omega)]
        congr 1
        omega
      · rw [if_neg h3, if_neg (by omega)]
        symm
        rw [List.getElem?_eq_none_iff]
        omega

theorem ins_grow {α : Type} (L xs vs : List α) (a N s : Nat) (hx : L.take a = xs.take a) (hl : xs.length = N) (hv : vs.length = s) (ha : a ≤ N) (hN : N + s ≤ L.length) :
    (splice (splice L a vs) (a + s) (xs.drop a)).take (N + s) = xs.take a ++ vs ++ xs.drop a := by
  have hd : (xs.drop a).length = N - a := by rw [List.length_drop, hl]
  have l1 : (splice L a vs).length = L.length := length_splice _ _ _ (by omega)
  apply List.ext_getElem?
  intro j
  rw [List.getElem?_take, splice_get _ _ _ (by omega), List.append_assoc, List.getElem?_append, List.getElem?_append, List.length_take, hl, hv, Nat.min_eq_left ha]
  by_cases h1 : j < a
  · rw [if_pos (by omega), if_pos (by omega), if_pos h1, splice_get _ _ _ (by omega), if_pos (by omega), ← hx, List.getElem?_take, if_pos h1]
  · rw [if_neg h1]
    by_cases h2 : j < a + s
    · rw [if_pos (by omega), if_pos (by omega), if_pos (by omega), splice_get _ _ _ (by omega), if_neg h1, if_pos (by omega)]
    · by_cases h3 : j < N + s
      · rw [if_pos h3, if_neg h2, if_pos (by omega), if_neg (by omega)]
        congr 1
        omega
      · rw [if_neg h3, if_neg (by omega)]
        symm
        rw [List.getElem?_eq_none_iff]
        omega

theorem cell_in_row {w : World} {g j : Nat} {cur : Array Value} {t : TypeId} {fr : Nat × Nat} {v : Value} (hg : w.heap[g]? = some (.cells cur t fr)) (h : cur.toList[j]? = some v) : w.cell? ⟨g, j, none⟩ = some v := by
  simp only [World.cell?, hg]
  simpa using h

/-- What slices.Insert of one element leaves. -/
def InsPost (e0 : TypeId) (s : Nat) (sv : Value) (n : Nat) (ys : List Value) (w : World) (e : Ending) (w' : World) : Prop :=
  ∃ g cap, e = .returned (.slice (some ⟨g, 0, none⟩) (n + 1) cap) ∧ w'.ownsRow 0 e0 s (.slice (some ⟨g, 0, none⟩) (n + 1) cap) (n + 1) ys ∧ (sv.ownBlock = some g ∨ w.heap.size ≤ g) ∧ Chg (fun b => sv.ownBlock = some b) w w'

end Go.Proofs.YtnjalelblbjfiaaGreatDoor

namespace Go.Proofs.YtnjalelblbjfiaaGreatDoor
open Go.RowKit

/-- The head of a map's array, if it has one. -/
def HeadI (w : World) (sv : Value) : Prop := ∀ g, sv.ownBlock = some g → ∃ n p, w.cell? ⟨g, 0, none⟩ = some (.int .i64 n) ∧ w.cell? ⟨g, 1, none⟩ = some (.pointer p)
def HeadR (w : World) (sv : Value) : Prop := ∀ g, sv.ownBlock = some g → ∃ n m p, w.cell? ⟨g, 0, none⟩ = some (.int .i64 n) ∧ w.cell? ⟨g, 1, none⟩ = some (.int .i64 m) ∧ w.cell? ⟨g, 2, none⟩ = some (.pointer p)

theorem pw_ins {α : Type} {R : α → α → Prop} {L : List α} (i : Nat) (e : α) (hs : L.Pairwise R) (h1 : ∀ a ∈ L.take i, R a e) (h2 : ∀ a ∈ L.drop i, R e a) : (L.take i ++ e :: L.drop i).Pairwise R := by
  have hs' := hs
  rw [← List.take_append_drop i L, List.pairwise_append] at hs'
  rw [List.pairwise_append]
  refine ⟨hs'.1, List.pairwise_cons.2 ⟨h2, hs'.2.1⟩, fun a ha b hb => ?_⟩
  rcases List.mem_cons.1 hb with rfl | hb
  · exact h1 a ha
  · exact hs'.2.2 a ha b hb
theorem mem_ins {α : Type} {L : List α} (i : Nat) (e x : α) : x ∈ L.take i ++ e :: L.drop i ↔ x = e ∨ x ∈ L := by
  have : x ∈ L ↔ x ∈ L.take i ∨ x ∈ L.drop i := by rw [← List.mem_append, List.take_append_drop]
  rw [this, List.mem_append, List.mem_cons]
  constructor
  · rintro (h | h | h)
    · exact .inr (.inl h)
    · exact .inl h
    · exact .inr (.inr h)
  · rintro (h | h | h)
    · exact .inr (.inl h)
    · exact .inl h
    · exact .inr (.inr h)
theorem length_ins {α : Type} {L : List α} {i : Nat} (e : α) (h : i ≤ L.length) : (L.take i ++ e :: L.drop i).length = L.length + 1 := by
  simp only [List.length_append, List.length_take, List.length_cons, List.length_drop]; omega

theorem ownsRow_same {w w' : World} {B : Nat} {t : TypeId} {s n : Nat} {sv : Value} {xs : List Value} (h : w.ownsRow B t s sv n xs) (hs : ∀ g, sv.ownBlock = some g → w'.heap[g]? = w.heap[g]?) : w'.ownsRow B t s sv n xs := by
  refine ⟨h.1, ?_⟩
  rcases h.2 with h | ⟨g, cap, cur, rfl, hb, hg, hr⟩
  · exact .inl h
  · exact .inr ⟨g, cap, cur, rfl, hb, (hs g rfl).trans hg, hr⟩

theorem Chg.setCell {X : Nat → Prop} {a b : World} {p : Addr} (h : Chg X a b) (hx : X p.block ∨ a.heap.size ≤ p.block) (v : Value) : Chg X a (b.setCell p v) :=
  ⟨h.os, h.tape, h.output, by rw [World.size_setCell]; exact h.size, fun k hk hX => (Below.heap_setCell _ _ _ _ (by intro e; rcases hx with hx | hx; exact hX (e ▸ hx); omega)).trans (h.block k hk hX)⟩

end Go.Proofs.YtnjalelblbjfiaaGreatDoor

namespace Go.Proofs.YtnjalelblbjfiaaGreatDoor
open Go.RowKit

theorem alloc_new (w : World) (o : Obj) : (w.alloc o).heap[w.heap.size]? = some o := by
  show (w.heap.push o)[w.heap.size]? = some o
  simp
theorem alloc_size (w : World) (o : Obj) : (w.alloc o).heap.size = w.heap.size + 1 := by
  show (w.heap.push o).size = _
  simp

end Go.Proofs.YtnjalelblbjfiaaGreatDoor

namespace Go.Proofs.YtnjalelblbjfiaaGreatDoor
open Go.RowKit

theorem HeadR.lt {w : World} {sv : Value} {g : Nat} (h : HeadR w sv) (hg : sv.ownBlock = some g) : g < w.heap.size := by
  obtain ⟨n, n', p, h0, _⟩ := h g hg
  exact block_lt_of_cell h0
theorem HeadI.lt {w : World} {sv : Value} {g : Nat} (h : HeadI w sv) (hg : sv.ownBlock = some g) : g < w.heap.size := by
  obtain ⟨n, p, h0, _⟩ := h g hg
  exact block_lt_of_cell h0
theorem HeadR.chg {w w' : World} {sv : Value} {X : Nat → Prop} (h : HeadR w sv) (hb : Chg X w w') (hX : ∀ g, sv.ownBlock = some g → ¬ X g) : HeadR w' sv := by
  intro g hg
  obtain ⟨n, n', p, h0, h1, h2⟩ := h g hg
  exact ⟨n, n', p, hb.block.cell (hX g hg) h0, hb.block.cell (hX g hg) h1, hb.block.cell (hX g hg) h2⟩
theorem HeadI.chg {w w' : World} {sv : Value} {X : Nat → Prop} (h : HeadI w sv) (hb : Chg X w w') (hX : ∀ g, sv.ownBlock = some g → ¬ X g) : HeadI w' sv := by
  intro g hg
  obtain ⟨n, p, h0, h1⟩ := h g hg
  exact ⟨n, p, hb.block.cell (hX g hg) h0, hb.block.cell (hX g hg) h1⟩
theorem MapR.chg {w w' : World} {m : Nat} {sv : Value} {L : List Ent} {X : Nat → Prop} (h : MapR w m sv L) (hh : HeadR w sv) (hb : Chg X w w') (hm : ¬ X m) (hX : ∀ g, sv.ownBlock = some g → ¬ X g) : MapR w' m sv L := by
  obtain ⟨h0, h1, h2, h3, h4⟩ := h
  exact ⟨hb.block.cell hm h0, hb.block.cell hm h1, ownsRow_same h2 fun g hg => hb.block g (hh.lt hg) (hX g hg), fun j => (World.frozen?_of_block (a := ⟨m, j, none⟩) (hb.block m (block_lt_of_cell h0) hm)).trans (h3 j), h4⟩
theorem MapI.chg {w w' : World} {m : Nat} {sv : Value} {L : List Ent} {X : Nat → Prop} (h : MapI w m sv L) (hh : HeadI w sv) (hb : Chg X w w') (hm : ¬ X m) (hX : ∀ g, sv.ownBlock = some g → ¬ X g) : MapI w' m sv L := by
  obtain ⟨h0, h1, h2, h3, h4⟩ := h
  exact ⟨hb.block.cell hm h0, hb.block.cell hm h1, ownsRow_same h2 fun g hg => hb.block g (hh.lt hg) (hX g hg), fun j => (World.frozen?_of_block (a := ⟨m, j, none⟩) (hb.block m (block_lt_of_cell h0) hm)).trans (h3 j), h4⟩

end Go.Proofs.YtnjalelblbjfiaaGreatDoor
