import Derived.Test.YtnjalelblbjfiaaGreatDoorP17
import Derived.Test.YtnjalelblbjfiaaGreatDoorRows
import Derived.WalkKit
import Derived.ProofKit
import Derived.OpenShut
import Derived.Deep.Slices
import Derived.SizedLaws
import Derived.Test.YtnjalelblbjfiaaGreatDoorP5
import Derived.Deep.RegionHeld3
import Derived.Maps.OwnSet
import Derived.RangeFuncNested
namespace Go.Proofs.YtnjalelblbjfiaaGreatDoor
open Go.RowKit

/-- Behind so many steps. -/
def TS (w : World) (wb : Nat) (sv : Value) (N : Nat) (col : Nat → Nat) : Prop := ∃ tv kv n Ts Ks, LW w wb tv sv kv n Ts Ks col ∧ Agree Ts ∧ n ≤ N ∧ Ks.length ≤ 4 * N ∧ Ts.length ≤ N
theorem underStep : ∃ d, Tryz.prog.underlying 41 = some d ∧ d.isRow = true := isRow_of (by kernel_rfl)
theorem sizeStep : (Tryz.prog.info? 41).map (·.size) = some 31 := by kernel_rfl
def xLoadS (v : Value) : Sem Value := Instr.loadAt 41 v
theorem xLoadS_fold (v : Value) : Instr.loadAt 41 v = xLoadS v := rfl
attribute [local go_sem ↓ high] xLoadS_fold

end Go.Proofs.YtnjalelblbjfiaaGreatDoor

namespace Go.Proofs.YtnjalelblbjfiaaGreatDoor
open Go.RowKit

/-- A step of a script. -/
structure StD where
  ki : Int
  oa : Int
  oN : Int
  oM : Int
  oK : Int
  oS : ByteArray
  la : Option Addr
  ll : Nat
  lc : Nat
  r : Rl
  x0 : Int
  x1 : Int
  x2 : Int
  x3 : Int
  x4 : Int
def stCells (ki oa oN oM oK : Int) (oS : ByteArray) (la : Option Addr) (ll lc : Nat) (r : Rl) (x0 x1 x2 x3 x4 : Int) : List Value := [.int .i64 ki, .int .i64 oa, .int .i64 oN, .int .i64 oM, .int .i64 oK, .string oS, .slice la ll lc, .int .i64 r.id, .int .i64 r.pr, .int .i64 r.k0, .int .i64 r.v0, .int .i64 r.m0, .int .i64 r.k1, .int .i64 r.v1, .int .i64 r.m1, .int .i64 r.k2, .int .i64 r.v2, .int .i64 r.m2, .int .i64 r.k3, .int .i64 r.v3, .int .i64 r.m3, .int .i64 r.k4, .int .i64 r.v4, .int .i64 r.m4, .int .i64 r.ac, .int .i64 r.po, .int .i64 x0, .int .i64 x1, .int .i64 x2, .int .i64 x3, .int .i64 x4]
def StD.cells (s : StD) : List Value := stCells s.ki s.oa s.oN s.oM s.oK s.oS s.la s.ll s.lc s.r s.x0 s.x1 s.x2 s.x3 s.x4
/-- All that was there is nobody's to change. -/
def Old (s : Nat) (col : Nat → Nat) : Prop := ∀ x, x < s → col x = 4
theorem TS.start (w : World) (hl : Laid w) : TS (w.alloc (.cells #[.slice none 0 0, .slice none 0 0, .int .i64 0, .slice none 0 0] 31)) w.heap.size (.slice none 0 0) 0 (fun x => if x = w.heap.size then 1 else 4) := by
  have hb : Below w.heap.size w (w.alloc (.cells #[.slice none 0 0, .slice none 0 0, .int .i64 0, .slice none 0 0] 31)) := (Below.refl _ w).alloc (Nat.le_refl _) _
  have hr : (w.alloc (.cells #[.slice none 0 0, .slice none 0 0, .int .i64 0, .slice none 0 0] 31)).rangeAt w.heap.size 0 [.slice none 0 0, .slice none 0 0, .int .i64 0, .slice none 0 0] := range_new _ _ _
  refine ⟨.slice none 0 0, .slice none 0 0, 0, [], [], ⟨hl.far (Chg.of_below (X := fun _ => False) hb).block (fun _ h => h.elim), hr 0 _ rfl, hr 1 _ rfl, hr 2 _ rfl, hr 3 _ rfl, ⟨_, _, _, rfl⟩, fun j => ?_, ⟨World.ownsRow_nil _ 1 44 1, fun _ => rfl⟩, ⟨World.ownsRow_nil _ 1 78 5, fun _ => rfl⟩, if_pos rfl, fun x hx => (by cases hx), fun x j u hx => (by cases hx), fun x hx => (by cases hx), fun i hi => (by cases hi), fun k hk => (by cases hk)⟩, fun d hd => (by cases hd), Nat.le_refl _, Nat.zero_le _, Nat.le_refl _⟩
  have hh := heap_alloc_new w (.cells #[.slice none 0 0, .slice none 0 0, .int .i64 0, .slice none 0 0] 31)
  show World.frozen? _ ⟨w.heap.size, j, none⟩ = false
  unfold World.frozen?
  rw [hh]
  simp
attribute [local go_sem ↓ high] xLoadS_fold

end Go.Proofs.YtnjalelblbjfiaaGreatDoor

namespace Go.Proofs.YtnjalelblbjfiaaGreatDoor
open Go.ChangeShapes Go.WideShapes Go.ChangeAt Go.RowKit

theorem cells1 : Tryz.prog.cellsOf 3 = 1 := by kernel_rfl
theorem cells2 : Tryz.prog.cellsOf 122 = 2 := by kernel_rfl
theorem cells3 : Tryz.prog.cellsOf 178 = 3 := by kernel_rfl
theorem cells15 : Tryz.prog.cellsOf 179 = 15 := by kernel_rfl
theorem cells5 : Tryz.prog.cellsOf 39 = 5 := by kernel_rfl
theorem cells3m : Tryz.prog.cellsOf 34 = 3 := by kernel_rfl
theorem cells15m : Tryz.prog.cellsOf 35 = 15 := by kernel_rfl
theorem cells19 : Tryz.prog.cellsOf 37 = 19 := by kernel_rfl
theorem cells31 : Tryz.prog.cellsOf 41 = 31 := by kernel_rfl
theorem cellsSt : Tryz.prog.cellsOf 9 = 1 := by kernel_rfl
theorem cellsSl : Tryz.prog.cellsOf 32 = 1 := by kernel_rfl
section
variable {H : Type} {enc : TypeId × Value → H} {w : World} {base : Nat} {spare : Nat → Bool} {held : Bool}

theorem trodI {fuel : Nat} {cs : List Value} {x : DataW H × List MemPlace} (h : DataW.trod enc Tryz.prog w base spare held fuel 3 cs = some x) : ∃ n, cs = [.int .i64 n] ∧ x.1 = .lit (.int .i64 n) ∧ -9223372036854775808 ≤ n ∧ n ≤ 9223372036854775807 := by
  obtain ⟨n, h1, h2, h3⟩ := DataW.trod_int Tryz.underlying3 h
  exact ⟨n, h1, by rw [h2], bounds_i64 h3⟩

theorem trodS {fuel : Nat} {cs : List Value} {x : DataW H × List MemPlace} (h : DataW.trod enc Tryz.prog w base spare held fuel 122 cs = some x) : ∃ b c : Int, cs = [.int .i64 b, .int .i64 c] ∧ x.1 = .agg [.lit (.int .i64 b), .lit (.int .i64 c)] := by
  obtain ⟨xs, m, rfl, rfl, hl, hx, hf⟩ := DataW.trod_struct Tryz.underlying122 h
  rw [cells2] at hl
  clear h
  have f0 : DataW.trod enc Tryz.prog w base spare held m 3 ((cs.drop 0).take (Tryz.prog.cellsOf 3)) = xs[0]? := hf 0 _ rfl
  have f1 : DataW.trod enc Tryz.prog w base spare held m 3 ((cs.drop 1).take (Tryz.prog.cellsOf 3)) = xs[1]? := hf 1 _ rfl
  rw [cells1] at f0 f1
  clear hf
  match cs, hl, xs, hx, f0, f1 with
  | [v0, v1], _, [x0, x1], _, f0, f1 =>
    obtain ⟨b, e0, d0, _⟩ := trodI (cs := [v0]) (x := x0) f0
    obtain ⟨c, e1, d1, _⟩ := trodI (cs := [v1]) (x := x1) f1
    cases e0; cases e1
    exact ⟨b, c, rfl, by simp [d0, d1]⟩
theorem trodF {fuel : Nat} {cs : List Value} {x : DataW H × List MemPlace} (h : DataW.trod enc Tryz.prog w base spare held fuel 178 cs = some x) : ∃ a b c : Int, cs = [.int .i64 a, .int .i64 b, .int .i64 c] ∧ x.1 = .agg [.lit (.int .i64 a), .agg [.lit (.int .i64 b), .lit (.int .i64 c)]] := by
  obtain ⟨xs, m, rfl, rfl, hl, hx, hf⟩ := DataW.trod_struct Tryz.underlying178 h
  rw [cells3] at hl
  clear h
  have f0 : DataW.trod enc Tryz.prog w base spare held m 3 ((cs.drop 0).take (Tryz.prog.cellsOf 3)) = xs[0]? := hf 0 _ rfl
  have f1 : DataW.trod enc Tryz.prog w base spare held m 122 ((cs.drop 1).take (Tryz.prog.cellsOf 122)) = xs[1]? := hf 1 _ rfl
  rw [cells1] at f0
  rw [cells2] at f1
  clear hf
  match cs, hl, xs, hx, f0, f1 with
  | [v0, v1, v2], _, [x0, x1], _, f0, f1 =>
    obtain ⟨a, e0, d0, _⟩ := trodI (cs := [v0]) (x := x0) f0
    obtain ⟨b, c, e1, d1⟩ := trodS (cs := [v1, v2]) (x := x1) f1
    cases e0; cases e1
    exact ⟨a, b, c, rfl, by simp [d0, d1]⟩
theorem trodFields {fuel : Nat} {cs : List Value} {p : List MemPlace} (h : DataW.trod enc Tryz.prog w base spare held fuel 179 cs = some (Rows.laid_portico_table_fields, p)) : cs = [.int .i64 32, .int .i64 0, .int .i64 4294967295, .int .i64 32, .int .i64 0, .int .i64 4294967295, .int .i64 8, .int .i64 0, .int .i64 255, .int .i64 16, .int .i64 0, .int .i64 65535, .int .i64 16, .int .i64 0, .int .i64 65535] := by
  obtain ⟨xs, m, rfl, hd, hl, hx, hf⟩ := DataW.trod_array Tryz.underlying179 h
  rw [cells15] at hl
  simp only [cells3] at hf
  have hd1 := congrArg Prod.fst hd
  clear h hd
  match cs, hl, xs, hx, hf, hd1 with
  | [v0, v1, v2, v3, v4, v5, v6, v7, v8, v9, v10, v11, v12, v13, v14], _, [x0, x1, x2, x3, x4], _, hf, hd1 =>
    obtain ⟨a0, b0, c0, e0, d0⟩ := trodF (cs := [v0, v1, v2]) (x := x0) (hf 0 (by omega))
    obtain ⟨a1, b1, c1, e1, d1⟩ := trodF (cs := [v3, v4, v5]) (x := x1) (hf 1 (by omega))
    obtain ⟨a2, b2, c2, e2, d2⟩ := trodF (cs := [v6, v7, v8]) (x := x2) (hf 2 (by omega))
    obtain ⟨a3, b3, c3, e3, d3⟩ := trodF (cs := [v9, v10, v11]) (x := x3) (hf 3 (by omega))
    obtain ⟨a4, b4, c4, e4, d4⟩ := trodF (cs := [v12, v13, v14]) (x := x4) (hf 4 (by omega))
    cases e0; cases e1; cases e2; cases e3; cases e4
    simp only [Rows.laid_portico_table_fields, List.map_cons, List.map_nil, d0, d1, d2, d3, d4, DataW.agg.injEq, List.cons.injEq, DataW.lit.injEq, Lit.int.injEq, true_and, and_true] at hd1
    obtain ⟨⟨rfl, rfl, rfl⟩, ⟨rfl, rfl, rfl⟩, ⟨rfl, rfl, rfl⟩, ⟨rfl, rfl, rfl⟩, rfl, rfl, rfl⟩ := hd1
    rfl
end

section
variable {H : Type} {enc : TypeId × Value → H} {w : World} {base : Nat} {spare : Nat → Bool} {held : Bool}
theorem trodMt {fuel : Nat} {cs : List Value} {x : DataW H × List MemPlace} (h : DataW.trod enc Tryz.prog w base spare held fuel 34 cs = some x) : ∃ a b c : Int, cs = [.int .i64 a, .int .i64 b, .int .i64 c] := by
  obtain ⟨xs, m, rfl, rfl, hl, hx, hf⟩ := DataW.trod_struct Tryz.underlying34 h
  rw [cells3m] at hl
  clear h
  have f0 : DataW.trod enc Tryz.prog w base spare held m 3 ((cs.drop 0).take (Tryz.prog.cellsOf 3)) = xs[0]? := hf 0 _ rfl
  have f1 : DataW.trod enc Tryz.prog w base spare held m 3 ((cs.drop 1).take (Tryz.prog.cellsOf 3)) = xs[1]? := hf 1 _ rfl
  have f2 : DataW.trod enc Tryz.prog w base spare held m 3 ((cs.drop 2).take (Tryz.prog.cellsOf 3)) = xs[2]? := hf 2 _ rfl
  rw [cells1] at f0 f1 f2
  clear hf
  match cs, hl, xs, hx, f0, f1, f2 with
  | [v0, v1, v2], _, [x0, x1, x2], _, f0, f1, f2 =>
    obtain ⟨a, e0, _, _⟩ := trodI (cs := [v0]) (x := x0) f0
    obtain ⟨b, e1, _, _⟩ := trodI (cs := [v1]) (x := x1) f1
    obtain ⟨c, e2, _, _⟩ := trodI (cs := [v2]) (x := x2) f2
    cases e0; cases e1; cases e2
    exact ⟨a, b, c, rfl⟩
theorem trodMt5 {fuel : Nat} {cs : List Value} {x : DataW H × List MemPlace} (h : DataW.trod enc Tryz.prog w base spare held fuel 35 cs = some x) : ∃ a0 b0 c0 a1 b1 c1 a2 b2 c2 a3 b3 c3 a4 b4 c4 : Int, cs = [.int .i64 a0, .int .i64 b0, .int .i64 c0, .int .i64 a1, .int .i64 b1, .int .i64 c1, .int .i64 a2, .int .i64 b2, .int .i64 c2, .int .i64 a3, .int .i64 b3, .int .i64 c3, .int .i64 a4, .int .i64 b4, .int .i64 c4] := by
  obtain ⟨xs, m, rfl, hd, hl, hx, hf⟩ := DataW.trod_array Tryz.underlying35 h
  rw [cells15m] at hl
  simp only [cells3m] at hf
  clear h hd
  match cs, hl, xs, hx, hf with
  | [v0, v1, v2, v3, v4, v5, v6, v7, v8, v9, v10, v11, v12, v13, v14], _, [x0, x1, x2, x3, x4], _, hf =>
    obtain ⟨a0, b0, c0, e0⟩ := trodMt (cs := [v0, v1, v2]) (x := x0) (hf 0 (by omega))
    obtain ⟨a1, b1, c1, e1⟩ := trodMt (cs := [v3, v4, v5]) (x := x1) (hf 1 (by omega))
    obtain ⟨a2, b2, c2, e2⟩ := trodMt (cs := [v6, v7, v8]) (x := x2) (hf 2 (by omega))
    obtain ⟨a3, b3, c3, e3⟩ := trodMt (cs := [v9, v10, v11]) (x := x3) (hf 3 (by omega))
    obtain ⟨a4, b4, c4, e4⟩ := trodMt (cs := [v12, v13, v14]) (x := x4) (hf 4 (by omega))
    cases e0; cases e1; cases e2; cases e3; cases e4
    exact ⟨_, _, _, _, _, _, _, _, _, _, _, _, _, _, _, rfl⟩
theorem trodRl {fuel : Nat} {cs : List Value} {x : DataW H × List MemPlace} (h : DataW.trod enc Tryz.prog w base spare held fuel 37 cs = some x) : ∃ r : Rl, cs = [.int .i64 r.id, .int .i64 r.pr, .int .i64 r.k0, .int .i64 r.v0, .int .i64 r.m0, .int .i64 r.k1, .int .i64 r.v1, .int .i64 r.m1, .int .i64 r.k2, .int .i64 r.v2, .int .i64 r.m2, .int .i64 r.k3, .int .i64 r.v3, .int .i64 r.m3, .int .i64 r.k4, .int .i64 r.v4, .int .i64 r.m4, .int .i64 r.ac, .int .i64 r.po] := by
  obtain ⟨xs, m, rfl, rfl, hl, hx, hf⟩ := DataW.trod_struct Tryz.underlying37 h
  rw [cells19] at hl
  clear h
  have f0 : DataW.trod enc Tryz.prog w base spare held m 3 ((cs.drop 0).take (Tryz.prog.cellsOf 3)) = xs[0]? := hf 0 _ rfl
  have f1 : DataW.trod enc Tryz.prog w base spare held m 3 ((cs.drop 1).take (Tryz.prog.cellsOf 3)) = xs[1]? := hf 1 _ rfl
  have f2 : DataW.trod enc Tryz.prog w base spare held m 35 ((cs.drop 2).take (Tryz.prog.cellsOf 35)) = xs[2]? := hf 2 _ rfl
  have f3 : DataW.trod enc Tryz.prog w base spare held m 3 ((cs.drop 17).take (Tryz.prog.cellsOf 3)) = xs[3]? := hf 3 _ rfl
  have f4 : DataW.trod enc Tryz.prog w base spare held m 3 ((cs.drop 18).take (Tryz.prog.cellsOf 3)) = xs[4]? := hf 4 _ rfl
  rw [cells1] at f0 f1 f3 f4
  rw [cells15m] at f2
  clear hf
  match cs, hl, xs, hx, f0, f1, f2, f3, f4 with
  | [v0, v1, v2, v3, v4, v5, v6, v7, v8, v9, v10, v11, v12, v13, v14, v15, v16, v17, v18], _, [x0, x1, x2, x3, x4], _, f0, f1, f2, f3, f4 =>
    obtain ⟨a, e0, _, _⟩ := trodI (cs := [v0]) (x := x0) f0
    obtain ⟨b, e1, _, _⟩ := trodI (cs := [v1]) (x := x1) f1
    obtain ⟨a0, b0, c0, a1, b1, c1, a2, b2, c2, a3, b3, c3, a4, b4, c4, e2⟩ := trodMt5 (cs := [v2, v3, v4, v5, v6, v7, v8, v9, v10, v11, v12, v13, v14, v15, v16]) (x := x2) f2
    obtain ⟨c, e3, _, _⟩ := trodI (cs := [v17]) (x := x3) f3
    obtain ⟨d, e4, _, _⟩ := trodI (cs := [v18]) (x := x4) f4
    cases e0; cases e1; cases e2; cases e3; cases e4
    exact ⟨⟨a, b, a0, b0, c0, a1, b1, c1, a2, b2, c2, a3, b3, c3, a4, b4, c4, c, d⟩, rfl⟩
theorem trodK {fuel : Nat} {cs : List Value} {x : DataW H × List MemPlace} (h : DataW.trod enc Tryz.prog w base spare held fuel 39 cs = some x) : ∃ n0 n1 n2 n3 n4 : Int, cs = [.int .i64 n0, .int .i64 n1, .int .i64 n2, .int .i64 n3, .int .i64 n4] := by
  obtain ⟨xs, m, rfl, rfl, hl, hx, hf⟩ := DataW.trod_array Tryz.underlying39 h
  rw [cells5] at hl
  simp only [cells1] at hf
  clear h
  match cs, hl, xs, hx, hf with
  | [v0, v1, v2, v3, v4], _, [x0, x1, x2, x3, x4], _, hf =>
    obtain ⟨n0, e0, _, _⟩ := trodI (cs := [v0]) (x := x0) (hf 0 (by omega))
    obtain ⟨n1, e1, _, _⟩ := trodI (cs := [v1]) (x := x1) (hf 1 (by omega))
    obtain ⟨n2, e2, _, _⟩ := trodI (cs := [v2]) (x := x2) (hf 2 (by omega))
    obtain ⟨n3, e3, _, _⟩ := trodI (cs := [v3]) (x := x3) (hf 3 (by omega))
    obtain ⟨n4, e4, _, _⟩ := trodI (cs := [v4]) (x := x4) (hf 4 (by omega))
    cases e0; cases e1; cases e2; cases e3; cases e4
    exact ⟨_, _, _, _, _, rfl⟩
end
theorem gFields : Tryz.prog.globalNamed "portico/table.fields" = some 0 := by kernel_rfl
theorem gFieldsType : (Tryz.prog.globals[0]?).map (·.type) = some 179 := by kernel_rfl

section
variable {H : Type} {enc : TypeId × Value → H} {W : World} {base : Nat} {v : Value} {d : DataW H} {p : List MemPlace}
end
end Go.Proofs.YtnjalelblbjfiaaGreatDoor

namespace Go.Proofs.YtnjalelblbjfiaaGreatDoor
open Go.RowKit Go.Maps

theorem ba_ext {a b : ByteArray} (h : a.toList = b.toList) : a = b := by
  rw [ByteArray.toList_eq, ByteArray.toList_eq] at h
  obtain ⟨⟨x⟩⟩ := a
  obtain ⟨⟨y⟩⟩ := b
  simp at h
  rw [h]
/-- A port: its native VLAN, and which are tagged there. -/
structure Prt where
  nat : Int
  tg : Int → Bool

theorem keyI : Keyed Tryz.prog 3 := int_keyed Tryz.underlying3
theorem zeroU (w : World) : (zeroValue 242).run Tryz.prog w = .ok (.agg #[]) w := by kernel_rfl
theorem underTag : Tryz.prog.underlying 141 = some (.map 3 242) := Tryz.underlying141

/-- What a map of tagged VLANs holds. -/
def TagAt (w : World) (mv : Value) (tg : Int → Bool) : Prop :=
  (mv = .map none ∧ ∀ v, tg v = false) ∨ ∃ b n D, mv = .map (some b) ∧ w.ownsMap (H := Unit) Tryz.prog 3 unitElem b n D ∧ ∀ v, (Lit.int .i64 v).wf = true → Maps.has D (.int .i64 v) = tg v
theorem TagAt.same {w w' : World} {mv : Value} {tg : Int → Bool} (h : TagAt w mv tg) (hk : ∀ (b : Nat) (o : Obj), w.heap[b]? = some o → o.isCells = false → w'.heap[b]? = some o) : TagAt w' mv tg := by
  rcases h with h | ⟨b, n, D, e, ⟨es, cl, h1, h2⟩, h3⟩
  · exact .inl h
  · exact .inr ⟨b, n, D, e, ⟨es, cl, hk b _ h1 rfl, h2⟩, h3⟩
theorem TagAt.below {w w' : World} {mv : Value} {tg : Int → Bool} (h : TagAt w mv tg) (hb : Below w.heap.size w w') : TagAt w' mv tg :=
  h.same fun b o ho _ => by
    have hlt : b < w.heap.size := by
      rcases Nat.lt_or_ge b w.heap.size with h | h
      · exact h
      · rw [Array.getElem?_eq_none h] at ho; cases ho
    rw [hb.block b hlt, ho]

set_option maxRecDepth 100000 in
theorem hasTagged_any (nat : Int) (mv : Value) (tg : Int → Bool) (v : Int) (w : World) (h : TagAt w mv tg) (hv : (Lit.int .i64 v).wf = true) :
    Calls Tryz.prog 106 #[.agg #[.int .i64 nat, mv], .int .i64 v] w fun e w' => e = .returned (.bool (tg v)) ∧ Below w.heap.size w w' := by
  have hkey := keyOf_int_mk Tryz.underlying3 hv
  rcases h with ⟨rfl, h0⟩ | ⟨b, n, D, rfl, hown, hD⟩
  · have hl : ∀ W : World, (Instr.lookup 141 (.map none) (.int .i64 v) true).run Tryz.prog W = .ok (.tuple #[.agg #[], .bool false]) W := fun W => Maps.look_nil (w := W) true keyI underTag (zeroU W) hkey
    rw [h0]
    go_enter Tryz.func106, Tryz.ntmps106
    go_wp2
    go_ret
    exact ⟨rfl, ((Below.refl _ w).alloc (Nat.le_refl _) _).alloc (by simp) _⟩
  · have HD := hide (hD v hv)
    clear hD
    go_enter Tryz.func106, Tryz.ntmps106
    go_wp2_with (first | (at_lookup; refine wpList_lookup_own_unit _ rfl _ _ 141 rfl 3 242 keyI underTag (zeroU _) b n D rfl (hown.alloc _) _ _ rfl hkey ?_))
    go_ret
    exact ⟨by rw [← HD.out]; rfl, ((Below.refl _ w).alloc (Nat.le_refl _) _).alloc (by simp) _⟩

set_option maxRecDepth 100000 in
theorem has_any (nat : Int) (mv : Value) (tg : Int → Bool) (v : Int) (w : World) (h : TagAt w mv tg) (hv : (Lit.int .i64 v).wf = true) :
    Calls Tryz.prog 122 #[.agg #[.int .i64 nat, mv], .int .i64 v] w fun e w' => e = .returned (.bool (v == nat || tg v)) ∧ Below w.heap.size w w' := by
  have hb0 : Below w.heap.size w (w.alloc (.cells #[.int .i64 nat, mv] 143)) := (Below.refl _ w).alloc (Nat.le_refl _) _
  have C := hide (hasTagged_any nat mv tg v _ (h.below hb0) hv)
  have hone : mv.oneCell' = true := by rcases h with ⟨rfl, _⟩ | ⟨b, n, D, rfl, _⟩ <;> rfl
  have HB := hide hb0
  by_cases hx : v = nat
  · subst hx
    rw [show (v == v) = true from by simp, Bool.true_or]
    go_enter Tryz.func122, Tryz.ntmps122
    go_wp2_with fail
    go_ret
    exact ⟨rfl, HB.out⟩
  · go_enter Tryz.func122, Tryz.ntmps122
    go_wp2_with fail
    refine C.out.mono ?_
    rintro e w1 ⟨rfl, hb1⟩
    go_wp2_with fail
    go_ret
    exact ⟨rfl, HB.out.trans (hb1.mono (by simp))⟩
end Go.Proofs.YtnjalelblbjfiaaGreatDoor
