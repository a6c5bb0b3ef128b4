import Derived.Test.YtaejpejfmpbinaaDoorP15
import Derived.Test.YtaejpejfmpbinaaDoorRows
import Derived.WalkKit
import Derived.ProofKit
import Derived.OpenShut
import Derived.Deep.Slices
import Derived.SizedLaws
namespace Go.Proofs.YtaejpejfmpbinaaDoor
open Go.ChangeShapes Go.WideShapes Go.ChangeAt Go.RowKit

theorem cells1 : Tryd.prog.cellsOf 3 = 1 := by kernel_rfl
theorem cells5 : Tryd.prog.cellsOf 33 = 5 := by kernel_rfl
theorem cells16 : Tryd.prog.cellsOf 35 = 16 := by kernel_rfl
theorem cells2 : Tryd.prog.cellsOf 74 = 2 := by kernel_rfl
theorem cells3 : Tryd.prog.cellsOf 89 = 3 := by kernel_rfl
theorem cells15 : Tryd.prog.cellsOf 90 = 15 := by kernel_rfl
theorem bytes8 : Tryd.prog.bytesOf 3 = 8 := by kernel_rfl
theorem bytes128 : Tryd.prog.bytesOf 35 = 128 := by kernel_rfl

def five (a b c d e : Int) : Nat → Int
  | 0 => a
  | 1 => b
  | 2 => c
  | 3 => d
  | _ => e
theorem five_all {P : Int → Prop} {a b c d e : Int} (h0 : P a) (h1 : P b) (h2 : P c) (h3 : P d) (h4 : P e) : ∀ j, j < 5 → P (five a b c d e j) := fun j hj => by
  match j, hj with
  | 0, _ => exact h0
  | 1, _ => exact h1
  | 2, _ => exact h2
  | 3, _ => exact h3
  | 4, _ => exact h4
  | j + 5, h => exact absurd h (by omega)

section
variable {H : Type} {enc : TypeId × Value → H} {w : World} {base : Nat} {spare : Nat → Bool} {held : Bool}

theorem trodI {fuel : Nat} {cs : List Value} {x : DataW H × List MemPlace} (h : DataW.trod enc Tryd.prog w base spare held fuel 3 cs = some x) : ∃ n, cs = [.int .i64 n] ∧ x.1 = .lit (.int .i64 n) ∧ -9223372036854775808 ≤ n ∧ n ≤ 9223372036854775807 := by
  obtain ⟨n, h1, h2, h3⟩ := DataW.trod_int Tryd.underlying3 h
  exact ⟨n, h1, by rw [h2], bounds_i64 h3⟩

theorem trodA {fuel : Nat} {cs : List Value} {x : DataW H × List MemPlace} (h : DataW.trod enc Tryd.prog w base spare held fuel 33 cs = some x) : ∃ n0 n1 n2 n3 n4 : Int, cs = [.int .i64 n0, .int .i64 n1, .int .i64 n2, .int .i64 n3, .int .i64 n4] ∧ ∀ j, j < 5 → -9223372036854775808 ≤ five n0 n1 n2 n3 n4 j ∧ five n0 n1 n2 n3 n4 j ≤ 9223372036854775807 := by
  obtain ⟨xs, m, rfl, rfl, hl, hx, hf⟩ := DataW.trod_array Tryd.underlying33 h
  rw [cells5] at hl
  simp only [cells1] at hf
  clear h
  match cs, hl, xs, hx, hf with
  | [v0, v1, v2, v3, v4], _, [x0, x1, x2, x3, x4], _, hf =>
    obtain ⟨n0, e0, _, r0⟩ := trodI (cs := [v0]) (x := x0) (hf 0 (by omega))
    obtain ⟨n1, e1, _, r1⟩ := trodI (cs := [v1]) (x := x1) (hf 1 (by omega))
    obtain ⟨n2, e2, _, r2⟩ := trodI (cs := [v2]) (x := x2) (hf 2 (by omega))
    obtain ⟨n3, e3, _, r3⟩ := trodI (cs := [v3]) (x := x3) (hf 3 (by omega))
    obtain ⟨n4, e4, _, r4⟩ := trodI (cs := [v4]) (x := x4) (hf 4 (by omega))
    cases e0; cases e1; cases e2; cases e3; cases e4
    exact ⟨n0, n1, n2, n3, n4, rfl, five_all (P := fun z => -9223372036854775808 ≤ z ∧ z ≤ 9223372036854775807) r0 r1 r2 r3 r4⟩

theorem trodRaw {fuel : Nat} {cs : List Value} {x : DataW H × List MemPlace} (h : DataW.trod enc Tryd.prog w base spare held fuel 35 cs = some x) :
    ∃ (pr : Int) (kd a b : Nat → Int), cs = [.int .i64 pr, .int .i64 (kd 0), .int .i64 (kd 1), .int .i64 (kd 2), .int .i64 (kd 3), .int .i64 (kd 4), .int .i64 (a 0), .int .i64 (a 1), .int .i64 (a 2), .int .i64 (a 3), .int .i64 (a 4), .int .i64 (b 0), .int .i64 (b 1), .int .i64 (b 2), .int .i64 (b 3), .int .i64 (b 4)] ∧ (-9223372036854775808 ≤ pr ∧ pr ≤ 9223372036854775807) ∧ (∀ j, j < 5 → -9223372036854775808 ≤ kd j ∧ kd j ≤ 9223372036854775807) ∧ (∀ j, j < 5 → -9223372036854775808 ≤ a j ∧ a j ≤ 9223372036854775807) ∧ (∀ j, j < 5 → -9223372036854775808 ≤ b j ∧ b j ≤ 9223372036854775807) := by
  obtain ⟨xs, m, rfl, rfl, hl, hx, hf⟩ := DataW.trod_struct Tryd.underlying35 h
  rw [cells16] at hl
  clear h
  have f0 : DataW.trod enc Tryd.prog w base spare held m 3 ((cs.drop 0).take (Tryd.prog.cellsOf 3)) = xs[0]? := hf 0 _ rfl
  have f1 : DataW.trod enc Tryd.prog w base spare held m 33 ((cs.drop 1).take (Tryd.prog.cellsOf 33)) = xs[1]? := hf 1 _ rfl
  have f2 : DataW.trod enc Tryd.prog w base spare held m 33 ((cs.drop 6).take (Tryd.prog.cellsOf 33)) = xs[2]? := hf 2 _ rfl
  have f3 : DataW.trod enc Tryd.prog w base spare held m 33 ((cs.drop 11).take (Tryd.prog.cellsOf 33)) = xs[3]? := hf 3 _ rfl
  rw [cells1] at f0
  rw [cells5] at f1 f2 f3
  clear hf
  match cs, hl, xs, hx, f0, f1, f2, f3 with
  | [v0, v1, v2, v3, v4, v5, v6, v7, v8, v9, v10, v11, v12, v13, v14, v15], _, [x0, x1, x2, x3], _, f0, f1, f2, f3 =>
    obtain ⟨pr, e0, _, r0⟩ := trodI (cs := [v0]) (x := x0) f0
    obtain ⟨k0, k1, k2, k3, k4, e1, r1⟩ := trodA (cs := [v1, v2, v3, v4, v5]) (x := x1) f1
    obtain ⟨a0, a1, a2, a3, a4, e2, r2⟩ := trodA (cs := [v6, v7, v8, v9, v10]) (x := x2) f2
    obtain ⟨b0, b1, b2, b3, b4, e3, r3⟩ := trodA (cs := [v11, v12, v13, v14, v15]) (x := x3) f3
    cases e0; cases e1; cases e2; cases e3
    exact ⟨pr, five k0 k1 k2 k3 k4, five a0 a1 a2 a3 a4, five b0 b1 b2 b3 b4, rfl, r0, r1, r2, r3⟩

theorem trodS {fuel : Nat} {cs : List Value} {x : DataW H × List MemPlace} (h : DataW.trod enc Tryd.prog w base spare held fuel 74 cs = some x) : ∃ b c : Int, cs = [.int .i64 b, .int .i64 c] ∧ x.1 = .agg [.lit (.int .i64 b), .lit (.int .i64 c)] := by
  obtain ⟨xs, m, rfl, rfl, hl, hx, hf⟩ := DataW.trod_struct Tryd.underlying74 h
  rw [cells2] at hl
  clear h
  have f0 : DataW.trod enc Tryd.prog w base spare held m 3 ((cs.drop 0).take (Tryd.prog.cellsOf 3)) = xs[0]? := hf 0 _ rfl
  have f1 : DataW.trod enc Tryd.prog w base spare held m 3 ((cs.drop 1).take (Tryd.prog.cellsOf 3)) = xs[1]? := hf 1 _ rfl
  rw [cells1] at f0 f1
  clear hf
  match cs, hl, xs, hx, f0, f1 with
  | [v0, v1], _, [x0, x1], _, f0, f1 =>
    obtain ⟨b, e0, d0, _⟩ := trodI (cs := [v0]) (x := x0) f0
    obtain ⟨c, e1, d1, _⟩ := trodI (cs := [v1]) (x := x1) f1
    cases e0; cases e1
    exact ⟨b, c, rfl, by simp [d0, d1]⟩
theorem trodF {fuel : Nat} {cs : List Value} {x : DataW H × List MemPlace} (h : DataW.trod enc Tryd.prog w base spare held fuel 89 cs = some x) : ∃ a b c : Int, cs = [.int .i64 a, .int .i64 b, .int .i64 c] ∧ x.1 = .agg [.lit (.int .i64 a), .agg [.lit (.int .i64 b), .lit (.int .i64 c)]] := by
  obtain ⟨xs, m, rfl, rfl, hl, hx, hf⟩ := DataW.trod_struct Tryd.underlying89 h
  rw [cells3] at hl
  clear h
  have f0 : DataW.trod enc Tryd.prog w base spare held m 3 ((cs.drop 0).take (Tryd.prog.cellsOf 3)) = xs[0]? := hf 0 _ rfl
  have f1 : DataW.trod enc Tryd.prog w base spare held m 74 ((cs.drop 1).take (Tryd.prog.cellsOf 74)) = xs[1]? := hf 1 _ rfl
  rw [cells1] at f0
  rw [cells2] at f1
  clear hf
  match cs, hl, xs, hx, f0, f1 with
  | [v0, v1, v2], _, [x0, x1], _, f0, f1 =>
    obtain ⟨a, e0, d0, _⟩ := trodI (cs := [v0]) (x := x0) f0
    obtain ⟨b, c, e1, d1⟩ := trodS (cs := [v1, v2]) (x := x1) f1
    cases e0; cases e1
    exact ⟨a, b, c, rfl, by simp [d0, d1]⟩
theorem trodFields {fuel : Nat} {cs : List Value} {p : List MemPlace} (h : DataW.trod enc Tryd.prog w base spare held fuel 90 cs = some (Rows.laid_portico_table_fields, p)) : cs = [.int .i64 32, .int .i64 0, .int .i64 4294967295, .int .i64 32, .int .i64 0, .int .i64 4294967295, .int .i64 8, .int .i64 0, .int .i64 255, .int .i64 16, .int .i64 0, .int .i64 65535, .int .i64 16, .int .i64 0, .int .i64 65535] := by
  obtain ⟨xs, m, rfl, hd, hl, hx, hf⟩ := DataW.trod_array Tryd.underlying90 h
  rw [cells15] at hl
  simp only [cells3] at hf
  have hd1 := congrArg Prod.fst hd
  clear h hd
  match cs, hl, xs, hx, hf, hd1 with
  | [v0, v1, v2, v3, v4, v5, v6, v7, v8, v9, v10, v11, v12, v13, v14], _, [x0, x1, x2, x3, x4], _, hf, hd1 =>
    obtain ⟨a0, b0, c0, e0, d0⟩ := trodF (cs := [v0, v1, v2]) (x := x0) (hf 0 (by omega))
    obtain ⟨a1, b1, c1, e1, d1⟩ := trodF (cs := [v3, v4, v5]) (x := x1) (hf 1 (by omega))
    obtain ⟨a2, b2, c2, e2, d2⟩ := trodF (cs := [v6, v7, v8]) (x := x2) (hf 2 (by omega))
    obtain ⟨a3, b3, c3, e3, d3⟩ := trodF (cs := [v9, v10, v11]) (x := x3) (hf 3 (by omega))
    obtain ⟨a4, b4, c4, e4, d4⟩ := trodF (cs := [v12, v13, v14]) (x := x4) (hf 4 (by omega))
    cases e0; cases e1; cases e2; cases e3; cases e4
    simp only [Rows.laid_portico_table_fields, List.map_cons, List.map_nil, d0, d1, d2, d3, d4, DataW.agg.injEq, List.cons.injEq, DataW.lit.injEq, Lit.int.injEq, true_and, and_true] at hd1
    obtain ⟨⟨rfl, rfl, rfl⟩, ⟨rfl, rfl, rfl⟩, ⟨rfl, rfl, rfl⟩, ⟨rfl, rfl, rfl⟩, rfl, rfl, rfl⟩ := hd1
    rfl
end

theorem gFields : Tryd.prog.globalNamed "portico/table.fields" = some 0 := by kernel_rfl
theorem gFieldsType : (Tryd.prog.globals[0]?).map (·.type) = some 90 := by kernel_rfl
/-- What the row's list gives: the table of the fields. -/
theorem laid_of {W : World} {rest : List (String × DataW Unit)} (h : laidMet Tryd.prog (("portico/table.fields", Rows.laid_portico_table_fields) :: rest) W) : Laid W := by
  obtain ⟨ps, ⟨g', t', cs, fuel, p, q, hg', ht', hvar, hd, _, _⟩, _⟩ := h
  obtain rfl := Option.some.inj (gFields.symm.trans hg')
  obtain rfl := Option.some.inj (gFieldsType.symm.trans ht')
  have hcs := trodFields hd
  have c := fun i => World.var?_cell gFields hvar i
  have c' : ∀ i, W.cell? ⟨0, i, none⟩ = ([Value.int .i64 32, Value.int .i64 0, Value.int .i64 4294967295, Value.int .i64 32, Value.int .i64 0, Value.int .i64 4294967295, Value.int .i64 8, Value.int .i64 0, Value.int .i64 255, Value.int .i64 16, Value.int .i64 0, Value.int .i64 65535, Value.int .i64 16, Value.int .i64 0, Value.int .i64 65535] : List Value)[i]? := fun i => by rw [c i, ← hcs]; simp
  exact ⟨c' 0, c' 1, c' 2, c' 3, c' 4, c' 5, c' 6, c' 7, c' 8, c' 9, c' 10, c' 11, c' 12, c' 13, c' 14⟩

section
variable {H : Type} {enc : TypeId × Value → H} {W : World} {base : Nat} {v : Value} {d : DataW H} {p : List MemPlace}
set_option maxRecDepth 100000 in
theorem ints_arg (hok : Value.okWide Tryd.prog W .any base 23 v) (h : DataW.Trod enc Tryd.prog W 0 (fun _ => true) true 23 v d p) (hz : ∀ elems spare, d = .slice elems spare → (elems.length + spare.length) * Tryd.prog.bytesOf 3 ≤ reachBytes) :
    ∃ a n c g off, v = .slice a n c ∧ n ≤ 9223372036854775000 ∧ IntsAt W a n g off := by
  have hrb := reachBytes_lt
  obtain ⟨a0, n, c, rfl⟩ := okWide_slice Tryd.underlying23 hok
  obtain ⟨fuel, hf⟩ := h
  rcases open_ints Tryd.underlying23 Tryd.underlying3 cells1 hf with ⟨hcs, _⟩ | ⟨a, len, cap, zs, hcs, _, hle, _, hall, hx, hc, hwf⟩
  · simp [Value.cells] at hcs
    obtain ⟨rfl, rfl, rfl⟩ := hcs
    exact ⟨_, _, _, 0, 0, rfl, by omega, fun h => absurd h (by omega), fun j hj => absurd hj (by omega)⟩
  · simp [Value.cells] at hcs
    obtain ⟨rfl, rfl, rfl⟩ := hcs
    simp only [if_true] at hall
    have hsz := hz _ _ (congrArg Prod.fst hx)
    rw [bytes8] at hsz
    simp only [ChangeShapes.lits, List.length_map, List.length_take, List.length_drop] at hsz
    by_cases hn : n = 0
    · subst hn
      exact ⟨_, _, _, 0, 0, rfl, by omega, fun h => absurd h (by omega), fun j hj => absurd hj (by omega)⟩
    · obtain ⟨b, off, rfl, hcell⟩ := ints_at hc (by omega)
      refine ⟨_, _, _, b, off, rfl, by omega, fun _ => rfl, fun j hj => ⟨zs.getD j 0, hcell j (by omega), ?_⟩⟩
      have hm : zs.getD j 0 ∈ zs := by
        rw [List.getD_eq_getElem?_getD, List.getElem?_eq_getElem (by omega)]
        exact List.getElem_mem _
      exact bounds_i64 (hwf _ hm)
set_option maxRecDepth 100000 in
theorem raws_arg (hok : Value.okWide Tryd.prog W .any base 22 v) (h : DataW.Trod enc Tryd.prog W 0 (fun _ => true) true 22 v d p) (hz : ∀ elems spare, d = .slice elems spare → (elems.length + spare.length) * Tryd.prog.bytesOf 35 ≤ reachBytes) :
    ∃ a n c g off, v = .slice a n c ∧ n ≤ 9223372036854775000 ∧ RawsAt W a n g off := by
  have hrb := reachBytes_lt
  obtain ⟨a0, n, c, rfl⟩ := okWide_slice Tryd.underlying22 hok
  obtain ⟨fuel, hf⟩ := h
  rcases Deep.open_slice Tryd.underlying22 hf with ⟨hcs, _⟩ | ⟨a, len, cap, m, fu, D, Pl, hcs, _, hle, _, hall, hx, hel⟩
  · simp [Value.cells] at hcs
    obtain ⟨rfl, rfl, rfl⟩ := hcs
    exact ⟨_, _, _, 0, 0, rfl, by omega, fun h => absurd h (by omega), fun j hj => absurd hj (by omega)⟩
  · simp [Value.cells] at hcs
    obtain ⟨rfl, rfl, rfl⟩ := hcs
    simp only [if_true] at hall
    have hsz := hz _ _ (congrArg Prod.fst hx)
    rw [bytes128] at hsz
    simp only [List.length_map, List.length_range] at hsz
    rw [cells16] at hel
    by_cases hn : n = 0
    · subst hn
      exact ⟨_, _, _, 0, 0, rfl, by omega, fun h => absurd h (by omega), fun j hj => absurd hj (by omega)⟩
    · obtain ⟨b, off, spot⟩ := a
      have hspot : spot = none := by
        obtain ⟨cs', h1, h2⟩ := hel 0 (by omega)
        obtain ⟨pr, kd, aa, bb, rfl, _⟩ := trodRaw h2
        have := (World.cells?_some h1).2.2 0 (by omega)
        simpa [Addr.add] using World.cell?_spot this
      subst hspot
      refine ⟨_, _, _, b, off, rfl, by omega, fun _ => rfl, fun j hj => ?_⟩
      obtain ⟨cs', h1, h2⟩ := hel j (by omega)
      obtain ⟨pr, kd, aa, bb, rfl, r⟩ := trodRaw h2
      refine ⟨pr, kd, aa, bb, fun i u hu => ?_, r⟩
      have hi : i < 16 := (List.getElem?_eq_some_iff.1 hu).1
      have := (World.cells?_some h1).2.2 i hi
      rw [Addr.add_mid, Addr.add_mid] at this
      exact this.trans hu
end

end Go.Proofs.YtaejpejfmpbinaaDoor
