import Derived.Test.YtaejpejfmpbinaaGreatDoorP15
import Derived.Laws.CopyOwn
import Derived.Lib.AppendZerosOnto
import Derived.Lib.Overlaps
import Derived.Lib.AppendZeros
import Derived.Test.YtaejpejfmpbinaaGreatDoorP14
import Derived.Test.YtaejpejfmpbinaaGreatDoorP7
namespace Go.Proofs.YtaejpejfmpbinaaGreatDoor
open Go.RowKit

theorem Chg.drew {X : Nat → Prop} {a b : World} (h : Chg X a b) : Chg X a b.drew := ⟨h.os, h.tape, h.output, h.size, h.block⟩
theorem Chg.refl (X : Nat → Prop) (w : World) : Chg X w w := ⟨rfl, rfl, rfl, Nat.le_refl _, fun _ _ _ => rfl⟩
theorem Chg.setRow {X : Nat → Prop} {a b : World} {g : Nat} (h : Chg X a b) (hx : X g ∨ a.heap.size ≤ g) (cs : Array Value) : Chg X a (b.setRow g cs) :=
  ⟨h.os, h.tape, h.output, by rw [setRow_size]; exact h.size, fun k hk hX => (setRow_other b g k cs (by rintro rfl; rcases hx with hx | hx; exact hX hx; omega)).trans (h.block k hk hX)⟩
theorem Chg.alloc {X : Nat → Prop} {a b : World} (h : Chg X a b) (o : Obj) : Chg X a (b.alloc o) :=
  h.trans (Chg.of_below ((Below.refl _ b).alloc (Nat.le_refl _) o))
theorem Chg.grown {X : Nat → Prop} {w w' : World} {row : Option Nat} (h : w.grownBy w' row) (hX : ∀ k, row = some k → X k) : Chg X w w' :=
  ⟨h.os, h.tape, h.output, h.size, fun k hk hx => h.block k hk fun e => hx (hX k e.symm)⟩

/-- copy of elements of s cells each. -/
theorem run_copy_wide {P : Program} (w : World) (dT sT ty elem : TypeId) (s g o dLen dCap : Nat) (a : Addr) (sLen sCap : Nat) (cur : List Value) (t : TypeId) (cs : List Value) (k : Nat)
    (hu : P.underlying dT = some (.slice elem)) (hs : (P.info? elem).map (·.size) = some s)
    (hg : w.heap[g]? = some (.cells cur.toArray t (0, 0))) (hk : k = Nat.min sLen dLen) (hn : cs.length = k * s)
    (hsrc : ∀ j v, cs[j]? = some v → w.cell? (a.add j) = some v) (hfit : o + cs.length ≤ cur.length) (h1 : ∀ v ∈ cs, v.oneCell' = true) :
    (Builtin.copy_ #[dT, sT] ty #[.slice (some ⟨g, o, none⟩) dLen dCap, .slice (some a) sLen sCap]).run P w = .ok (goInt k) (w.setRow g (splice cur o cs).toArray) := by
  have hl := run_loadCells_list (P := P) w a cs hsrc
  have hst := run_storeCells_at P g o t cs 0 cur.toArray w hg (by simpa using hfit) h1
  rw [hn] at hl
  cases hq : P.info? elem with
  | none => simp [hq] at hs
  | some i =>
    have hi : i.size = s := by simpa [hq] using hs
    simp [Builtin.copy_, run_underlying hu, Builtin.lenOf, Builtin.firstCells, sizeOf, typeInfo, hq, hi, ← hk, hl, hst, splice]

theorem wpList_copy_wide {P : Program} {w : World} {ops : Array Oper} {rest : List Oper} {o : Oper} {a : Act} {Q : Exit → Act → World → Prop} (hgd : o.guard = none) (d x : Operand) (dT sT : TypeId)
    (ho : o.op = .call { callee := .builtin .copy, args := #[d, x], argTypes := #[dT, sT] }) (elem : TypeId) (s : Nat) (hu : P.underlying dT = some (.slice elem)) (hsz : (P.info? elem).map (·.size) = some s)
    (g off dLen dCap : Nat) (ad : Addr) (sLen sCap : Nat) (hd : a.eval d = .slice (some ⟨g, off, none⟩) dLen dCap) (hs : a.eval x = .slice (some ad) sLen sCap)
    (cur : List Value) (t : TypeId) (hg : w.heap[g]? = some (.cells cur.toArray t (0, 0))) (cs : List Value) (k : Nat) (hk : k = Nat.min sLen dLen) (hn : cs.length = k * s)
    (hsrc : ∀ j v, cs[j]? = some v → w.cell? (ad.add j) = some v) (hfit : off + cs.length ≤ cur.length) (h1 : ∀ v ∈ cs, v.oneCell' = true)
    (X : Nat → Prop) (w0 : World) (hc : Chg X w0 w) (hX : X g ∨ w0.heap.size ≤ g)
    (h : ∀ w', Hid (w'.heap[g]? = some (.cells (splice cur off cs).toArray t (0, 0))) → Hid (Chg X w0 w') → Hid (∀ k, k ≠ g → w'.heap[k]? = w.heap[k]?) → wpList P ops Q rest (a.put o.dst (goInt k)) w') : wpList P ops Q (o :: rest) a w := by
  refine wpList_plain hgd fun K hK => ?_
  have hrun := run_copy_wide (P := P) w dT sT o.type elem s g off dLen dCap ad sLen sCap cur t cs k hu hsz hg hk hn hsrc hfit h1
  unfold Oper.wp
  simp [execOp, ho, resolve, invoke, builtin, hd, hs, hrun, Result.andThen]
  exact hK _ _ (h _ (hide (setRow_heap w g _ _ t _ hg)) (hide (hc.setRow hX _)) (hide fun k hk => setRow_other w g k _ hk))

theorem step_copy_wide {P : Program} {ops : Array Oper} {o : Oper} {a : Act} {w : World} {K : Act → World → Prop} {Q : Exit → Act → World → Prop} {E : Prop} (hgd : o.guard = none) (d x : Operand) (dT sT : TypeId)
    (ho : o.op = .call { callee := .builtin .copy, args := #[d, x], argTypes := #[dT, sT] }) (elem : TypeId) (s : Nat) (hu : P.underlying dT = some (.slice elem)) (hsz : (P.info? elem).map (·.size) = some s)
    (g off dLen dCap : Nat) (ad : Addr) (sLen sCap : Nat) (hd : a.eval d = .slice (some ⟨g, off, none⟩) dLen dCap) (hs : a.eval x = .slice (some ad) sLen sCap)
    (cur : List Value) (t : TypeId) (hg : w.heap[g]? = some (.cells cur.toArray t (0, 0))) (cs : List Value) (k : Nat) (hk : k = Nat.min sLen dLen) (hn : cs.length = k * s)
    (hsrc : ∀ j v, cs[j]? = some v → w.cell? (ad.add j) = some v) (hfit : off + cs.length ≤ cur.length) (h1 : ∀ v ∈ cs, v.oneCell' = true)
    (X : Nat → Prop) (w0 : World) (hc : Chg X w0 w) (hX : X g ∨ w0.heap.size ≤ g)
    (h : ∀ w', Hid (w'.heap[g]? = some (.cells (splice cur off cs).toArray t (0, 0))) → Hid (Chg X w0 w') → Hid (∀ k, k ≠ g → w'.heap[k]? = w.heap[k]?) → K (a.put o.dst (goInt k)) w') :
    if Region.wanted o (yielded ops a.tmps) = true then Oper.wp P o a w K Q else E := by
  have hw : Region.wanted o (yielded ops a.tmps) = true := by simp [Region.wanted, hgd]
  rw [if_pos hw]
  have hrun := run_copy_wide (P := P) w dT sT o.type elem s g off dLen dCap ad sLen sCap cur t cs k hu hsz hg hk hn hsrc hfit h1
  unfold Oper.wp
  simp [execOp, ho, resolve, invoke, builtin, hd, hs, hrun, Result.andThen]
  exact h _ (hide (setRow_heap w g _ _ t _ hg)) (hide (hc.setRow hX _)) (hide fun k hk => setRow_other w g k _ hk)

theorem splice_get {α : Type} (L : List α) (o : Nat) (cs : List α) (h : o + cs.length ≤ L.length) (j : Nat) : (splice L o cs)[j]? = if j < o then L[j]? else if j < o + cs.length then cs[j - o]? else L[j]? := by
  unfold splice
  rw [List.getElem?_append]
  simp only [List.length_take, List.getElem?_take, List.getElem?_append, List.getElem?_drop]
  have : min o L.length = o := by omega
  rw [this]
  split
  · rfl
  · split
    · rename_i h1 h2
      rw [if_pos (by omega)]
    · rename_i h1 h2
      rw [if_neg (by omega)]
      congr 1
      omega

/-- The row behind an insertion in place: what stood from a on goes s cells on, then come the new ones. -/
theorem ins_room {α : Type} (L xs vs : List α) (a N s : Nat) (hx : L.take N = xs) (hl : xs.length = N) (hv : vs.length = s) (ha : a ≤ N) (hN : N + s ≤ L.length) :
    (splice (splice L (a + s) (xs.drop a)) a vs).take (N + s) = xs.take a ++ vs ++ xs.drop a := by
  have hd : (xs.drop a).length = N - a := by rw [List.length_drop, hl]
  have l1 : (splice L (a + s) (xs.drop a)).length = L.length := length_splice _ _ _ (by omega)
  have hxg : ∀ j, j < N → xs[j]? = L[j]? := fun j hj => by rw [← hx, List.getElem?_take, if_pos hj]
  apply List.ext_getElem?
  intro j
  rw [List.getElem?_take, splice_get _ _ _ (by omega), List.append_assoc, List.getElem?_append, List.getElem?_append, List.length_take, hl, hv, Nat.min_eq_left ha]
  by_cases h1 : j < a
  · rw [if_pos (by omega), if_pos h1, if_pos h1, splice_get _ _ _ (by omega), if_pos (by omega), List.getElem?_take, if_pos h1, hxg j (by omega)]
  · rw [if_neg h1, if_neg h1]
    by_cases h2 : j < a + s
    · rw [if_pos (by omega), if_pos (by omega), if_pos (by omega)]
    · by_cases h3 : j < N + s
      · rw [if_pos h3, if_neg (by omega), if_neg (by omega), splice_get _ _ _ (by omega), if_neg (by omega), if_pos (by omega)]
        congr 1
        omega
      · rw [if_neg h3, if_neg (by omega)]
        symm
        rw [List.getElem?_eq_none_iff]
        omega

theorem ins_grow {α : Type} (L xs vs : List α) (a N s : Nat) (hx : L.take a = xs.take a) (hl : xs.length = N) (hv : vs.length = s) (ha : a ≤ N) (hN : N + s ≤ L.length) :
    (splice (splice L a vs) (a + s) (xs.drop a)).take (N + s) = xs.take a ++ vs ++ xs.drop a := by
  have hd : (xs.drop a).length = N - a := by rw [List.length_drop, hl]
  have l1 : (splice L a vs).length = L.length := length_splice _ _ _ (by omega)
  apply List.ext_getElem?
  intro j
  rw [List.getElem?_take, splice_get _ _ _ (by omega), List.append_assoc, List.getElem?_append, List.getElem?_append, List.length_take, hl, hv, Nat.min_eq_left ha]
  by_cases h1 : j < a
  · rw [if_pos (by omega), if_pos (by omega), if_pos h1, splice_get _ _ _ (by omega), if_pos (by omega), ← hx, List.getElem?_take, if_pos h1]
  · rw [if_neg h1]
    by_cases h2 : j < a + s
    · rw [if_pos (by omega), if_pos (by omega), if_pos (by omega), splice_get _ _ _ (by omega), if_neg h1, if_pos (by omega)]
    · by_cases h3 : j < N + s
      · rw [if_pos h3, if_neg h2, if_pos (by omega), if_neg (by omega)]
        congr 1
        omega
      · rw [if_neg h3, if_neg (by omega)]
        symm
        rw [List.getElem?_eq_none_iff]
        omega

theorem cell_in_row {w : World} {g j : Nat} {cur : Array Value} {t : TypeId} {fr : Nat × Nat} {v : Value} (hg : w.heap[g]? = some (.cells cur t fr)) (h : cur.toList[j]? = some v) : w.cell? ⟨g, j, none⟩ = some v := by
  simp only [World.cell?, hg]
  simpa using h

/-- What slices.Insert of one element leaves. -/
def InsPost (e0 : TypeId) (s : Nat) (sv : Value) (n : Nat) (ys : List Value) (w : World) (e : Ending) (w' : World) : Prop :=
  ∃ g cap, e = .returned (.slice (some ⟨g, 0, none⟩) (n + 1) cap) ∧ w'.ownsRow 0 e0 s (.slice (some ⟨g, 0, none⟩) (n + 1) cap) (n + 1) ys ∧ (sv.ownBlock = some g ∨ w.heap.size ≤ g) ∧ Chg (fun b => sv.ownBlock = some b) w w'

end Go.Proofs.YtaejpejfmpbinaaGreatDoor

namespace Go.Proofs.YtaejpejfmpbinaaGreatDoor
open Go.RowKit
open Go.Sort (grow)

attribute [local go_sem] cell?_regrown

/-- A MAC that is known: its VLAN, its bytes, the port, the age. -/
structure Mc where
  vlan : Int
  mac : ByteArray
  port : Int
  age : Int
/-- How an entry stands to a key. -/
def cmpM (e : Mc) (v : Int) (m : ByteArray) : Int := cmpPl e.vlan e.mac.toList v m.toList

set_option maxRecDepth 100000 in
set_option maxHeartbeats 1000000 in
theorem againstP_any (m : Nat) (e : Mc) (v : Int) (b : ByteArray) (w : World) (hm : w.cell? ⟨m, 0, none⟩ = some (.func (.func 111) #[] #[])) :
    Calls Tryz.prog 140 #[.pointer (some ⟨m, 0, none⟩), .agg #[.int .i64 e.vlan, .string e.mac, .int .i64 e.port, .int .i64 e.age], .agg #[.int .i64 v, .string b]] w fun r w' => r = .returned (.int .i64 (cmpM e v b)) ∧ Below w.heap.size w w' := by
  unfold cmpM
  have hlt : m < w.heap.size := block_lt_of_cell hm
  have hlt2 : m < w.heap.size + 1 + 1 := by omega
  go_enter Tryz.func140, Tryz.ntmps140
  go_wp2_with fail
  refine wp_region_quiet_below (by kernel_rfl) (by kernel_rfl) ?_
  repeat (quiet_step (exact Calls.regrown_of (cmpP_any _ _ _ _ _)))
  refine wpQuiet_nil ?_; intro wq hwq; replace hwq := below_of_regrown hwq; obtain ⟨hcq, hfq⟩ := bcell hwq; have hzq := hwq.size
  go_wp2
  go_ret
  exact ⟨rfl, Below.trans (by repeat (first | exact Below.refl _ _ | assumption | refine Below.drewN ?_ | refine Below.drew ?_ | refine Below.setCell ?_ (by first | exact Nat.le_refl _ | omega | (simp; done) | (simp; omega)) _ | refine Below.alloc ?_ (by first | exact Nat.le_refl _ | omega | (simp; done) | (simp; omega)) _)) (hwq.mono (by first | exact Nat.le_refl _ | omega | (simp; done) | (simp; omega)))⟩

set_option maxRecDepth 100000 in
set_option maxHeartbeats 1000000 in
theorem bsP_any (m g cap n : Nat) (a : Option Addr) (K : Nat → Mc) (x : Int) (x2 : ByteArray) (w : World) (hn : n ≤ 200) (hm : w.cell? ⟨m, 0, none⟩ = some (.func (.func 111) #[] #[]))
    (hc : ∀ j, j < n → a = some ⟨g, 0, none⟩ ∧ w.cell? ⟨g, j * 4, none⟩ = some (.int .i64 (K j).vlan) ∧ w.cell? ⟨g, j * 4 + 1, none⟩ = some (.string (K j).mac) ∧ w.cell? ⟨g, j * 4 + 2, none⟩ = some (.int .i64 (K j).port) ∧ w.cell? ⟨g, j * 4 + 3, none⟩ = some (.int .i64 (K j).age)) (hmono : ∀ i j, i ≤ j → j < n → cmpM (K j) x x2 < 0 → cmpM (K i) x x2 < 0) :
    Calls Tryz.prog 139 #[.slice a n cap, .agg #[.int .i64 x, .string x2], .func (.func 140) #[.pointer (some ⟨m, 0, none⟩)] #[]] w fun e w' => ∃ i : Nat, i ≤ n ∧ (∀ j, j < i → cmpM (K j) x x2 < 0) ∧ (∀ j, i ≤ j → j < n → 0 ≤ cmpM (K j) x x2) ∧ e = .returned (.tuple #[.int .i64 i, .bool (decide (i < n) && (cmpM (K i) x x2 == 0))]) ∧ Below w.heap.size w w' := by
  have hmlt : m < w.heap.size := block_lt_of_cell hm
  go_enter Tryz.func139, Tryz.ntmps139
  go_wp2
  go_loopw [9, 10] (fun vi vj wr => ∃ i j : Nat, i ≤ j ∧ j ≤ n ∧ vi = .int .i64 i ∧ vj = .int .i64 j ∧ (∀ q, q < i → cmpM (K q) x x2 < 0) ∧ (∀ q, j ≤ q → q < n → 0 ≤ cmpM (K q) x x2) ∧ Below w.heap.size w wr ∧ w.heap.size < wr.heap.size ∧ wr.cell? ⟨w.heap.size, 0, none⟩ = some (.int .i64 x) ∧ wr.cell? ⟨w.heap.size, 1, none⟩ = some (.string x2)) (fun vi vj _ => (intOf vj - intOf vi).toNat)
  case atStart => exact ⟨0, n, by omega, by omega, rfl, rfl, by omega, by omega, (by repeat (first | exact Below.refl _ _ | assumption | refine Below.drewN ?_ | refine Below.drew ?_ | refine Below.setCell ?_ (by first | exact Nat.le_refl _ | omega | (simp; done) | (simp; omega)) _ | refine Below.alloc ?_ (by first | exact Nat.le_refl _ | omega | (simp; done) | (simp; omega)) _)), (by first | exact Nat.le_refl _ | omega | (simp; done) | (simp; omega)), by simp, by simp⟩
  case round =>
    obtain ⟨i, j, hij, hjn, rfl, rfl, hL, hR, hb, hbl, x0, x1⟩ := hrel
    have hm' := (hb.cell (p := ⟨m, 0, none⟩) hmlt).trans hm
    have HL := hide hL
    have HR := hide hR
    clear hL hR
    by_cases hlt : i < j
    · obtain ⟨h, hh⟩ : ∃ h : Nat, h = (i + j) / 2 := ⟨_, rfl⟩
      have hh1 : i ≤ h := by omega
      have hh2 : h < j := by omega
      obtain ⟨rfl, c0, c1, c2, c3⟩ := hc h (by omega)
      have d0 := (hb.cell (p := ⟨g, h * 4, none⟩) (block_lt_of_cell c0)).trans c0
      have d1 := (hb.cell (p := ⟨g, h * 4 + 1, none⟩) (block_lt_of_cell c1)).trans c1
      have d2 := (hb.cell (p := ⟨g, h * 4 + 2, none⟩) (block_lt_of_cell c2)).trans c2
      have d3 := (hb.cell (p := ⟨g, h * 4 + 3, none⟩) (block_lt_of_cell c3)).trans c3
      have hglt : g < wr.heap.size := block_lt_of_cell d0
      have e1 : ((i : Int) + j) / 2 = h := by omega
      have hhn : (h : Int) < n := by omega
      have HM := hide fun q (hq : q ≤ h) (h' : cmpM (K h) x x2 < 0) => hmono q h hq (by omega) h'
      have HM2 := hide fun q (hq : h ≤ q) (hqn : q < n) (h' : cmpM (K q) x x2 < 0) => hmono h q hq hqn h'
      clear hh c0 c1 c2 c3
      have CA := hide fun (d : Nat) (os : Array Obj) => againstP_any m (K h) x x2 (grow (redrawn wr d) os) ((below_regrown wr d os).cell (p := ⟨m, 0, none⟩) (block_lt_of_cell hm') |>.trans hm')
      go_wp2_with fail
      refine wp_region_quiet_below (by kernel_rfl) (by kernel_rfl) ?_
      repeat (quiet_step (exact Calls.regrown_of (CA.out _ _)))
      refine wpQuiet_nil ?_; intro wq hwq; replace hwq := below_of_regrown hwq; obtain ⟨hcq, hfq⟩ := bcell hwq; have hzq := hwq.size
      have hbq : Below wr.heap.size wr wq := hwq
      clear hcq hfq hzq CA
      have HBQ := hide (hb.trans (hbq.mono hb.size))
      by_cases hneg : cmpM (K h) x x2 < 0
      · go_wp2
        go_roundw
        case rel => exact ⟨h + 1, j, by omega, by omega, by go_num, rfl, fun q hq => HM.out q (by omega) hneg, HR.out, HBQ.out, Nat.lt_of_lt_of_le hbl hbq.size, cell_later hbq x0, cell_later hbq x1⟩
        case measure => simp [intOf]; omega
      · have HN := hide hneg
        go_wp2
        go_roundw
        case rel => exact ⟨i, h, by omega, by omega, rfl, rfl, HL.out, fun q hq hqn => Int.not_lt.1 fun h' => absurd (HM2.out q hq hqn h') (by have := HN.out; omega), HBQ.out, Nat.lt_of_lt_of_le hbl hbq.size, cell_later hbq x0, cell_later hbq x1⟩
        case measure => simp [intOf]; omega
    · obtain rfl : i = j := by omega
      by_cases hin : i < n
      · obtain ⟨rfl, c0, c1, c2, c3⟩ := hc i hin
        have d0 := (hb.cell (p := ⟨g, i * 4, none⟩) (block_lt_of_cell c0)).trans c0
        have d1 := (hb.cell (p := ⟨g, i * 4 + 1, none⟩) (block_lt_of_cell c1)).trans c1
        have d2 := (hb.cell (p := ⟨g, i * 4 + 2, none⟩) (block_lt_of_cell c2)).trans c2
        have d3 := (hb.cell (p := ⟨g, i * 4 + 3, none⟩) (block_lt_of_cell c3)).trans c3
        have hglt : g < wr.heap.size := block_lt_of_cell d0
        have hini : (i : Int) < n := by omega
        clear c0 c1 c2 c3
        have CA := hide fun (d : Nat) (os : Array Obj) => againstP_any m (K i) x x2 (grow (redrawn wr d) os) ((below_regrown wr d os).cell (p := ⟨m, 0, none⟩) (block_lt_of_cell hm') |>.trans hm')
        go_wp2_with fail
        refine wp_region_quiet_below (by kernel_rfl) (by kernel_rfl) ?_
        repeat (first | go_big_quiet_skip | quiet_step (exact Calls.regrown_of (CA.out _ _)))
        refine wpQuiet_nil ?_; intro wq hwq; replace hwq := below_of_regrown hwq; obtain ⟨hcq, hfq⟩ := bcell hwq; have hzq := hwq.size
        have hbq : Below wr.heap.size wr wq := hwq
        clear hcq hfq hzq CA
        go_wp2
        go_ret2
        exact ⟨i, by omega, HL.out, HR.out, by simp [hin], hb.trans (hbq.mono hb.size)⟩
      · go_wp2_with fail
        refine wp_region_quiet_below (by kernel_rfl) (by kernel_rfl) ?_
        repeat (first | go_big_quiet_skip | quiet_step (fail))
        refine wpQuiet_nil ?_; intro wq hwq; replace hwq := below_of_regrown hwq; obtain ⟨hcq, hfq⟩ := bcell hwq; have hzq := hwq.size
        have hbq : Below wr.heap.size wr wq := hwq
        clear hcq hfq hzq
        go_wp2
        go_ret2
        exact ⟨i, by omega, HL.out, HR.out, by simp [hin], hb.trans (hbq.mono hb.size)⟩

end Go.Proofs.YtaejpejfmpbinaaGreatDoor

namespace Go.Proofs.YtaejpejfmpbinaaGreatDoor
open Go.RowKit
open Go.Sort (grow)
attribute [local go_sem] cell?_regrown

theorem cmpPl_neg {v1 v2 : Int} {m1 m2 : List UInt8} : cmpPl v1 m1 v2 m2 < 0 ↔ v1 < v2 ∨ (v1 = v2 ∧ Op.bytesLess m1 m2 = true) := by
  unfold cmpPl
  by_cases h : cmpI v1 v2 = 0
  · rw [if_pos h, cmpS_neg]
    rw [cmpI_zero] at h
    subst h
    simp
  · rw [if_neg h, cmpI_lt]
    rw [cmpI_zero] at h
    constructor
    · exact .inl
    · rintro (h' | ⟨h', _⟩)
      · exact h'
      · exact absurd h' h
theorem cmpPl_zero {v1 v2 : Int} {m1 m2 : List UInt8} : cmpPl v1 m1 v2 m2 = 0 ↔ v1 = v2 ∧ m1 = m2 := by
  unfold cmpPl
  by_cases h : cmpI v1 v2 = 0
  · rw [if_pos h, cmpS_zero]
    rw [cmpI_zero] at h
    simp [h]
  · rw [if_neg h]
    constructor
    · exact fun e => absurd e h
    · rintro ⟨e, _⟩
      exact cmpI_zero.2 e
theorem cmpPl_trans {v1 v2 v3 : Int} {m1 m2 m3 : List UInt8} (h : cmpPl v1 m1 v2 m2 < 0) (k : cmpPl v2 m2 v3 m3 < 0) : cmpPl v1 m1 v3 m3 < 0 := by
  rw [cmpPl_neg] at *
  rcases h with h | ⟨rfl, h⟩
  · rcases k with k | ⟨rfl, _⟩
    · exact .inl (by omega)
    · exact .inl h
  · rcases k with k | ⟨rfl, k⟩
    · exact .inl k
    · exact .inr ⟨rfl, bytesLess_trans h k⟩

/-- In order of VLANs, then of MACs. -/
abbrev SortedP (K : List Mc) : Prop := K.Pairwise fun a b => cmpM a b.vlan b.mac < 0
def kAt (K : List Mc) (j : Nat) : Mc := (K[j]?).getD ⟨0, ByteArray.empty, 0, 0⟩
theorem kAt_eq {K : List Mc} {j : Nat} (h : j < K.length) : kAt K j = K[j] := by simp [kAt, h]
/-- The cells of the entries. -/
def rowP (K : List Mc) : List Value := K.flatMap fun e => [.int .i64 e.vlan, .string e.mac, .int .i64 e.port, .int .i64 e.age]
theorem rowP_length (K : List Mc) : (rowP K).length = K.length * 4 := by
  induction K with
  | nil => rfl
  | cons e t ih => simp [rowP] at ih ⊢; omega
theorem rowP_append (a b : List Mc) : rowP (a ++ b) = rowP a ++ rowP b := List.flatMap_append
theorem rowP_get : ∀ (K : List Mc) (k : Nat) (hk : k < K.length), (rowP K)[k * 4]? = some (.int .i64 K[k].vlan) ∧ (rowP K)[k * 4 + 1]? = some (.string K[k].mac) ∧ (rowP K)[k * 4 + 2]? = some (.int .i64 K[k].port) ∧ (rowP K)[k * 4 + 3]? = some (.int .i64 K[k].age)
  | [], k, hk => absurd hk (by simp)
  | p :: t, 0, _ => ⟨rfl, rfl, rfl, rfl⟩
  | p :: t, k + 1, hk => by
    have := rowP_get t k (by simpa using hk)
    have e : (k + 1) * 4 = k * 4 + 4 := by omega
    rw [e]
    exact this

/-- A map of places: the order, the entries. -/
def MapP (w : World) (m : Nat) (sv : Value) (K : List Mc) : Prop :=
  w.cell? ⟨m, 0, none⟩ = some (.func (.func 111) #[] #[]) ∧ w.cell? ⟨m, 1, none⟩ = some sv ∧ w.ownsRow 0 202 4 sv K.length (rowP K) ∧ (∀ j, w.frozen? ⟨m, j, none⟩ = false) ∧ K.length ≤ 200
theorem rowP_cells {w : World} {sv : Value} {K : List Mc} (h : w.ownsRow 0 202 4 sv K.length (rowP K)) : ∃ a cap g, sv = .slice a K.length cap ∧ ∀ j, j < K.length → a = some ⟨g, 0, none⟩ ∧ w.cell? ⟨g, j * 4, none⟩ = some (.int .i64 (kAt K j).vlan) ∧ w.cell? ⟨g, j * 4 + 1, none⟩ = some (.string (kAt K j).mac) ∧ w.cell? ⟨g, j * 4 + 2, none⟩ = some (.int .i64 (kAt K j).port) ∧ w.cell? ⟨g, j * 4 + 3, none⟩ = some (.int .i64 (kAt K j).age) := by
  rcases h.2 with ⟨hv, h0⟩ | ⟨g, cap, cur, hv, _⟩
  · exact ⟨none, 0, 0, by rw [hv, h0], fun j hj => by omega⟩
  · refine ⟨_, cap, g, hv, fun j hj => ⟨rfl, ?_⟩⟩
    rw [hv] at h
    have := rowP_get K j hj
    rw [kAt_eq hj]
    exact ⟨(h.cellAt _ (by omega)).trans this.1, (h.cellAt _ (by omega)).trans this.2.1, (h.cellAt _ (by omega)).trans this.2.2.1, (h.cellAt _ (by omega)).trans this.2.2.2⟩

theorem sortedP_mono {K : List Mc} (hs : SortedP K) (x : Int) (b : ByteArray) : ∀ i j, i ≤ j → j < K.length → cmpM (kAt K j) x b < 0 → cmpM (kAt K i) x b < 0 := fun i j hij hj h => by
  rcases Nat.lt_or_eq_of_le hij with hlt | rfl
  · rw [kAt_eq hj] at h
    rw [kAt_eq (by omega)]
    exact cmpPl_trans (List.pairwise_iff_getElem.1 hs i j _ _ hlt) h
  · exact h

set_option maxRecDepth 100000 in
set_option maxHeartbeats 1000000 in
theorem placeP_any (m : Nat) (sv : Value) (K : List Mc) (x : Int) (b : ByteArray) (w : World) (hm : MapP w m sv K) (hs : SortedP K) :
    Calls Tryz.prog 113 #[.pointer (some ⟨m, 0, none⟩), .agg #[.int .i64 x, .string b]] w fun e w' => ∃ i : Nat, i ≤ K.length ∧ (∀ j, j < i → cmpM (kAt K j) x b < 0) ∧ (∀ j, i ≤ j → j < K.length → 0 ≤ cmpM (kAt K j) x b) ∧ e = .returned (.tuple #[.int .i64 i, .bool (decide (i < K.length) && (cmpM (kAt K i) x b == 0))]) ∧ Below w.heap.size w w' := by
  obtain ⟨h0, h1, h2, h3, h4⟩ := hm
  have hmlt : m < w.heap.size := block_lt_of_cell h0
  have hlt1 : m < w.heap.size + 1 := by omega
  obtain ⟨i0, a1, a2, a3⟩ := cut_exists K.length (fun j => cmpM (kAt K j) x b) (sortedP_mono hs x b)
  obtain ⟨a, cap, g, rfl, hc⟩ := rowP_cells h2
  have CB := hide fun (W : World) (hb : Below w.heap.size w W) => ((bsP_any m g cap K.length a (kAt K) x b W h4 ((hb.cell (p := ⟨m, 0, none⟩) hmlt).trans h0) (fun j hj => by
      obtain ⟨e, c0, c1, c2, c3⟩ := hc j hj
      exact ⟨e, (hb.cell (p := ⟨g, j * 4, none⟩) (block_lt_of_cell c0)).trans c0, (hb.cell (p := ⟨g, j * 4 + 1, none⟩) (block_lt_of_cell c1)).trans c1, (hb.cell (p := ⟨g, j * 4 + 2, none⟩) (block_lt_of_cell c2)).trans c2, (hb.cell (p := ⟨g, j * 4 + 3, none⟩) (block_lt_of_cell c3)).trans c3⟩) (sortedP_mono hs x b)).mono
    fun e w' ⟨i, b1, b2, b3, he, hb'⟩ => by
      have e1 := cut_unique b1 b2 b3 a1 a2 a3
      subst e1
      exact (⟨he, hb'⟩ : e = .returned (.tuple #[.int .i64 i, .bool (decide (i < K.length) && (cmpM (kAt K i) x b == 0))]) ∧ Below W.heap.size W w'))
  have A2 := hide a2
  have A3 := hide a3
  clear h2 h3 hc hs a2 a3
  go_enter Tryz.func113, Tryz.ntmps113
  go_wp2_with fail
  refine wp_region_quiet_below (by kernel_rfl) (by kernel_rfl) ?_
  repeat (quiet_step (exact Calls.regrown_of (CB.out _ (Below.trans ((Below.refl w.heap.size w).alloc (Nat.le_refl _) _) ((below_regrown _ _ _).mono (by simp))))))
  refine wpQuiet_nil ?_; intro wq hwq; replace hwq := below_of_regrown hwq; obtain ⟨hcq, hfq⟩ := bcell hwq; have hzq := hwq.size
  go_wp2
  go_ret2
  exact ⟨i0, a1, A2.out, A3.out, rfl, Below.trans (by repeat (first | exact Below.refl _ _ | assumption | refine Below.drewN ?_ | refine Below.drew ?_ | refine Below.setCell ?_ (by first | exact Nat.le_refl _ | omega | (simp; done) | (simp; omega)) _ | refine Below.alloc ?_ (by first | exact Nat.le_refl _ | omega | (simp; done) | (simp; omega)) _)) (hwq.mono (by first | exact Nat.le_refl _ | omega | (simp; done) | (simp; omega)))⟩

theorem lenP_any (m : Nat) (a : Option Addr) (n cap : Nat) (w : World) (h1 : w.cell? ⟨m, 1, none⟩ = some (.slice a n cap)) :
    Calls Tryz.prog 68 #[.pointer (some ⟨m, 0, none⟩)] w fun e w' => e = .returned (.int .i64 n) ∧ w' = w := by
  go_enter Tryz.func68, Tryz.ntmps68
  go_wp2
  go_ret
  exact ⟨rfl, rfl⟩

set_option maxRecDepth 100000 in
set_option maxHeartbeats 400000 in
theorem newP_any (w : World) : Calls Tryz.prog 110 #[.func (.func 111) #[] #[]] w fun e w' => e = .returned (.pointer (some ⟨w.heap.size, 0, none⟩)) ∧ w' = w.alloc (.cells #[.func (.func 111) #[] #[], .slice none 0 0] 200) := by
  go_enter Tryz.func110, Tryz.ntmps110
  go_wp2
  go_ret
  exact ⟨rfl, rfl⟩

/-- What is known of a MAC in a VLAN. -/
def known (K : List Mc) (x : Int) (b : ByteArray) : Option Mc := K.find? fun e => e.vlan == x && e.mac.toList == b.toList
theorem cmpM_zero {e : Mc} {x : Int} {b : ByteArray} : cmpM e x b = 0 ↔ (e.vlan == x && e.mac.toList == b.toList) = true := by
  unfold cmpM
  rw [cmpPl_zero]
  simp
theorem after_pos {K : List Mc} {x : Int} {b : ByteArray} {i : Nat} (hR : ∀ j, i ≤ j → j < K.length → 0 ≤ cmpM (kAt K j) x b) (hs : SortedP K) (h : ¬ (i < K.length ∧ cmpM (kAt K i) x b = 0)) : ∀ j, i ≤ j → j < K.length → 0 < cmpM (kAt K j) x b := fun j h1 h2 => by
  have a := hR j h1 h2
  rcases Int.lt_or_eq_of_le a with h' | h'
  · exact h'
  · exfalso
    rcases Nat.lt_or_eq_of_le h1 with h3 | rfl
    · have e := h'.symm
      unfold cmpM at e
      rw [cmpPl_zero] at e
      have c := List.pairwise_iff_getElem.1 hs i j (by omega) h2 h3
      have d := hR i (Nat.le_refl _) (by omega)
      rw [kAt_eq h2] at e
      rw [kAt_eq (by omega)] at d
      unfold cmpM at c d
      rw [e.1, e.2] at c
      omega
    · exact h ⟨h2, h'.symm⟩
theorem known_get {K : List Mc} {x : Int} {b : ByteArray} {i : Nat} (hL : ∀ j, j < i → cmpM (kAt K j) x b < 0) (hR : ∀ j, i ≤ j → j < K.length → 0 ≤ cmpM (kAt K j) x b) (hs : SortedP K) :
    known K x b = if h : i < K.length ∧ cmpM (kAt K i) x b = 0 then some (K[i]'h.1) else none := by
  unfold known
  split
  · rename_i h
    rw [List.find?_eq_some_iff_getElem]
    refine ⟨by rw [← kAt_eq h.1]; exact cmpM_zero.1 h.2, i, h.1, rfl, fun j hj => ?_⟩
    have := hL j hj
    rw [kAt_eq (by omega)] at this
    rw [Bool.not_eq_true', ← Bool.not_eq_true, ← cmpM_zero]
    omega
  · rename_i h
    have h2 := after_pos hR hs h
    rw [List.find?_eq_none]
    intro e he
    obtain ⟨j, hj, rfl⟩ := List.getElem_of_mem he
    rw [← cmpM_zero, ← kAt_eq hj]
    rcases Nat.lt_or_ge j i with h1 | h1
    · have := hL j h1; omega
    · have := h2 j h1 hj; omega

theorem ownsRow_keep {w w' : World} {B : Nat} {t : TypeId} {s n : Nat} {sv : Value} {xs : List Value} (h : w.ownsRow B t s sv n xs) (hs : ∀ g, sv.ownBlock = some g → w'.heap[g]? = w.heap[g]?) : w'.ownsRow B t s sv n xs := by
  refine ⟨h.1, ?_⟩
  rcases h.2 with hn | ⟨g, cap, cur, rfl, hb, hg, rest⟩
  · exact .inl hn
  · exact .inr ⟨g, cap, cur, rfl, hb, (hs g rfl).trans hg, rest⟩
theorem MapP.below {w w' : World} {m : Nat} {sv : Value} {K : List Mc} (hm : MapP w m sv K) (hb : Below w.heap.size w w') : MapP w' m sv K :=
  ⟨(hb.cell (p := ⟨m, 0, none⟩) (block_lt_of_cell hm.1)).trans hm.1, (hb.cell (p := ⟨m, 1, none⟩) (block_lt_of_cell hm.2.1)).trans hm.2.1, ownsRow_keep hm.2.2.1 (fun g hg => hb.block g (hm.2.2.1.lt g hg).2), fun j => (hb.frozen (p := ⟨m, j, none⟩) (show m < w.heap.size from block_lt_of_cell hm.1)).trans (hm.2.2.2.1 j), hm.2.2.2.2⟩

theorem underSeen : ∃ d, Tryz.prog.underlying 131 = some d ∧ d.isRow = true := isRow_of (by kernel_rfl)
theorem sizeSeen : (Tryz.prog.info? 131).map (·.size) = some 2 := by kernel_rfl
theorem results_mid_tmp {P : Program} {fn : Func} {p t : Tmp} {ty : TypeId} (h : fn.results = #[.cell p ty, .tmp t]) (tmps : Array Value) (w : World) (b o : Nat) (cs : List Value) (d : TypeDesc) (hp : tmps.getD p undef = .pointer (some ⟨b, o, none⟩)) (hc : w.rangeAt b o cs)
    (hu : P.underlying ty = some d) (hd : d.isRow = true) (hi : (P.info? ty).map (·.size) = some cs.length) : (results fn tmps).run P w = .ok (.tuple #[.agg cs.toArray, tmps.getD t undef]) w := by
  have hp' : tmps[p]?.getD undef = .pointer (some ⟨b, o, none⟩) := by simpa using hp
  simp [results, h, hp', asAddr, run_loadVar_mid w b o ty cs d hc hu hd hi]
theorem range2 {W : World} {b : Nat} {x0 x1 : Value} (g0 : W.cell? ⟨b, 0, none⟩ = some x0) (g1 : W.cell? ⟨b, 1, none⟩ = some x1) : W.rangeAt b 0 [x0, x1] := fun j v hv => by
  rw [Nat.zero_add]
  match j with
  | 0 => rw [g0]; exact hv
  | 1 => rw [g1]; exact hv
  | j + 2 => cases hv
def seenV (o : Option Mc) : Value := match o with | some e => .agg #[.int .i64 e.port, .int .i64 e.age] | none => .agg #[.int .i64 0, .int .i64 0]

set_option maxRecDepth 100000 in
set_option maxHeartbeats 1000000 in
theorem getP_any (m : Nat) (sv : Value) (K : List Mc) (x : Int) (b : ByteArray) (w : World) (hm : MapP w m sv K) (hs : SortedP K) :
    Calls Tryz.prog 109 #[.pointer (some ⟨m, 0, none⟩), .agg #[.int .i64 x, .string b]] w fun e w' => e = .returned (.tuple #[seenV (known K x b), .bool (known K x b).isSome]) ∧ Below w.heap.size w w' := by
  have CP := hide fun (W : World) (hb : Below w.heap.size w W) => placeP_any m sv K x b W (hm.below hb) hs
  obtain ⟨h0, h1, h2, h3, h4⟩ := hm
  obtain ⟨a, cap, g, rfl, hc⟩ := rowP_cells h2
  obtain ⟨ds, hus, hds⟩ := underSeen
  have hmlt : m < w.heap.size := block_lt_of_cell h0
  clear h2 h3
  go_enter Tryz.func109, Tryz.ntmps109
  obtain ⟨res, hres⟩ : ∃ res, res = known K x b := ⟨_, rfl⟩
  rw [← hres]
  go_wp2_with fail
  obtain ⟨W, hW⟩ : ∃ W, W = (w.alloc (.cells #[.int .i64 x, .string b] 129)).alloc (.cells #[.int .i64 0, .int .i64 0] 131) := ⟨_, rfl⟩
  rw [← hW]
  have hbW : Below w.heap.size w W := by rw [hW]; exact ((Below.refl _ w).alloc (Nat.le_refl _) _).alloc (by simp) _
  have hsW : W.heap.size = w.heap.size + 2 := by rw [hW]; simp
  have r0 : W.cell? ⟨w.heap.size + 1, 0, none⟩ = some (.int .i64 0) := by rw [hW]; exact (World.cell?_alloc_at _ _ _ _ (by simp)).trans rfl
  have r1 : W.cell? ⟨w.heap.size + 1, 1, none⟩ = some (.int .i64 0) := by rw [hW]; exact (World.cell?_alloc_at _ _ _ _ (by simp)).trans rfl
  have f0 : ∀ j, W.frozen? ⟨w.heap.size + 1, j, none⟩ = false := fun j => by rw [hW]; exact World.frozen?_alloc_at _ _ _ _ (by simp)
  refine (CP.out W hbW).mono ?_
  rintro e w1 ⟨i, hi, hL, hR, rfl, hb⟩
  have HF := hide (known_get hL hR hs)
  have q0 := cell_later hb r0
  have q1 := cell_later hb r1
  have f1 : w1.frozen? ⟨w.heap.size + 1, 0, none⟩ = false := (hb.frozen (p := ⟨w.heap.size + 1, 0, none⟩) (show w.heap.size + 1 < W.heap.size by omega)).trans (f0 0)
  have f2 : w1.frozen? ⟨w.heap.size + 1, 1, none⟩ = false := (hb.frozen (p := ⟨w.heap.size + 1, 1, none⟩) (show w.heap.size + 1 < W.heap.size by omega)).trans (f0 1)
  have hsz1 : w.heap.size + 1 < w1.heap.size := by have := hb.size; omega
  have hszn : ¬ w1.heap.size = w.heap.size + 1 := by omega
  have hszm : ¬ w.heap.size + 1 = w1.heap.size := by omega
  have HB := hide (hbW.trans (hb.mono hbW.size))
  have HRES := hide hres
  clear CP hL hR hs r0 r1 f0 hW hres
  by_cases h : i < K.length ∧ cmpM (kAt K i) x b = 0
  · obtain ⟨ha, c0, c1, c2, c3⟩ := hc i h.1
    subst ha
    have hx : (cmpM (kAt K i) x b == 0) = true := by simp [h.2]
    have hd : decide (i < K.length) = true := by simp [h.1]
    have d2 := (HB.out.cell (p := ⟨g, i * 4 + 2, none⟩) (block_lt_of_cell c2)).trans c2
    have d3 := (HB.out.cell (p := ⟨g, i * 4 + 3, none⟩) (block_lt_of_cell c3)).trans c3
    have e1 := (HB.out.cell (p := ⟨m, 1, none⟩) hmlt).trans h1
    have hil : (i : Int) < K.length := by omega
    have hF : res = some (kAt K i) := by rw [HRES.out, HF.out, dif_pos h]; exact congrArg some (kAt_eq h.1).symm
    have HFF := hide hF
    have hglt : g < w.heap.size := block_lt_of_cell c0
    have hgne : ¬ g = w.heap.size + 1 := by omega
    have hgne2 : ¬ w.heap.size + 1 = g := by omega
    have hmne : ¬ m = w.heap.size + 1 := by omega
    generalize kAt K i = ei at *
    clear hc hF c0 c1 c2 c3 h
    go_wp2
    refine bodyPost_ret (results_mid_tmp rfl _ _ (w.heap.size + 1) 0 [.int .i64 ei.port, .int .i64 ei.age] ds rfl (range2 ?_ ?_) hus hds sizeSeen) rfl ?_
    · go_simp
    · go_simp
    · exact ⟨by rw [HFF.out]; rfl, (HB.out.setCell (by simp) _).setCell (by simp) _⟩
  · have hx : (decide (i < K.length) && (cmpM (kAt K i) x b == 0)) = false := by
      rw [← Bool.not_eq_true, Bool.and_eq_true, decide_eq_true_eq, beq_iff_eq]; exact h
    have hF : res = none := by rw [HRES.out, HF.out, dif_neg h]
    have HFF := hide hF
    clear hc hF h
    go_wp2
    refine bodyPost_ret (results_mid_tmp rfl _ _ (w.heap.size + 1) 0 [.int .i64 0, .int .i64 0] ds rfl (range2 ?_ ?_) hus hds sizeSeen) rfl ?_
    · go_simp
    · go_simp
    · exact ⟨by rw [HFF.out]; rfl, by have hb := HB.out; exact (by repeat (first | exact Below.refl _ _ | assumption | refine Below.drewN ?_ | refine Below.drew ?_ | refine Below.setCell ?_ (by first | exact Nat.le_refl _ | omega | (simp; done) | (simp; omega)) _ | refine Below.alloc ?_ (by first | exact Nat.le_refl _ | omega | (simp; done) | (simp; omega)) _))⟩

end Go.Proofs.YtaejpejfmpbinaaGreatDoor
