import Derived.Test.YtaejpejfmpbinaaGreatDoorP4
import Derived.Deep.AppendLies
import Derived.Deep.MidRow
import Derived.Deep.RegionHeld3
import Derived.Maps.OwnSet
import Derived.RangeFuncNested
namespace Go.Proofs.YtaejpejfmpbinaaGreatDoor
open Go.RowKit
open Go.Sort (grow)

theorem infoPE : (Tryz.prog.info? 147).map (fun i => (i.zero, i.size, i.bytes)) = some (some (.pointer none), 1, 8) := by kernel_rfl
theorem underBunch : Tryz.prog.underlying 180 = some (.slice 147) := by kernel_rfl

def ptrE (e : Ent) : Value := .pointer (some ⟨e.1, 0, none⟩)

theorem EntAt.lo {w : World} {b : Nat} {r : Rl} (h : EntAt w b r) {f : Nat} (hf : f < 5) : w.cell? ⟨b, 19 + f * 2, none⟩ = some (.int .i64 (r.lo f)) := by
  match f, hf with
  | 0, _ => exact h.c19
  | 1, _ => exact h.c21
  | 2, _ => exact h.c23
  | 3, _ => exact h.c25
  | 4, _ => exact h.c27
theorem EntAt.hi {w : World} {b : Nat} {r : Rl} (h : EntAt w b r) {f : Nat} (hf : f < 5) : w.cell? ⟨b, 19 + f * 2 + 1, none⟩ = some (.int .i64 (r.hi f)) := by
  match f, hf with
  | 0, _ => exact h.c20
  | 1, _ => exact h.c22
  | 2, _ => exact h.c24
  | 3, _ => exact h.c26
  | 4, _ => exact h.c28

def lows (f : Nat) (last : Int) (es : List Ent) : List Ent := es.filter fun e => decide (e.2.lo f ≤ last)
def highs (f : Nat) (last : Int) (es : List Ent) : List Ent := es.filter fun e => decide (last < e.2.hi f)

theorem ownsRow_below {B : Nat} {w w' : World} {base : Nat} {e : TypeId} {size : Nat} {v : Value} {n : Nat} {xs : List Value} (h : w.ownsRow base e size v n xs) (hb : Below B w w') (hB : w.heap.size ≤ B) : w'.ownsRow base e size v n xs := by
  refine h.kept (row := none) ⟨hb.os, hb.tape, hb.output, hb.size, fun k hk _ => hb.block k (Nat.lt_of_lt_of_le hk hB)⟩ ?_
  cases hv : v.ownBlock with
  | none => exact .inl rfl
  | some g => exact .inr (by simp)

/-- Behind an append to one of two rows of the call's own: the other one is as it was, and lies elsewhere. -/
theorem other_row {wq w1 : World} {B : Nat} {e : TypeId} {size : Nat} {v1 v2 : Value} {n2 : Nat} {xs2 : List Value} {o : Obj} {g : Nat}
    (o2 : wq.ownsRow B e size v2 n2 xs2) (hdis : ∀ g, v1.ownBlock = some g → v2.ownBlock ≠ some g) (hgrow : (wq.alloc o).grownBy w1 v1.ownBlock) (hat : v1.ownBlock = some g ∨ g = wq.heap.size + 1) :
    w1.ownsRow B e size v2 n2 xs2 ∧ v2.ownBlock ≠ some g := by
  refine ⟨(o2.alloc o).kept hgrow ?_, ?_⟩
  · cases h2 : v2.ownBlock with
    | none => exact .inl rfl
    | some g2 =>
      refine .inr fun h => ?_
      exact hdis g2 h.symm h2
  · intro h2
    rcases hat with h1 | h1
    · exact hdis g h1 h2
    · have := (o2.lt g h2).2
      omega

/-- Behind an append to a row of the call's own: below the base all is as it was. -/
theorem below_append {w wq w1 : World} {B b : Nat} {e : TypeId} {size : Nat} {v1 : Value} {n1 : Nat} {xs1 : List Value} {o : Obj} (hb : Below B w wq) (hB : B ≤ wq.heap.size)
    (o1 : wq.ownsRow b e size v1 n1 xs1) (hbB : B ≤ b) (hgrow : (wq.alloc o).grownBy w1 v1.ownBlock) : Below B w w1 :=
  Below.grown (hb.alloc hB o) hgrow (by simp; omega) fun k hk => by have := (o1.lt k hk).1; omega

theorem bunch_of_row {w : World} {B : Nat} {v : Value} {es : List Ent} (h : w.ownsRow B 147 1 v es.length (es.map ptrE)) (he : ∀ e ∈ es, EntAt w e.1 e.2) : BunchAt w v es := by
  rcases h.2 with ⟨hv, h0⟩ | ⟨g, cap, cur, hv, _⟩
  · exact ⟨none, 0, by rw [hv, h0], fun i hi => by omega, he⟩
  · refine ⟨some ⟨g, 0, none⟩, cap, hv, fun i hi => ⟨g, 0, ⟨rfl, rfl⟩, ?_⟩, he⟩
    rw [hv] at h
    rw [Nat.zero_add, h.cellAt i (by omega)]
    simp [hi, ptrE]

theorem lows_snoc (f : Nat) (last : Int) (es : List Ent) (e : Ent) : lows f last (es ++ [e]) = lows f last es ++ (if e.2.lo f ≤ last then [e] else []) := by
  unfold lows
  rw [List.filter_append]
  by_cases h : e.2.lo f ≤ last <;> simp [h]
theorem highs_snoc (f : Nat) (last : Int) (es : List Ent) (e : Ent) : highs f last (es ++ [e]) = highs f last es ++ (if last < e.2.hi f then [e] else []) := by
  unfold highs
  rw [List.filter_append]
  by_cases h : last < e.2.hi f <;> simp [h]
theorem lows_le (f : Nat) (last : Int) (es : List Ent) : (lows f last es).length ≤ es.length := List.length_filter_le _ _
theorem highs_le (f : Nat) (last : Int) (es : List Ent) : (highs f last es).length ≤ es.length := List.length_filter_le _ _

theorem own_eq {u : Value} {g1 g n c : Nat} (h1 : (Value.slice (some ⟨g1, 0, none⟩) n c).ownBlock = some g) (h5 : u.ownBlock = some g) : u.ownBlock = some g1 := by
  have e : g1 = g := by simpa [Value.ownBlock] using h1
  rw [e]
  exact h5

theorem row_snoc {w : World} {B : Nat} {v : Value} {L : List Ent} {e : Ent} (h : w.ownsRow B 147 1 v (L.length + 1) (L.map ptrE ++ [ptrE e])) : w.ownsRow B 147 1 v (L ++ [e]).length ((L ++ [e]).map ptrE) := by
  simpa using h

attribute [local go_sem] cell?_regrown

set_option maxRecDepth 100000 in
set_option maxHeartbeats 400000 in
theorem sides_walk (v : Value) (es : List Ent) (f : Nat) (last : Int) (w : World) (hes : BunchAt w v es) (hn : es.length ≤ 200) (hf : f < 5) :
    Calls Tryz.prog 159 #[v, .agg #[.int .i64 f, .int .i64 last]] w fun e w' => ∃ v1 v2, e = .returned (.tuple #[v1, v2]) ∧ BunchAt w' v1 (lows f last es) ∧ BunchAt w' v2 (highs f last es) ∧ Below w.heap.size w w' := by
  obtain ⟨a, cap, rfl, hc, he⟩ := hes
  obtain ⟨i0, hi, hz0, hz1, hz2⟩ := info_parts infoPE
  go_enter Tryz.func159, Tryz.ntmps159
  go_wp2
  go_loopw [4, 5, 12] (fun v1 v2 i wr => ∃ k : Nat, k ≤ es.length ∧ i = .int .i64 k ∧ wr.ownsRow (w.heap.size + 1) 147 1 v1 (lows f last (es.take k)).length ((lows f last (es.take k)).map ptrE) ∧ wr.ownsRow (w.heap.size + 1) 147 1 v2 (highs f last (es.take k)).length ((highs f last (es.take k)).map ptrE) ∧ (∀ g, v1.ownBlock = some g → v2.ownBlock ≠ some g) ∧ Below (w.heap.size + 1) (w.alloc (.cells #[.int .i64 f, .int .i64 last] 245)) wr) (fun _ _ i _ => es.length - (intOf i).toNat)
  case atStart => exact ⟨0, by omega, rfl, World.ownsRow_nil _ _ _ _, World.ownsRow_nil _ _ _ _, (fun g h => by cases h), Below.refl _ _⟩
  case round =>
    obtain ⟨k, hk, rfl, ho1, ho2, hdis, hb⟩ := hrel
    have hbw : Below w.heap.size w wr := Below.trans (by repeat (first | exact Below.refl _ _ | assumption | refine Below.drewN ?_ | refine Below.drew ?_ | refine Below.setCell ?_ (by first | exact Nat.le_refl _ | omega | (simp; done) | (simp; omega)) _ | refine Below.alloc ?_ (by first | exact Nat.le_refl _ | omega | (simp; done) | (simp; omega)) _)) (hb.mono (by omega))
    have hlt : w.heap.size < wr.heap.size := by have := hb.size; simp at this; omega
    have c0 : wr.cell? ⟨w.heap.size, 0, none⟩ = some (.int .i64 f) := (hb.cell (p := ⟨w.heap.size, 0, none⟩) (by exact Nat.lt_succ_self _)).trans (by simp)
    have c1 : wr.cell? ⟨w.heap.size, 1, none⟩ = some (.int .i64 last) := (hb.cell (p := ⟨w.heap.size, 1, none⟩) (by exact Nat.lt_succ_self _)).trans (by simp)
    have O1 := hide ho1
    have O2 := hide ho2
    have HD := hide hdis
    clear ho1 ho2 hdis
    by_cases hkl : k < es.length
    · obtain ⟨ab, off, ⟨rfl, hz00⟩, hcell⟩ := hc k hkl
      clear hz00
      have hcell' : wr.cell? ⟨ab, off + k, none⟩ = some (.pointer (some ⟨es[k].1, 0, none⟩)) := (hbw.cell (p := ⟨ab, off + k, none⟩) (block_lt_of_cell hcell)).trans hcell
      have hek := (he es[k] (List.getElem_mem hkl)).below hbw (he es[k] (List.getElem_mem hkl)).lt
      have hlo := hek.lo hf
      have hhi := hek.hi hf
      have heklt := hek.lt
      have hfi : (f : Int) < 5 := by omega
      generalize hee : es[k] = ek at *
      have HE := hide hee
      clear hcell hc he hee hek
      go_wp2_with fail
      refine wp_region_quiet_below (by kernel_rfl) (by kernel_rfl) ?_
      repeat (quiet_step (exact Calls.regrown_of (sides_any _ _ _ _)))
      refine wpQuiet_nil ?_; intro wq hwq; replace hwq := below_of_regrown hwq; obtain ⟨hcq, hfq⟩ := bcell hwq; have hzq := hwq.size
      have hbq : Below (w.heap.size + 1) (w.alloc (.cells #[.int .i64 f, .int .i64 last] 245)) wq := hb.trans (hwq.mono (by omega))
      have hltq : w.heap.size < wq.heap.size := Nat.lt_of_lt_of_le hlt hzq
      have o1 := hide (ownsRow_below O1.out hwq (Nat.le_refl _))
      have o2 := hide (ownsRow_below O2.out hwq (Nat.le_refl _))
      have l1 := lows_le f last (es.take k)
      have l2 := highs_le f last (es.take k)
      have lt' : (es.take k).length = k := by simp; omega
      rw [lt'] at l1 l2
      have HT : Hid (es.take (k + 1) = es.take k ++ [ek]) := by rw [List.take_succ_eq_append_getElem hkl, HE.out]; exact rfl
      clear hcq hfq hlo hhi hcell' c0 c1 hwq heklt lt'
      generalize hL : lows f last (es.take k) = L at *
      generalize hH : highs f last (es.take k) = H at *
      have HL := hide hL
      have HH := hide hH
      have HB := hide hbq
      clear hL hH O1 O2 hb hlt hbw hbq
      by_cases b1 : ek.2.lo f ≤ last
      · by_cases b2 : last < ek.2.hi f
        · go_wp2_with (first | (at_builtin; refine wpList_append_lies _ rfl _ _ 180 rfl (w.heap.size + 1) 147 i0 (.pointer none) 1 8 underBunch hi hz0 hz1 hz2 rfl (by decide) _ _ _ rfl (o1.out.alloc _) ⟨wq.heap.size, 0, none⟩ 1 1 [ptrE ek] rfl rfl (cell_one_new _ _ _) (by simp [ptrE, Value.oneCell']) (by decide) (by unfold maxLen; omega) (by omega) (by simp; omega) _ rfl ?_))
          intro g1 cap1 w1 hown1 hgrow1 hat1 hlt1
          have P1 := hide (other_row o2.out HD.out hgrow1 hat1)
          have B1 := hide (below_append HB.out hltq o1.out (Nat.le_refl _) hgrow1)
          have hlt1' : w.heap.size < w1.heap.size := by have := B1.out.size; simp at this; omega
          have H1 := hide hown1
          clear hown1 hgrow1 hat1
          go_wp2_with (first | (at_builtin; refine wpList_append_lies _ rfl _ _ 180 rfl (w.heap.size + 1) 147 i0 (.pointer none) 1 8 underBunch hi hz0 hz1 hz2 rfl (by decide) _ _ _ rfl (P1.out.1.alloc _) ⟨w1.heap.size, 0, none⟩ 1 1 [ptrE ek] rfl rfl (cell_one_new _ _ _) (by simp [ptrE, Value.oneCell']) (by decide) (by unfold maxLen; omega) (by omega) (by simp; omega) _ rfl ?_))
          intro g2 cap2 w2 hown2 hgrow2 hat2 hlt2
          have P2 := hide (other_row (v1 := u5) H1.out (fun g h5 h1 => P1.out.2 (own_eq h1 h5)) hgrow2 hat2)
          have B2 := hide (below_append B1.out hlt1' P1.out.1 (Nat.le_refl _) hgrow2)
          have H2 := hide hown2
          clear hown2 hgrow2 hat2
          go_wp2
          go_roundw
          case rel => exact ⟨k + 1, by omega, by go_num, by rw [HT.out, lows_snoc, HL.out, if_pos b1]; exact row_snoc P2.out.1, by rw [HT.out, highs_snoc, HH.out, if_pos b2]; exact row_snoc H2.out, fun g h1 h2 => P2.out.2 (h1.trans h2.symm |>.trans (by rfl)), B2.out⟩
          case measure => simp [intOf]; omega
        · go_wp2_with (first | (at_builtin; refine wpList_append_lies _ rfl _ _ 180 rfl (w.heap.size + 1) 147 i0 (.pointer none) 1 8 underBunch hi hz0 hz1 hz2 rfl (by decide) _ _ _ rfl (o1.out.alloc _) ⟨wq.heap.size, 0, none⟩ 1 1 [ptrE ek] rfl rfl (cell_one_new _ _ _) (by simp [ptrE, Value.oneCell']) (by decide) (by unfold maxLen; omega) (by omega) (by simp; omega) _ rfl ?_))
          intro g1 cap1 w1 hown1 hgrow1 hat1 hlt1
          have P1 := hide (other_row o2.out HD.out hgrow1 hat1)
          have B1 := hide (below_append HB.out hltq o1.out (Nat.le_refl _) hgrow1)
          have H1 := hide hown1
          clear hown1 hgrow1 hat1
          go_wp2
          go_roundw
          case rel => exact ⟨k + 1, by omega, by go_num, by rw [HT.out, lows_snoc, HL.out, if_pos b1]; exact row_snoc H1.out, by rw [HT.out, highs_snoc, HH.out, if_neg (by omega), List.append_nil]; exact P1.out.1, fun g h1 h2 => P1.out.2 (h2.trans h1.symm |>.trans (by rfl)), B1.out⟩
          case measure => simp [intOf]; omega
      · by_cases b2 : last < ek.2.hi f
        · go_wp2_with (first | (at_builtin; refine wpList_append_lies _ rfl _ _ 180 rfl (w.heap.size + 1) 147 i0 (.pointer none) 1 8 underBunch hi hz0 hz1 hz2 rfl (by decide) _ _ _ rfl (o2.out.alloc _) ⟨wq.heap.size, 0, none⟩ 1 1 [ptrE ek] rfl rfl (cell_one_new _ _ _) (by simp [ptrE, Value.oneCell']) (by decide) (by unfold maxLen; omega) (by omega) (by simp; omega) _ rfl ?_))
          intro g1 cap1 w1 hown1 hgrow1 hat1 hlt1
          have P1 := hide (other_row o1.out (fun g h5 h1 => HD.out g h1 h5) hgrow1 hat1)
          have B1 := hide (below_append HB.out hltq o2.out (Nat.le_refl _) hgrow1)
          have H1 := hide hown1
          clear hown1 hgrow1 hat1
          go_wp2
          go_roundw
          case rel => exact ⟨k + 1, by omega, by go_num, by rw [HT.out, lows_snoc, HL.out, if_neg (by omega), List.append_nil]; exact P1.out.1, by rw [HT.out, highs_snoc, HH.out, if_pos b2]; exact row_snoc H1.out, fun g h1 h2 => P1.out.2 (h1.trans h2.symm |>.trans (by rfl)), B1.out⟩
          case measure => simp [intOf]; omega
        · go_wp2
          go_roundw
          case rel => exact ⟨k + 1, by omega, by go_num, by rw [HT.out, lows_snoc, HL.out, if_neg (by omega), List.append_nil]; exact o1.out, by rw [HT.out, highs_snoc, HH.out, if_neg (by omega), List.append_nil]; exact o2.out, HD.out, HB.out⟩
          case measure => simp [intOf]; omega
    · have hke : k = es.length := by omega
      have hent : ∀ e ∈ es, EntAt wr e.1 e.2 := fun e hm => (he e hm).below hbw (he e hm).lt
      have o1 := O1.out
      have o2 := O2.out
      rw [hke, List.take_length] at o1 o2
      have HO1 := hide (bunch_of_row o1 fun e hm => hent e (List.mem_filter.1 hm).1)
      have HO2 := hide (bunch_of_row o2 fun e hm => hent e (List.mem_filter.1 hm).1)
      clear hc he o1 o2 O1 O2 hent
      go_wp2
      go_ret2
      exact ⟨_, _, rfl, HO1.out, HO2.out, hbw⟩

end Go.Proofs.YtaejpejfmpbinaaGreatDoor

namespace Go.Proofs.YtaejpejfmpbinaaGreatDoor
open Go.RowKit

theorem buildEntry (id pr k0 v0 m0 k1 v1 m1 k2 v2 m2 k3 v3 m3 k4 v4 m4 ac po : Int) (w : World) : (Instr.build 185 #[(0, .agg #[.int .i64 id, .int .i64 pr, .int .i64 k0, .int .i64 v0, .int .i64 m0, .int .i64 k1, .int .i64 v1, .int .i64 m1, .int .i64 k2, .int .i64 v2, .int .i64 m2, .int .i64 k3, .int .i64 v3, .int .i64 m3, .int .i64 k4, .int .i64 v4, .int .i64 m4, .int .i64 ac, .int .i64 po])]).run Tryz.prog w = .ok (.agg #[.int .i64 id, .int .i64 pr, .int .i64 k0, .int .i64 v0, .int .i64 m0, .int .i64 k1, .int .i64 v1, .int .i64 m1, .int .i64 k2, .int .i64 v2, .int .i64 m2, .int .i64 k3, .int .i64 v3, .int .i64 m3, .int .i64 k4, .int .i64 v4, .int .i64 m4, .int .i64 ac, .int .i64 po, .int .i64 0, .int .i64 0, .int .i64 0, .int .i64 0, .int .i64 0, .int .i64 0, .int .i64 0, .int .i64 0, .int .i64 0, .int .i64 0]) w := by kernel_rfl
theorem isRow_of {P : Program} {t : TypeId} (h : (P.underlying t).any TypeDesc.isRow = true) : ∃ d, P.underlying t = some d ∧ d.isRow = true := by
  cases hd : P.underlying t with
  | none => rw [hd] at h; cases h
  | some d => rw [hd] at h; exact ⟨d, rfl, h⟩
theorem underRule : ∃ d, Tryz.prog.underlying 53 = some d ∧ d.isRow = true := isRow_of (by kernel_rfl)
theorem underMatch5 : ∃ d, Tryz.prog.underlying 51 = some d ∧ d.isRow = true := isRow_of (by kernel_rfl)
theorem sizeRule : (Tryz.prog.info? 53).map (·.size) = some 19 := by kernel_rfl
theorem sizeMatch5 : (Tryz.prog.info? 51).map (·.size) = some 15 := by kernel_rfl
theorem range_new (w : World) (cs : Array Value) (t : TypeId) : (w.alloc (.cells cs t)).rangeAt w.heap.size 0 cs.toList := fun j v hv => by
  rw [Nat.zero_add, World.cell?_alloc_new]; simpa using hv

theorem set_same {w : World} {b i : Nat} {u v : Value} (h : w.cell? ⟨b, i, none⟩ = some u) : (w.setCell ⟨b, i, none⟩ v).cell? ⟨b, i, none⟩ = some v := World.cell?_setCell_same _ _ _ h
theorem set_other {w : World} {b i b' i' : Nat} {v : Value} (h : b ≠ b' ∨ i ≠ i') : (w.setCell ⟨b, i, none⟩ v).cell? ⟨b', i', none⟩ = w.cell? ⟨b', i', none⟩ :=
  World.cell?_setCell_other _ _ _ _ (by simp; omega)

/-- Block e is becoming the entry of rule r: the hulls of the first k fields are laid. -/
def EP (w : World) (e k : Nat) (r : Rl) : Prop :=
  e < w.heap.size ∧ (∀ j, w.frozen? ⟨e, j, none⟩ = false) ∧ (∀ j, j < 19 → w.cell? ⟨e, j, none⟩ = r.ecells[j]?) ∧ (∀ j, j < k → w.cell? ⟨e, 19 + j * 2, none⟩ = some (.int .i64 (r.lo j)) ∧ w.cell? ⟨e, 19 + j * 2 + 1, none⟩ = some (.int .i64 (r.hi j))) ∧ (∀ j, j < 29 → ∃ v, w.cell? ⟨e, j, none⟩ = some v) ∧ w.cell? ⟨e, 29, none⟩ = none

theorem EP.below {B : Nat} {w w' : World} {e k : Nat} {r : Rl} (h : EP w e k r) (hb : Below B w w') (hB : e < B) : EP w' e k r := by
  have hc : ∀ j, w'.cell? ⟨e, j, none⟩ = w.cell? ⟨e, j, none⟩ := fun j => hb.cell (p := ⟨e, j, none⟩) hB
  have hf : ∀ j, w'.frozen? ⟨e, j, none⟩ = w.frozen? ⟨e, j, none⟩ := fun j => hb.frozen (p := ⟨e, j, none⟩) hB
  refine ⟨Nat.lt_of_lt_of_le h.1 hb.size, fun j => (hf j).trans (h.2.1 j), fun j hj => (hc j).trans (h.2.2.1 j hj), fun j hj => ?_, fun j hj => ?_, (hc 29).trans h.2.2.2.2.2⟩
  · rw [hc, hc]; exact h.2.2.2.1 j hj
  · rw [hc]; exact h.2.2.2.2.1 j hj

theorem EP.set {w : World} {e k : Nat} {r : Rl} (h : EP w e k r) (hk : k < 5) :
    EP ((w.setCell ⟨e, 19 + k * 2, none⟩ (.int .i64 (r.lo k))).setCell ⟨e, 19 + k * 2 + 1, none⟩ (.int .i64 (r.hi k))) e (k + 1) r := by
  obtain ⟨h1, h2, h3, h4, h5, h6⟩ := h
  have other : ∀ j, j ≠ 19 + k * 2 → j ≠ 19 + k * 2 + 1 → ((w.setCell ⟨e, 19 + k * 2, none⟩ (.int .i64 (r.lo k))).setCell ⟨e, 19 + k * 2 + 1, none⟩ (.int .i64 (r.hi k))).cell? ⟨e, j, none⟩ = w.cell? ⟨e, j, none⟩ := by
    intro j hj1 hj2
    rw [set_other (.inr (by omega)), set_other (.inr (by omega))]
  obtain ⟨u0, hu0⟩ := h5 (19 + k * 2) (by omega)
  obtain ⟨u1, hu1⟩ := h5 (19 + k * 2 + 1) (by omega)
  have s1 : ((w.setCell ⟨e, 19 + k * 2, none⟩ (.int .i64 (r.lo k))).setCell ⟨e, 19 + k * 2 + 1, none⟩ (.int .i64 (r.hi k))).cell? ⟨e, 19 + k * 2 + 1, none⟩ = some (.int .i64 (r.hi k)) :=
    set_same (u := u1) (by rw [set_other (.inr (by omega))]; exact hu1)
  have s0 : ((w.setCell ⟨e, 19 + k * 2, none⟩ (.int .i64 (r.lo k))).setCell ⟨e, 19 + k * 2 + 1, none⟩ (.int .i64 (r.hi k))).cell? ⟨e, 19 + k * 2, none⟩ = some (.int .i64 (r.lo k)) := by
    rw [set_other (.inr (by omega))]
    exact set_same hu0
  refine ⟨by simpa using h1, fun j => by simpa using h2 j, fun j hj => (other j (by omega) (by omega)).trans (h3 j hj), fun j hj => ?_, fun j hj => ?_, (other 29 (by omega) (by omega)).trans h6⟩
  · by_cases hjk : j = k
    · subst hjk; exact ⟨s0, s1⟩
    · rw [other _ (by omega) (by omega), other _ (by omega) (by omega)]
      exact h4 j (by omega)
  · by_cases e0 : j = 19 + k * 2
    · subst e0; exact ⟨_, s0⟩
    · by_cases e1 : j = 19 + k * 2 + 1
      · subst e1; exact ⟨_, s1⟩
      · rw [other j e0 e1]; exact h5 j hj

theorem EP.done {w : World} {e : Nat} {r : Rl} (h : EP w e 5 r) : EntAt w e r := by
  intro i hi
  by_cases h19 : i < 19
  · exact h.2.2.1 i h19
  · have h0 := h.2.2.2.1 0 (by omega)
    have h1 := h.2.2.2.1 1 (by omega)
    have h2 := h.2.2.2.1 2 (by omega)
    have h3 := h.2.2.2.1 3 (by omega)
    have h4 := h.2.2.2.1 4 (by omega)
    obtain ⟨j, rfl⟩ : ∃ j, i = 19 + j := ⟨i - 19, by omega⟩
    have hj : j < 11 := by omega
    match j, hj with
    | 0, _ => exact h0.1
    | 1, _ => exact h0.2
    | 2, _ => exact h1.1
    | 3, _ => exact h1.2
    | 4, _ => exact h2.1
    | 5, _ => exact h2.2
    | 6, _ => exact h3.1
    | 7, _ => exact h3.2
    | 8, _ => exact h4.1
    | 9, _ => exact h4.2
    | 10, _ => exact h.2.2.2.2.2

theorem EP.start (w : World) (r : Rl) (o : Obj) : EP ((w.alloc o).alloc (.cells #[.int .i64 r.id, .int .i64 r.pr, .int .i64 r.k0, .int .i64 r.v0, .int .i64 r.m0, .int .i64 r.k1, .int .i64 r.v1, .int .i64 r.m1, .int .i64 r.k2, .int .i64 r.v2, .int .i64 r.m2, .int .i64 r.k3, .int .i64 r.v3, .int .i64 r.m3, .int .i64 r.k4, .int .i64 r.v4, .int .i64 r.m4, .int .i64 r.ac, .int .i64 r.po, .int .i64 0, .int .i64 0, .int .i64 0, .int .i64 0, .int .i64 0, .int .i64 0, .int .i64 0, .int .i64 0, .int .i64 0, .int .i64 0] 185)) (w.heap.size + 1) 0 r := by
  have hc : ∀ j, ((w.alloc o).alloc (.cells #[.int .i64 r.id, .int .i64 r.pr, .int .i64 r.k0, .int .i64 r.v0, .int .i64 r.m0, .int .i64 r.k1, .int .i64 r.v1, .int .i64 r.m1, .int .i64 r.k2, .int .i64 r.v2, .int .i64 r.m2, .int .i64 r.k3, .int .i64 r.v3, .int .i64 r.m3, .int .i64 r.k4, .int .i64 r.v4, .int .i64 r.m4, .int .i64 r.ac, .int .i64 r.po, .int .i64 0, .int .i64 0, .int .i64 0, .int .i64 0, .int .i64 0, .int .i64 0, .int .i64 0, .int .i64 0, .int .i64 0, .int .i64 0] 185)).cell? ⟨w.heap.size + 1, j, none⟩ = (#[.int .i64 r.id, .int .i64 r.pr, .int .i64 r.k0, .int .i64 r.v0, .int .i64 r.m0, .int .i64 r.k1, .int .i64 r.v1, .int .i64 r.m1, .int .i64 r.k2, .int .i64 r.v2, .int .i64 r.m2, .int .i64 r.k3, .int .i64 r.v3, .int .i64 r.m3, .int .i64 r.k4, .int .i64 r.v4, .int .i64 r.m4, .int .i64 r.ac, .int .i64 r.po, .int .i64 0, .int .i64 0, .int .i64 0, .int .i64 0, .int .i64 0, .int .i64 0, .int .i64 0, .int .i64 0, .int .i64 0, .int .i64 0] : Array Value)[j]? := fun j => World.cell?_alloc_at _ _ _ _ (by simp)
  refine ⟨by simp, fun j => World.frozen?_alloc_at _ _ _ _ (by simp), fun j hj => ?_, fun j hj => by omega, fun j hj => ?_, by rw [hc]; rfl⟩
  · rw [hc]
    match j, hj with
    | 0, _ => exact rfl
    | 1, _ => exact rfl
    | 2, _ => exact rfl
    | 3, _ => exact rfl
    | 4, _ => exact rfl
    | 5, _ => exact rfl
    | 6, _ => exact rfl
    | 7, _ => exact rfl
    | 8, _ => exact rfl
    | 9, _ => exact rfl
    | 10, _ => exact rfl
    | 11, _ => exact rfl
    | 12, _ => exact rfl
    | 13, _ => exact rfl
    | 14, _ => exact rfl
    | 15, _ => exact rfl
    | 16, _ => exact rfl
    | 17, _ => exact rfl
    | 18, _ => exact rfl
    | n + 19, h => exact absurd h (by omega)
  · rw [hc]
    exact ⟨_, Array.getElem?_eq_getElem (by simpa using hj)⟩

end Go.Proofs.YtaejpejfmpbinaaGreatDoor

namespace Go.Proofs.YtaejpejfmpbinaaGreatDoor
open Go.RowKit

attribute [local go_sem] ixM0 ixM1 ixM2 ixM3 ixM4
attribute [local go_sem ↓] buildEntry

set_option maxRecDepth 100000 in
set_option maxHeartbeats 1600000 in
theorem entryOf_walk (r : Rl) (w : World) (hl : Laid w) :
    Calls Tryz.prog 83 #[.agg #[.int .i64 r.id, .int .i64 r.pr, .int .i64 r.k0, .int .i64 r.v0, .int .i64 r.m0, .int .i64 r.k1, .int .i64 r.v1, .int .i64 r.m1, .int .i64 r.k2, .int .i64 r.v2, .int .i64 r.m2, .int .i64 r.k3, .int .i64 r.v3, .int .i64 r.m3, .int .i64 r.k4, .int .i64 r.v4, .int .i64 r.m4, .int .i64 r.ac, .int .i64 r.po]] w fun e w' => e = .returned (.pointer (some ⟨w.heap.size + 1, 0, none⟩)) ∧ EntAt w' (w.heap.size + 1) r ∧ Below w.heap.size w w' := by
  obtain ⟨dr, hur, hdr⟩ := underRule
  obtain ⟨dm, hum, hdm⟩ := underMatch5
  have hE0 := hide (EP.start w r (.cells #[.int .i64 r.id, .int .i64 r.pr, .int .i64 r.k0, .int .i64 r.v0, .int .i64 r.m0, .int .i64 r.k1, .int .i64 r.v1, .int .i64 r.m1, .int .i64 r.k2, .int .i64 r.v2, .int .i64 r.m2, .int .i64 r.k3, .int .i64 r.v3, .int .i64 r.m3, .int .i64 r.k4, .int .i64 r.v4, .int .i64 r.m4, .int .i64 r.ac, .int .i64 r.po] 53))
  have hM : ((w.alloc (.cells #[.int .i64 r.id, .int .i64 r.pr, .int .i64 r.k0, .int .i64 r.v0, .int .i64 r.m0, .int .i64 r.k1, .int .i64 r.v1, .int .i64 r.m1, .int .i64 r.k2, .int .i64 r.v2, .int .i64 r.m2, .int .i64 r.k3, .int .i64 r.v3, .int .i64 r.m3, .int .i64 r.k4, .int .i64 r.v4, .int .i64 r.m4, .int .i64 r.ac, .int .i64 r.po] 53)).alloc (.cells #[.int .i64 r.id, .int .i64 r.pr, .int .i64 r.k0, .int .i64 r.v0, .int .i64 r.m0, .int .i64 r.k1, .int .i64 r.v1, .int .i64 r.m1, .int .i64 r.k2, .int .i64 r.v2, .int .i64 r.m2, .int .i64 r.k3, .int .i64 r.v3, .int .i64 r.m3, .int .i64 r.k4, .int .i64 r.v4, .int .i64 r.m4, .int .i64 r.ac, .int .i64 r.po, .int .i64 0, .int .i64 0, .int .i64 0, .int .i64 0, .int .i64 0, .int .i64 0, .int .i64 0, .int .i64 0, .int .i64 0, .int .i64 0] 185)).rangeAt w.heap.size 2 [.int .i64 r.k0, .int .i64 r.v0, .int .i64 r.m0, .int .i64 r.k1, .int .i64 r.v1, .int .i64 r.m1, .int .i64 r.k2, .int .i64 r.v2, .int .i64 r.m2, .int .i64 r.k3, .int .i64 r.v3, .int .i64 r.m3, .int .i64 r.k4, .int .i64 r.v4, .int .i64 r.m4] := World.rangeAt_alloc (fun j v hv => by
    rw [World.cell?_alloc_new]
    have hj : j < 15 := by
      rcases Nat.lt_or_ge j 15 with h | h
      · exact h
      · rw [List.getElem?_eq_none (by simpa using h)] at hv; cases hv
    match j, hj with
    | 0, _ => exact hv
    | 1, _ => exact hv
    | 2, _ => exact hv
    | 3, _ => exact hv
    | 4, _ => exact hv
    | 5, _ => exact hv
    | 6, _ => exact hv
    | 7, _ => exact hv
    | 8, _ => exact hv
    | 9, _ => exact hv
    | 10, _ => exact hv
    | 11, _ => exact hv
    | 12, _ => exact hv
    | 13, _ => exact hv
    | 14, _ => exact hv
    | n + 15, h => exact absurd h (by omega)) _
  have HM := hide hM
  clear hM
  go_enter Tryz.func83, Tryz.ntmps83
  go_wp2_with (first | (refine wpList_load_mid rfl 53 _ rfl w.heap.size 0 rfl [.int .i64 r.id, .int .i64 r.pr, .int .i64 r.k0, .int .i64 r.v0, .int .i64 r.m0, .int .i64 r.k1, .int .i64 r.v1, .int .i64 r.m1, .int .i64 r.k2, .int .i64 r.v2, .int .i64 r.m2, .int .i64 r.k3, .int .i64 r.v3, .int .i64 r.m3, .int .i64 r.k4, .int .i64 r.v4, .int .i64 r.m4, .int .i64 r.ac, .int .i64 r.po] dr (range_new _ _ _) hur hdr sizeRule ?_) | (refine wpList_load_mid rfl 51 _ rfl w.heap.size 2 rfl [.int .i64 r.k0, .int .i64 r.v0, .int .i64 r.m0, .int .i64 r.k1, .int .i64 r.v1, .int .i64 r.m1, .int .i64 r.k2, .int .i64 r.v2, .int .i64 r.m2, .int .i64 r.k3, .int .i64 r.v3, .int .i64 r.m3, .int .i64 r.k4, .int .i64 r.v4, .int .i64 r.m4] dm HM.out hum hdm sizeMatch5 ?_))
  go_loopw [11] (fun i wr => ∃ k : Nat, k ≤ 5 ∧ i = .int .i64 k ∧ Below w.heap.size w wr ∧ EP wr (w.heap.size + 1) k r) (fun i _ => 5 - (intOf i).toNat)
  case atStart => exact ⟨0, by omega, rfl, (by repeat (first | exact Below.refl _ _ | assumption | refine Below.drewN ?_ | refine Below.drew ?_ | refine Below.setCell ?_ (by first | exact Nat.le_refl _ | omega | (simp; done) | (simp; omega)) _ | refine Below.alloc ?_ (by first | exact Nat.le_refl _ | omega | (simp; done) | (simp; omega)) _)), hE0.out⟩
  case round =>
    obtain ⟨k, hk, rfl, hb, hep⟩ := hrel
    obtain ⟨g0, g1, g2, g3, g4, g5, g6, g7, g8, g9, g10, g11, g12, g13, g14⟩ := hl.below hb hl.pos
    have hlen := Nat.lt_of_lt_of_le hl.pos hb.size
    have hp := hl.pos
    have hltE := hep.1
    have hlt0 : w.heap.size < wr.heap.size := by omega
    have hne1 : ¬ wr.heap.size = w.heap.size + 1 := by omega
    have hne2 : ¬ w.heap.size + 1 = wr.heap.size := by omega
    clear hl hur hdr hum hdm HM hE0
    match k, hk with
    | 0, _ =>
      have hfz0 := hep.2.1 19
      have hfz1 := hep.2.1 20
      obtain ⟨z0, hz0⟩ := hep.2.2.2.2.1 19 (by omega)
      obtain ⟨z1, hz1⟩ := hep.2.2.2.2.1 20 (by omega)
      have HE := hide hep
      clear hep
      go_wp2_with fail
      go_region_held3 (fun w' => w'.cell? ⟨wr.heap.size, 0, none⟩ = some (.int .i64 r.k0) ∧ w'.cell? ⟨wr.heap.size, 1, none⟩ = some (.int .i64 r.v0) ∧ w'.cell? ⟨wr.heap.size, 2, none⟩ = some (.int .i64 r.m0) ∧ w'.cell? ⟨0, 0, none⟩ = some (.int .i64 32) ∧ w'.cell? ⟨0, 1, none⟩ = some (.int .i64 0) ∧ w'.cell? ⟨0, 2, none⟩ = some (.int .i64 4294967295)) (go_keep)
        (first | (go_at_call 125; refine (hullOf_any _ _ _ _ _ _ _).mono ?_; rintro e w' ⟨rfl, hbb⟩; obtain ⟨hcb, hfb⟩ := bcell hbb))
      have E1 := ((HE.out.below ((Below.refl wr.heap.size wr).alloc (Nat.le_refl _) _).drew hltE).below hbb (by simp; omega)).set (k := 0) (by omega)
      have B1 : Below w.heap.size w _ := Below.setCell (Below.setCell (hb.trans (Below.trans ((Below.refl _ _).alloc hb.size _).drew (hbb.mono (by have := hb.size; simp; omega)))) (p := ⟨w.heap.size + 1, 19, none⟩) (by simp) (.int .i64 r.v0)) (p := ⟨w.heap.size + 1, 20, none⟩) (by simp) (.int .i64 (topB r.k0 r.v0 r.m0 4294967295))
      have HE1 := hide E1
      have HB1 := hide B1
      clear E1 B1 hcb hfb hbb
      go_wp2
      go_roundw
      case rel => exact ⟨1, by omega, rfl, HB1.out, HE1.out⟩
      case measure => simp [intOf]
    | 1, _ =>
      have hfz0 := hep.2.1 21
      have hfz1 := hep.2.1 22
      obtain ⟨z0, hz0⟩ := hep.2.2.2.2.1 21 (by omega)
      obtain ⟨z1, hz1⟩ := hep.2.2.2.2.1 22 (by omega)
      have HE := hide hep
      clear hep
      go_wp2_with fail
      go_region_held3 (fun w' => w'.cell? ⟨wr.heap.size, 0, none⟩ = some (.int .i64 r.k1) ∧ w'.cell? ⟨wr.heap.size, 1, none⟩ = some (.int .i64 r.v1) ∧ w'.cell? ⟨wr.heap.size, 2, none⟩ = some (.int .i64 r.m1) ∧ w'.cell? ⟨0, 3, none⟩ = some (.int .i64 32) ∧ w'.cell? ⟨0, 4, none⟩ = some (.int .i64 0) ∧ w'.cell? ⟨0, 5, none⟩ = some (.int .i64 4294967295)) (go_keep)
        (first | (go_at_call 125; refine (hullOf_any _ _ _ _ _ _ _).mono ?_; rintro e w' ⟨rfl, hbb⟩; obtain ⟨hcb, hfb⟩ := bcell hbb))
      have E1 := ((HE.out.below ((Below.refl wr.heap.size wr).alloc (Nat.le_refl _) _).drew hltE).below hbb (by simp; omega)).set (k := 1) (by omega)
      have B1 : Below w.heap.size w _ := Below.setCell (Below.setCell (hb.trans (Below.trans ((Below.refl _ _).alloc hb.size _).drew (hbb.mono (by have := hb.size; simp; omega)))) (p := ⟨w.heap.size + 1, 21, none⟩) (by simp) (.int .i64 r.v1)) (p := ⟨w.heap.size + 1, 22, none⟩) (by simp) (.int .i64 (topB r.k1 r.v1 r.m1 4294967295))
      have HE1 := hide E1
      have HB1 := hide B1
      clear E1 B1 hcb hfb hbb
      go_wp2
      go_roundw
      case rel => exact ⟨2, by omega, rfl, HB1.out, HE1.out⟩
      case measure => simp [intOf]
    | 2, _ =>
      have hfz0 := hep.2.1 23
      have hfz1 := hep.2.1 24
      obtain ⟨z0, hz0⟩ := hep.2.2.2.2.1 23 (by omega)
      obtain ⟨z1, hz1⟩ := hep.2.2.2.2.1 24 (by omega)
      have HE := hide hep
      clear hep
      go_wp2_with fail
      go_region_held3 (fun w' => w'.cell? ⟨wr.heap.size, 0, none⟩ = some (.int .i64 r.k2) ∧ w'.cell? ⟨wr.heap.size, 1, none⟩ = some (.int .i64 r.v2) ∧ w'.cell? ⟨wr.heap.size, 2, none⟩ = some (.int .i64 r.m2) ∧ w'.cell? ⟨0, 6, none⟩ = some (.int .i64 8) ∧ w'.cell? ⟨0, 7, none⟩ = some (.int .i64 0) ∧ w'.cell? ⟨0, 8, none⟩ = some (.int .i64 255)) (go_keep)
        (first | (go_at_call 125; refine (hullOf_any _ _ _ _ _ _ _).mono ?_; rintro e w' ⟨rfl, hbb⟩; obtain ⟨hcb, hfb⟩ := bcell hbb))
      have E1 := ((HE.out.below ((Below.refl wr.heap.size wr).alloc (Nat.le_refl _) _).drew hltE).below hbb (by simp; omega)).set (k := 2) (by omega)
      have B1 : Below w.heap.size w _ := Below.setCell (Below.setCell (hb.trans (Below.trans ((Below.refl _ _).alloc hb.size _).drew (hbb.mono (by have := hb.size; simp; omega)))) (p := ⟨w.heap.size + 1, 23, none⟩) (by simp) (.int .i64 r.v2)) (p := ⟨w.heap.size + 1, 24, none⟩) (by simp) (.int .i64 (topB r.k2 r.v2 r.m2 255))
      have HE1 := hide E1
      have HB1 := hide B1
      clear E1 B1 hcb hfb hbb
      go_wp2
      go_roundw
      case rel => exact ⟨3, by omega, rfl, HB1.out, HE1.out⟩
      case measure => simp [intOf]
    | 3, _ =>
      have hfz0 := hep.2.1 25
      have hfz1 := hep.2.1 26
      obtain ⟨z0, hz0⟩ := hep.2.2.2.2.1 25 (by omega)
      obtain ⟨z1, hz1⟩ := hep.2.2.2.2.1 26 (by omega)
      have HE := hide hep
      clear hep
      go_wp2_with fail
      go_region_held3 (fun w' => w'.cell? ⟨wr.heap.size, 0, none⟩ = some (.int .i64 r.k3) ∧ w'.cell? ⟨wr.heap.size, 1, none⟩ = some (.int .i64 r.v3) ∧ w'.cell? ⟨wr.heap.size, 2, none⟩ = some (.int .i64 r.m3) ∧ w'.cell? ⟨0, 9, none⟩ = some (.int .i64 16) ∧ w'.cell? ⟨0, 10, none⟩ = some (.int .i64 0) ∧ w'.cell? ⟨0, 11, none⟩ = some (.int .i64 65535)) (go_keep)
        (first | (go_at_call 125; refine (hullOf_any _ _ _ _ _ _ _).mono ?_; rintro e w' ⟨rfl, hbb⟩; obtain ⟨hcb, hfb⟩ := bcell hbb))
      have E1 := ((HE.out.below ((Below.refl wr.heap.size wr).alloc (Nat.le_refl _) _).drew hltE).below hbb (by simp; omega)).set (k := 3) (by omega)
      have B1 : Below w.heap.size w _ := Below.setCell (Below.setCell (hb.trans (Below.trans ((Below.refl _ _).alloc hb.size _).drew (hbb.mono (by have := hb.size; simp; omega)))) (p := ⟨w.heap.size + 1, 25, none⟩) (by simp) (.int .i64 r.v3)) (p := ⟨w.heap.size + 1, 26, none⟩) (by simp) (.int .i64 (topB r.k3 r.v3 r.m3 65535))
      have HE1 := hide E1
      have HB1 := hide B1
      clear E1 B1 hcb hfb hbb
      go_wp2
      go_roundw
      case rel => exact ⟨4, by omega, rfl, HB1.out, HE1.out⟩
      case measure => simp [intOf]
    | 4, _ =>
      have hfz0 := hep.2.1 27
      have hfz1 := hep.2.1 28
      obtain ⟨z0, hz0⟩ := hep.2.2.2.2.1 27 (by omega)
      obtain ⟨z1, hz1⟩ := hep.2.2.2.2.1 28 (by omega)
      have HE := hide hep
      clear hep
      go_wp2_with fail
      go_region_held3 (fun w' => w'.cell? ⟨wr.heap.size, 0, none⟩ = some (.int .i64 r.k4) ∧ w'.cell? ⟨wr.heap.size, 1, none⟩ = some (.int .i64 r.v4) ∧ w'.cell? ⟨wr.heap.size, 2, none⟩ = some (.int .i64 r.m4) ∧ w'.cell? ⟨0, 12, none⟩ = some (.int .i64 16) ∧ w'.cell? ⟨0, 13, none⟩ = some (.int .i64 0) ∧ w'.cell? ⟨0, 14, none⟩ = some (.int .i64 65535)) (go_keep)
        (first | (go_at_call 125; refine (hullOf_any _ _ _ _ _ _ _).mono ?_; rintro e w' ⟨rfl, hbb⟩; obtain ⟨hcb, hfb⟩ := bcell hbb))
      have E1 := ((HE.out.below ((Below.refl wr.heap.size wr).alloc (Nat.le_refl _) _).drew hltE).below hbb (by simp; omega)).set (k := 4) (by omega)
      have B1 : Below w.heap.size w _ := Below.setCell (Below.setCell (hb.trans (Below.trans ((Below.refl _ _).alloc hb.size _).drew (hbb.mono (by have := hb.size; simp; omega)))) (p := ⟨w.heap.size + 1, 27, none⟩) (by simp) (.int .i64 r.v4)) (p := ⟨w.heap.size + 1, 28, none⟩) (by simp) (.int .i64 (topB r.k4 r.v4 r.m4 65535))
      have HE1 := hide E1
      have HB1 := hide B1
      clear E1 B1 hcb hfb hbb
      go_wp2
      go_roundw
      case rel => exact ⟨5, by omega, rfl, HB1.out, HE1.out⟩
      case measure => simp [intOf]
    | 5, _ =>
      have HE := hide hep
      clear hep
      go_wp2
      go_ret
      exact ⟨rfl, HE.out.done, hb⟩

end Go.Proofs.YtaejpejfmpbinaaGreatDoor

namespace Go.Proofs.YtaejpejfmpbinaaGreatDoor
open Go.RowKit Go.Maps

theorem ba_ext {a b : ByteArray} (h : a.toList = b.toList) : a = b := by
  rw [ByteArray.toList_eq, ByteArray.toList_eq] at h
  obtain ⟨⟨x⟩⟩ := a
  obtain ⟨⟨y⟩⟩ := b
  simp at h
  rw [h]
/-- A port: its native VLAN, and which are tagged there. -/
structure Prt where
  nat : Int
  tg : Int → Bool

theorem keyI : Keyed Tryz.prog 3 := int_keyed Tryz.underlying3
theorem zeroU (w : World) : (zeroValue 135).run Tryz.prog w = .ok (.agg #[]) w := by kernel_rfl
theorem underTag : Tryz.prog.underlying 79 = some (.map 3 135) := Tryz.underlying79

/-- What a map of tagged VLANs holds. -/
def TagAt (w : World) (mv : Value) (tg : Int → Bool) : Prop :=
  (mv = .map none ∧ ∀ v, tg v = false) ∨ ∃ b n D, mv = .map (some b) ∧ w.ownsMap (H := Unit) Tryz.prog 3 unitElem b n D ∧ ∀ v, (Lit.int .i64 v).wf = true → Maps.has D (.int .i64 v) = tg v
theorem TagAt.same {w w' : World} {mv : Value} {tg : Int → Bool} (h : TagAt w mv tg) (hk : ∀ (b : Nat) (o : Obj), w.heap[b]? = some o → o.isCells = false → w'.heap[b]? = some o) : TagAt w' mv tg := by
  rcases h with h | ⟨b, n, D, e, ⟨es, cl, h1, h2⟩, h3⟩
  · exact .inl h
  · exact .inr ⟨b, n, D, e, ⟨es, cl, hk b _ h1 rfl, h2⟩, h3⟩
theorem TagAt.below {w w' : World} {mv : Value} {tg : Int → Bool} (h : TagAt w mv tg) (hb : Below w.heap.size w w') : TagAt w' mv tg :=
  h.same fun b o ho _ => by
    have hlt : b < w.heap.size := by
      rcases Nat.lt_or_ge b w.heap.size with h | h
      · exact h
      · rw [Array.getElem?_eq_none h] at ho; cases ho
    rw [hb.block b hlt, ho]

set_option maxRecDepth 100000 in
theorem hasTagged_any (nat : Int) (mv : Value) (tg : Int → Bool) (v : Int) (w : World) (h : TagAt w mv tg) (hv : (Lit.int .i64 v).wf = true) :
    Calls Tryz.prog 51 #[.agg #[.int .i64 nat, mv], .int .i64 v] w fun e w' => e = .returned (.bool (tg v)) ∧ Below w.heap.size w w' := by
  have hkey := keyOf_int_mk Tryz.underlying3 hv
  rcases h with ⟨rfl, h0⟩ | ⟨b, n, D, rfl, hown, hD⟩
  · have hl : ∀ W : World, (Instr.lookup 79 (.map none) (.int .i64 v) true).run Tryz.prog W = .ok (.tuple #[.agg #[], .bool false]) W := fun W => Maps.look_nil (w := W) true keyI underTag (zeroU W) hkey
    rw [h0]
    go_enter Tryz.func51, Tryz.ntmps51
    go_wp2
    go_ret
    exact ⟨rfl, ((Below.refl _ w).alloc (Nat.le_refl _) _).alloc (by simp) _⟩
  · have HD := hide (hD v hv)
    clear hD
    go_enter Tryz.func51, Tryz.ntmps51
    go_wp2_with (first | (at_lookup; refine wpList_lookup_own_unit _ rfl _ _ 79 rfl 3 135 keyI underTag (zeroU _) b n D rfl (hown.alloc _) _ _ rfl hkey ?_))
    go_ret
    exact ⟨by rw [← HD.out]; rfl, ((Below.refl _ w).alloc (Nat.le_refl _) _).alloc (by simp) _⟩

set_option maxRecDepth 100000 in
theorem has_any (nat : Int) (mv : Value) (tg : Int → Bool) (v : Int) (w : World) (h : TagAt w mv tg) (hv : (Lit.int .i64 v).wf = true) :
    Calls Tryz.prog 69 #[.agg #[.int .i64 nat, mv], .int .i64 v] w fun e w' => e = .returned (.bool (v == nat || tg v)) ∧ Below w.heap.size w w' := by
  have hb0 : Below w.heap.size w (w.alloc (.cells #[.int .i64 nat, mv] 81)) := (Below.refl _ w).alloc (Nat.le_refl _) _
  have C := hide (hasTagged_any nat mv tg v _ (h.below hb0) hv)
  have hone : mv.oneCell' = true := by rcases h with ⟨rfl, _⟩ | ⟨b, n, D, rfl, _⟩ <;> rfl
  have HB := hide hb0
  by_cases hx : v = nat
  · subst hx
    rw [show (v == v) = true from by simp, Bool.true_or]
    go_enter Tryz.func69, Tryz.ntmps69
    go_wp2_with fail
    go_ret
    exact ⟨rfl, HB.out⟩
  · go_enter Tryz.func69, Tryz.ntmps69
    go_wp2_with fail
    refine C.out.mono ?_
    rintro e w1 ⟨rfl, hb1⟩
    go_wp2_with fail
    go_ret
    exact ⟨rfl, HB.out.trans (hb1.mono (by simp))⟩
end Go.Proofs.YtaejpejfmpbinaaGreatDoor
