import Derived.Test.YtnjalelblbjfiaaGreatDoorP4
import Derived.Deep.AppendLies
import Derived.Deep.MidRow
namespace Go.Proofs.YtnjalelblbjfiaaGreatDoor
open Go.RowKit
open Go.Sort (grow)

theorem infoPE : (Tryz.prog.info? 96).map (fun i => (i.zero, i.size, i.bytes)) = some (some (.pointer none), 1, 8) := by kernel_rfl
theorem underBunch : Tryz.prog.underlying 118 = some (.slice 96) := by kernel_rfl

def ptrE (e : Ent) : Value := .pointer (some ⟨e.1, 0, none⟩)

theorem EntAt.lo {w : World} {b : Nat} {r : Rl} (h : EntAt w b r) {f : Nat} (hf : f < 5) : w.cell? ⟨b, 19 + f * 2, none⟩ = some (.int .i64 (r.lo f)) := by
  match f, hf with
  | 0, _ => exact h.c19
  | 1, _ => exact h.c21
  | 2, _ => exact h.c23
  | 3, _ => exact h.c25
  | 4, _ => exact h.c27
theorem EntAt.hi {w : World} {b : Nat} {r : Rl} (h : EntAt w b r) {f : Nat} (hf : f < 5) : w.cell? ⟨b, 19 + f * 2 + 1, none⟩ = some (.int .i64 (r.hi f)) := by
  match f, hf with
  | 0, _ => exact h.c20
  | 1, _ => exact h.c22
  | 2, _ => exact h.c24
  | 3, _ => exact h.c26
  | 4, _ => exact h.c28

def lows (f : Nat) (last : Int) (es : List Ent) : List Ent := es.filter fun e => decide (e.2.lo f ≤ last)
def highs (f : Nat) (last : Int) (es : List Ent) : List Ent := es.filter fun e => decide (last < e.2.hi f)

theorem ownsRow_below {B : Nat} {w w' : World} {base : Nat} {e : TypeId} {size : Nat} {v : Value} {n : Nat} {xs : List Value} (h : w.ownsRow base e size v n xs) (hb : Below B w w') (hB : w.heap.size ≤ B) : w'.ownsRow base e size v n xs := by
  refine h.kept (row := none) ⟨hb.os, hb.tape, hb.output, hb.size, fun k hk _ => hb.block k (Nat.lt_of_lt_of_le hk hB)⟩ ?_
  cases hv : v.ownBlock with
  | none => exact .inl rfl
  | some g => exact .inr (by simp)

/-- Behind an append to one of two rows of the call's own: the other one is as it was, and lies elsewhere. -/
theorem other_row {wq w1 : World} {B : Nat} {e : TypeId} {size : Nat} {v1 v2 : Value} {n2 : Nat} {xs2 : List Value} {o : Obj} {g : Nat}
    (o2 : wq.ownsRow B e size v2 n2 xs2) (hdis : ∀ g, v1.ownBlock = some g → v2.ownBlock ≠ some g) (hgrow : (wq.alloc o).grownBy w1 v1.ownBlock) (hat : v1.ownBlock = some g ∨ g = wq.heap.size + 1) :
    w1.ownsRow B e size v2 n2 xs2 ∧ v2.ownBlock ≠ some g := by
  refine ⟨(o2.alloc o).kept hgrow ?_, ?_⟩
  · cases h2 : v2.ownBlock with
    | none => exact .inl rfl
    | some g2 =>
      refine .inr fun h => ?_
      exact hdis g2 h.symm h2
  · intro h2
    rcases hat with h1 | h1
    · exact hdis g h1 h2
    · have := (o2.lt g h2).2
      omega

/-- Behind an append to a row of the call's own: below the base all is as it was. -/
theorem below_append {w wq w1 : World} {B b : Nat} {e : TypeId} {size : Nat} {v1 : Value} {n1 : Nat} {xs1 : List Value} {o : Obj} (hb : Below B w wq) (hB : B ≤ wq.heap.size)
    (o1 : wq.ownsRow b e size v1 n1 xs1) (hbB : B ≤ b) (hgrow : (wq.alloc o).grownBy w1 v1.ownBlock) : Below B w w1 :=
  Below.grown (hb.alloc hB o) hgrow (by simp; omega) fun k hk => by have := (o1.lt k hk).1; omega

theorem bunch_of_row {w : World} {B : Nat} {v : Value} {es : List Ent} (h : w.ownsRow B 96 1 v es.length (es.map ptrE)) (he : ∀ e ∈ es, EntAt w e.1 e.2) : BunchAt w v es := by
  rcases h.2 with ⟨hv, h0⟩ | ⟨g, cap, cur, hv, _⟩
  · exact ⟨none, 0, by rw [hv, h0], fun i hi => by omega, he⟩
  · refine ⟨some ⟨g, 0, none⟩, cap, hv, fun i hi => ⟨g, 0, ⟨rfl, rfl⟩, ?_⟩, he⟩
    rw [hv] at h
    rw [Nat.zero_add, h.cellAt i (by omega)]
    simp [hi, ptrE]

theorem lows_snoc (f : Nat) (last : Int) (es : List Ent) (e : Ent) : lows f last (es ++ [e]) = lows f last es ++ (if e.2.lo f ≤ last then [e] else []) := by
  unfold lows
  rw [List.filter_append]
  by_cases h : e.2.lo f ≤ last <;> simp [h]
theorem highs_snoc (f : Nat) (last : Int) (es : List Ent) (e : Ent) : highs f last (es ++ [e]) = highs f last es ++ (if last < e.2.hi f then [e] else []) := by
  unfold highs
  rw [List.filter_append]
  by_cases h : last < e.2.hi f <;> simp [h]
theorem lows_le (f : Nat) (last : Int) (es : List Ent) : (lows f last es).length ≤ es.length := List.length_filter_le _ _
theorem highs_le (f : Nat) (last : Int) (es : List Ent) : (highs f last es).length ≤ es.length := List.length_filter_le _ _

theorem own_eq {u : Value} {g1 g n c : Nat} (h1 : (Value.slice (some ⟨g1, 0, none⟩) n c).ownBlock = some g) (h5 : u.ownBlock = some g) : u.ownBlock = some g1 := by
  have e : g1 = g := by simpa [Value.ownBlock] using h1
  rw [e]
  exact h5

theorem row_snoc {w : World} {B : Nat} {v : Value} {L : List Ent} {e : Ent} (h : w.ownsRow B 96 1 v (L.length + 1) (L.map ptrE ++ [ptrE e])) : w.ownsRow B 96 1 v (L ++ [e]).length ((L ++ [e]).map ptrE) := by
  simpa using h

attribute [local go_sem] cell?_regrown

set_option maxRecDepth 100000 in
set_option maxHeartbeats 400000 in
theorem sides_walk (v : Value) (es : List Ent) (f : Nat) (last : Int) (w : World) (hes : BunchAt w v es) (hn : es.length ≤ 200) (hf : f < 5) :
    Calls Tryz.prog 152 #[v, .agg #[.int .i64 f, .int .i64 last]] w fun e w' => ∃ v1 v2, e = .returned (.tuple #[v1, v2]) ∧ BunchAt w' v1 (lows f last es) ∧ BunchAt w' v2 (highs f last es) ∧ Below w.heap.size w w' := by
  obtain ⟨a, cap, rfl, hc, he⟩ := hes
  obtain ⟨i0, hi, hz0, hz1, hz2⟩ := info_parts infoPE
  go_enter Tryz.func152, Tryz.ntmps152
  go_wp2
  go_loopw [4, 5, 12] (fun v1 v2 i wr => ∃ k : Nat, k ≤ es.length ∧ i = .int .i64 k ∧ wr.ownsRow (w.heap.size + 1) 96 1 v1 (lows f last (es.take k)).length ((lows f last (es.take k)).map ptrE) ∧ wr.ownsRow (w.heap.size + 1) 96 1 v2 (highs f last (es.take k)).length ((highs f last (es.take k)).map ptrE) ∧ (∀ g, v1.ownBlock = some g → v2.ownBlock ≠ some g) ∧ Below (w.heap.size + 1) (w.alloc (.cells #[.int .i64 f, .int .i64 last] 193)) wr) (fun _ _ i _ => es.length - (intOf i).toNat)
  case atStart => exact ⟨0, by omega, rfl, World.ownsRow_nil _ _ _ _, World.ownsRow_nil _ _ _ _, (fun g h => by cases h), Below.refl _ _⟩
  case round =>
    obtain ⟨k, hk, rfl, ho1, ho2, hdis, hb⟩ := hrel
    have hbw : Below w.heap.size w wr := Below.trans (by repeat (first | exact Below.refl _ _ | assumption | refine Below.drewN ?_ | refine Below.drew ?_ | refine Below.setCell ?_ (by first | exact Nat.le_refl _ | omega | (simp; done) | (simp; omega)) _ | refine Below.alloc ?_ (by first | exact Nat.le_refl _ | omega | (simp; done) | (simp; omega)) _)) (hb.mono (by omega))
    have hlt : w.heap.size < wr.heap.size := by have := hb.size; simp at this; omega
    have c0 : wr.cell? ⟨w.heap.size, 0, none⟩ = some (.int .i64 f) := (hb.cell (p := ⟨w.heap.size, 0, none⟩) (by exact Nat.lt_succ_self _)).trans (by simp)
    have c1 : wr.cell? ⟨w.heap.size, 1, none⟩ = some (.int .i64 last) := (hb.cell (p := ⟨w.heap.size, 1, none⟩) (by exact Nat.lt_succ_self _)).trans (by simp)
    have O1 := hide ho1
    have O2 := hide ho2
    have HD := hide hdis
    clear ho1 ho2 hdis
    by_cases hkl : k < es.length
    · obtain ⟨ab, off, ⟨rfl, hz00⟩, hcell⟩ := hc k hkl
      clear hz00
      have hcell' : wr.cell? ⟨ab, off + k, none⟩ = some (.pointer (some ⟨es[k].1, 0, none⟩)) := (hbw.cell (p := ⟨ab, off + k, none⟩) (block_lt_of_cell hcell)).trans hcell
      have hek := (he es[k] (List.getElem_mem hkl)).below hbw (he es[k] (List.getElem_mem hkl)).lt
      have hlo := hek.lo hf
      have hhi := hek.hi hf
      have heklt := hek.lt
      have hfi : (f : Int) < 5 := by omega
      generalize hee : es[k] = ek at *
      have HE := hide hee
      clear hcell hc he hee hek
      go_wp2_with fail
      refine wp_region_quiet_below (by kernel_rfl) (by kernel_rfl) ?_
      repeat (quiet_step (exact Calls.regrown_of (sides_any _ _ _ _)))
      refine wpQuiet_nil ?_; intro wq hwq; replace hwq := below_of_regrown hwq; obtain ⟨hcq, hfq⟩ := bcell hwq; have hzq := hwq.size
      have hbq : Below (w.heap.size + 1) (w.alloc (.cells #[.int .i64 f, .int .i64 last] 193)) wq := hb.trans (hwq.mono (by omega))
      have hltq : w.heap.size < wq.heap.size := Nat.lt_of_lt_of_le hlt hzq
      have o1 := hide (ownsRow_below O1.out hwq (Nat.le_refl _))
      have o2 := hide (ownsRow_below O2.out hwq (Nat.le_refl _))
      have l1 := lows_le f last (es.take k)
      have l2 := highs_le f last (es.take k)
      have lt' : (es.take k).length = k := by simp; omega
      rw [lt'] at l1 l2
      have HT : Hid (es.take (k + 1) = es.take k ++ [ek]) := by rw [List.take_succ_eq_append_getElem hkl, HE.out]; exact rfl
      clear hcq hfq hlo hhi hcell' c0 c1 hwq heklt lt'
      generalize hL : lows f last (es.take k) = L at *
      generalize hH : highs f last (es.take k) = H at *
      have HL := hide hL
      have HH := hide hH
      have HB := hide hbq
      clear hL hH O1 O2 hb hlt hbw hbq
      by_cases b1 : ek.2.lo f ≤ last
      · by_cases b2 : last < ek.2.hi f
        · go_wp2_with (first | (at_builtin; refine wpList_append_lies _ rfl _ _ 118 rfl (w.heap.size + 1) 96 i0 (.pointer none) 1 8 underBunch hi hz0 hz1 hz2 rfl (by decide) _ _ _ rfl (o1.out.alloc _) ⟨wq.heap.size, 0, none⟩ 1 1 [ptrE ek] rfl rfl (cell_one_new _ _ _) (by simp [ptrE, Value.oneCell']) (by decide) (by unfold maxLen; omega) (by omega) (by simp; omega) _ rfl ?_))
          intro g1 cap1 w1 hown1 hgrow1 hat1 hlt1
          have P1 := hide (other_row o2.out HD.out hgrow1 hat1)
          have B1 := hide (below_append HB.out hltq o1.out (Nat.le_refl _) hgrow1)
          have hlt1' : w.heap.size < w1.heap.size := by have := B1.out.size; simp at this; omega
          have H1 := hide hown1
          clear hown1 hgrow1 hat1
          go_wp2_with (first | (at_builtin; refine wpList_append_lies _ rfl _ _ 118 rfl (w.heap.size + 1) 96 i0 (.pointer none) 1 8 underBunch hi hz0 hz1 hz2 rfl (by decide) _ _ _ rfl (P1.out.1.alloc _) ⟨w1.heap.size, 0, none⟩ 1 1 [ptrE ek] rfl rfl (cell_one_new _ _ _) (by simp [ptrE, Value.oneCell']) (by decide) (by unfold maxLen; omega) (by omega) (by simp; omega) _ rfl ?_))
          intro g2 cap2 w2 hown2 hgrow2 hat2 hlt2
          have P2 := hide (other_row (v1 := u5) H1.out (fun g h5 h1 => P1.out.2 (own_eq h1 h5)) hgrow2 hat2)
          have B2 := hide (below_append B1.out hlt1' P1.out.1 (Nat.le_refl _) hgrow2)
          have H2 := hide hown2
          clear hown2 hgrow2 hat2
          go_wp2
          go_roundw
          case rel => exact ⟨k + 1, by omega, by go_num, by rw [HT.out, lows_snoc, HL.out, if_pos b1]; exact row_snoc P2.out.1, by rw [HT.out, highs_snoc, HH.out, if_pos b2]; exact row_snoc H2.out, fun g h1 h2 => P2.out.2 (h1.trans h2.symm |>.trans (by rfl)), B2.out⟩
          case measure => simp [intOf]; omega
        · go_wp2_with (first | (at_builtin; refine wpList_append_lies _ rfl _ _ 118 rfl (w.heap.size + 1) 96 i0 (.pointer none) 1 8 underBunch hi hz0 hz1 hz2 rfl (by decide) _ _ _ rfl (o1.out.alloc _) ⟨wq.heap.size, 0, none⟩ 1 1 [ptrE ek] rfl rfl (cell_one_new _ _ _) (by simp [ptrE, Value.oneCell']) (by decide) (by unfold maxLen; omega) (by omega) (by simp; omega) _ rfl ?_))
          intro g1 cap1 w1 hown1 hgrow1 hat1 hlt1
          have P1 := hide (other_row o2.out HD.out hgrow1 hat1)
          have B1 := hide (below_append HB.out hltq o1.out (Nat.le_refl _) hgrow1)
          have H1 := hide hown1
          clear hown1 hgrow1 hat1
          go_wp2
          go_roundw
          case rel => exact ⟨k + 1, by omega, by go_num, by rw [HT.out, lows_snoc, HL.out, if_pos b1]; exact row_snoc H1.out, by rw [HT.out, highs_snoc, HH.out, if_neg (by omega), List.append_nil]; exact P1.out.1, fun g h1 h2 => P1.out.2 (h2.trans h1.symm |>.trans (by rfl)), B1.out⟩
          case measure => simp [intOf]; omega
      · by_cases b2 : last < ek.2.hi f
        · go_wp2_with (first | (at_builtin; refine wpList_append_lies _ rfl _ _ 118 rfl (w.heap.size + 1) 96 i0 (.pointer none) 1 8 underBunch hi hz0 hz1 hz2 rfl (by decide) _ _ _ rfl (o2.out.alloc _) ⟨wq.heap.size, 0, none⟩ 1 1 [ptrE ek] rfl rfl (cell_one_new _ _ _) (by simp [ptrE, Value.oneCell']) (by decide) (by unfold maxLen; omega) (by omega) (by simp; omega) _ rfl ?_))
          intro g1 cap1 w1 hown1 hgrow1 hat1 hlt1
          have P1 := hide (other_row o1.out (fun g h5 h1 => HD.out g h1 h5) hgrow1 hat1)
          have B1 := hide (below_append HB.out hltq o2.out (Nat.le_refl _) hgrow1)
          have H1 := hide hown1
          clear hown1 hgrow1 hat1
          go_wp2
          go_roundw
          case rel => exact ⟨k + 1, by omega, by go_num, by rw [HT.out, lows_snoc, HL.out, if_neg (by omega), List.append_nil]; exact P1.out.1, by rw [HT.out, highs_snoc, HH.out, if_pos b2]; exact row_snoc H1.out, fun g h1 h2 => P1.out.2 (h1.trans h2.symm |>.trans (by rfl)), B1.out⟩
          case measure => simp [intOf]; omega
        · go_wp2
          go_roundw
          case rel => exact ⟨k + 1, by omega, by go_num, by rw [HT.out, lows_snoc, HL.out, if_neg (by omega), List.append_nil]; exact o1.out, by rw [HT.out, highs_snoc, HH.out, if_neg (by omega), List.append_nil]; exact o2.out, HD.out, HB.out⟩
          case measure => simp [intOf]; omega
    · have hke : k = es.length := by omega
      have hent : ∀ e ∈ es, EntAt wr e.1 e.2 := fun e hm => (he e hm).below hbw (he e hm).lt
      have o1 := O1.out
      have o2 := O2.out
      rw [hke, List.take_length] at o1 o2
      have HO1 := hide (bunch_of_row o1 fun e hm => hent e (List.mem_filter.1 hm).1)
      have HO2 := hide (bunch_of_row o2 fun e hm => hent e (List.mem_filter.1 hm).1)
      clear hc he o1 o2 O1 O2 hent
      go_wp2
      go_ret2
      exact ⟨_, _, rfl, HO1.out, HO2.out, hbw⟩

end Go.Proofs.YtnjalelblbjfiaaGreatDoor

namespace Go.Proofs.YtnjalelblbjfiaaGreatDoor
open Go.RowKit

theorem isRow_of {P : Program} {t : TypeId} (h : (P.underlying t).any TypeDesc.isRow = true) : ∃ d, P.underlying t = some d ∧ d.isRow = true := by
  cases hd : P.underlying t with
  | none => rw [hd] at h; cases h
  | some d => rw [hd] at h; exact ⟨d, rfl, h⟩
theorem underRule : ∃ d, Tryz.prog.underlying 37 = some d ∧ d.isRow = true := isRow_of (by kernel_rfl)
theorem sizeRule : (Tryz.prog.info? 37).map (·.size) = some 19 := by kernel_rfl
theorem range_new (w : World) (cs : Array Value) (t : TypeId) : (w.alloc (.cells cs t)).rangeAt w.heap.size 0 cs.toList := fun j v hv => by
  rw [Nat.zero_add, World.cell?_alloc_new]; simpa using hv

theorem set_same {w : World} {b i : Nat} {u v : Value} (h : w.cell? ⟨b, i, none⟩ = some u) : (w.setCell ⟨b, i, none⟩ v).cell? ⟨b, i, none⟩ = some v := World.cell?_setCell_same _ _ _ h
theorem set_other {w : World} {b i b' i' : Nat} {v : Value} (h : b ≠ b' ∨ i ≠ i') : (w.setCell ⟨b, i, none⟩ v).cell? ⟨b', i', none⟩ = w.cell? ⟨b', i', none⟩ :=
  World.cell?_setCell_other _ _ _ _ (by simp; omega)

end Go.Proofs.YtnjalelblbjfiaaGreatDoor
