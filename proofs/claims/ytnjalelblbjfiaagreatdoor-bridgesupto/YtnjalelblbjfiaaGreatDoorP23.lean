import Derived.Test.YtnjalelblbjfiaaGreatDoorP22
import Derived.RangeFuncNested
import Derived.RangeFuncBound
import Derived.RangeFuncCalls
import Derived.RangeFuncLeaves
import Derived.RangeFuncBox
import Derived.Shelf.Abstract
import Derived.Shelf.RegionOpen
import Derived.OwnWalkIn
import Derived.TacticsInMore
import Derived.LoopNIn
import Derived.LoopIn
import Derived.Maps.AppendAt
import Derived.Test.YtnjalelblbjfiaaGreatDoorP21
namespace Go.Proofs.YtnjalelblbjfiaaGreatDoor
open Go.RowKit
open Go.Sort (grow)

set_option maxRecDepth 100000 in
theorem mNew_any (w : World) : Calls Tryz.prog 54 #[] w fun e w' => ∃ k m, e = .returned (.pointer (some ⟨k, 0, none⟩)) ∧ w.heap.size ≤ k ∧ w.heap.size ≤ m ∧ KnownAt w' k m (.slice none 0 0) [] ∧ Below w.heap.size w w' ∧ w'.cell? ⟨k, 1, none⟩ = none := by
  have C := hide fun (W : World) => noPlaces_any W
  go_enter Tryz.func54, Tryz.ntmps54
  go_wp2_with (first | (go_at_call 102; refine (C.out _).mono ?_; rintro e w1 ⟨rfl, rfl⟩))
  go_ret
  obtain ⟨W, hW⟩ : ∃ W, W = w.alloc (.cells #[.func (.func 167) #[] #[], .slice none 0 0] 305) := ⟨_, rfl⟩
  have hM := mapQ_new w
  have hB : Below w.heap.size w W := by rw [hW]; exact (Below.refl _ w).alloc (Nat.le_refl _) _
  have hs : W.heap.size = w.heap.size + 1 := by rw [hW]; exact alloc_size _ _
  rw [← hW] at hM ⊢
  refine ⟨w.heap.size + 1, w.heap.size, rfl, by omega, Nat.le_refl _, ?_, hB.alloc (by omega) _, by rw [← hs]; have hn := alloc_new W (.cells #[.pointer (some ⟨w.heap.size, 0, none⟩)] 215); simp only [World.cell?, hn]; rfl⟩
  rw [← hs]
  have hn := alloc_new W
  exact ⟨cell_in_row (hn _) rfl, fun j => frz_row (hn _) j, hM.below ((Below.refl _ W).alloc (Nat.le_refl _) _), List.Pairwise.nil⟩
end Go.Proofs.YtnjalelblbjfiaaGreatDoor

namespace Go.Proofs.YtnjalelblbjfiaaGreatDoor
open Go.RowKit Go.Shelf

attribute [local go_sem] Oper.semAt_some

/-- A slice of places, in a block below n₀. -/
def PlaceRow (n₀ : Nat) (W : World) (sv : Value) (L : List Mc) : Prop :=
  ∃ (a : Option Addr) (cap : Nat), sv = .slice a L.length cap ∧ ∀ j (h : j < L.length), ∃ g, a = some ⟨g, 0, none⟩ ∧ g < n₀ ∧ W.cell? ⟨g, j * 4, none⟩ = some (.int .i64 L[j].vlan) ∧ W.cell? ⟨g, j * 4 + 1, none⟩ = some (.string L[j].mac) ∧ W.cell? ⟨g, j * 4 + 2, none⟩ = some (.int .i64 L[j].port) ∧ W.cell? ⟨g, j * 4 + 3, none⟩ = some (.int .i64 L[j].age)
theorem PlaceRow.below {n₀ : Nat} {A B : World} (h : Below n₀ A B) {sv : Value} {L : List Mc} (hr : PlaceRow n₀ A sv L) : PlaceRow n₀ B sv L := by
  obtain ⟨a, cap, e, hc⟩ := hr
  refine ⟨a, cap, e, fun j hj => ?_⟩
  obtain ⟨g, ha, hg, c0, c1, c2, c3⟩ := hc j hj
  exact ⟨g, ha, hg, (h.cell (p := ⟨g, j * 4, none⟩) hg).trans c0, (h.cell (p := ⟨g, j * 4 + 1, none⟩) hg).trans c1, (h.cell (p := ⟨g, j * 4 + 2, none⟩) hg).trans c2, (h.cell (p := ⟨g, j * 4 + 3, none⟩) hg).trans c3⟩
theorem MapQ.row {w : World} {m : Nat} {sv : Value} {K : List Mc} (h : MapQ w m sv K) {n₀ : Nat} (hn : w.heap.size ≤ n₀) : PlaceRow n₀ w sv K := by
  obtain ⟨a, cap, g, rfl, hc⟩ := rowP_cells h.1.2.2.1
  refine ⟨a, cap, rfl, fun j hj => ?_⟩
  obtain ⟨ha, c0, c1, c2, c3⟩ := hc j hj
  rw [kAt_eq hj] at c0 c1 c2 c3
  exact ⟨g, ha, Nat.lt_of_lt_of_le (block_lt_of_cell c0) hn, c0, c1, c2, c3⟩

/-- What the iterator hands on. -/
def encP {Pr : Mc → Prop} (x : { e : Mc // Pr e }) : Array Value := #[.agg #[.int .i64 x.1.vlan, .string x.1.mac], .agg #[.int .i64 x.1.port, .int .i64 x.1.age]]

set_option maxRecDepth 100000 in
set_option maxHeartbeats 2000000 in
theorem allP1_in {Pr : Mc → Prop} (F : Fence) (n : Nat) (h49 : F.fn 181) (hro : F.round = none) (hn : 1 ≤ n) (l Bm m n₀ : Nat) (sv : Value) (L : List { e : Mc // Pr e }) (hlen : L.length ≤ 200) (J Jx : List { e : Mc // Pr e } → World → Prop) (B : Nat) (hJ : AbidesFrom B J)
    (hY : ∀ pre x W, J pre W → pre.length < L.length → YieldAt F (n - 1) Tryz.prog l (encP x) W fun e W' =>
      (e = .returned (.bool true) ∧ J (pre ++ [x]) W' ∧ Below n₀ W W') ∨ (e = .returned (.bool false) ∧ Jx (pre ++ [x]) W'))
    (W : World) (hn₀ : n₀ ≤ W.heap.size) (hBm : W.cell? ⟨Bm, 0, none⟩ = some (.pointer (some ⟨m, 0, none⟩))) (hm : W.cell? ⟨m, 1, none⟩ = some sv) (hrow : PlaceRow n₀ W sv (L.map (·.1))) (h0 : J [] W) :
    CallsIn F n Tryz.prog 181 #[.func (.yield l) #[] #[], .pointer (some ⟨Bm, 0, none⟩)] W fun e W' => (∃ v, e = .returned v) ∧
      ((∃ ys, ys = L ∧ J ys W') ∨ (∃ pre, pre <+: L ∧ Jx pre W')) := by
  obtain ⟨a, cap, rfl, hc⟩ := hrow
  simp only [List.length_map] at hc hm ⊢
  refine callsIn_of_wp Tryz.func181 rfl h49 ?_ hro
  simp only [Tryz.ntmps181, List.size_toArray, List.length_cons, List.length_nil, Nat.reduceAdd, Nat.reduceSub, Array.replicate_succ, Array.replicate_zero, List.push_toArray, List.append_toArray, List.nil_append, List.cons_append]
  gi_wp2
  gi_loopw [10] (fun i wr => ∃ k : Nat, k ≤ L.length ∧ i = .int .i64 k ∧ J (L.take k) wr ∧ Below n₀ W wr) (fun i _ => L.length - (intOf i).toNat)
  case atStart => exact ⟨0, Nat.zero_le _, rfl, by simpa using h0, Below.refl _ _⟩
  case round =>
    obtain ⟨k, hk, rfl, hJs, hnx⟩ := hrel
    by_cases hlt : k < L.length
    · obtain ⟨g, rfl, hg, c0, c1, c2, c3⟩ := hc k hlt
      rw [List.getElem_map] at c0 c1 c2 c3
      have d0 := (hnx.cell (p := ⟨g, k * 4, none⟩) hg).trans c0
      have d1 := (hnx.cell (p := ⟨g, k * 4 + 1, none⟩) hg).trans c1
      have d2 := (hnx.cell (p := ⟨g, k * 4 + 2, none⟩) hg).trans c2
      have d3 := (hnx.cell (p := ⟨g, k * 4 + 3, none⟩) hg).trans c3
      have hglt : g < wr.heap.size := Nat.lt_of_lt_of_le (Nat.lt_of_lt_of_le hg hn₀) hnx.size
      have hki : (k : Int) < L.length := by omega
      have hJ1 := hJ _ wr (wr.alloc (.cells #[.int .i64 L[k].1.vlan, .string L[k].1.mac, .int .i64 L[k].1.port, .int .i64 L[k].1.age] 308)) none hJs (World.grownBy_alloc _ _ _) (fun r e => by cases e)
      obtain ⟨fn, tmps, assign, body, hy, hR⟩ := hY _ L[k] _ hJ1 (by simp; omega)
      simp only [encP] at hy
      have HT : Hid (L.take (k + 1) = L.take k ++ [L[k]]) := by rw [List.take_succ_eq_append_getElem hlt]; exact rfl
      generalize hee : L[k] = ek at *
      clear hJ1 hc c0 c1 c2 c3 hee
      gi_wp2
      refine hR.mono ?_
      rintro e W3 (⟨rfl, hJ3, hk3⟩ | ⟨rfl, hJx3⟩)
      · gi_wp2
        go_roundw
        case rel => exact ⟨k + 1, by omega, by simp, by rw [HT.out]; exact hJ3, (hnx.alloc (Nat.le_trans hn₀ hnx.size) _).trans hk3⟩
        case measure => simp [intOf]; omega
      · gi_wp2
        refine bodyPost_ret (results_none rfl _ _ _) rfl ?_
        exact ⟨⟨_, rfl⟩, .inr ⟨_, by rw [← HT.out]; exact List.take_prefix _ _, hJx3⟩⟩
    · obtain rfl : k = L.length := by omega
      clear hc
      gi_wp2
      go_end0
      exact ⟨⟨_, rfl⟩, .inl ⟨_, rfl, by simpa using hJs⟩⟩

set_option maxHeartbeats 1000000 in
theorem allP_in (F : Fence) (n : Nat) (h29 : F.fn 120) (hro : F.round = none) (m : Nat) (w : World) :
    CallsIn F n Tryz.prog 120 #[.pointer (some ⟨m, 0, none⟩)] w fun e w' => e = .returned (.func (.func 181) #[] #[.pointer (some ⟨w.heap.size, 0, none⟩)]) ∧ w' = w.alloc (.cells #[.pointer (some ⟨m, 0, none⟩)] 212) := by
  refine callsIn_of_wp Tryz.func120 rfl h29 ?_ hro
  simp only [Tryz.ntmps120, List.size_toArray, List.length_cons, List.length_nil, Nat.reduceAdd, Nat.reduceSub, Array.replicate_succ, Array.replicate_zero, List.push_toArray, List.append_toArray, List.nil_append, List.cons_append]
  gi_wp2
  go_ret
  exact ⟨rfl, rfl⟩

theorem allP_stops {Pr : Mc → Prop} (F : Fence) (n : Nat) (h49 : F.fn 181) (hro : F.round = none) (hn : 1 ≤ n) (Bm m n₀ : Nat) (sv : Value) (L : List { e : Mc // Pr e }) (hlen : L.length ≤ 200) (w : World) (hBm : Bm < w.heap.size) (hmlt : m < n₀) (hn₀ : n₀ ≤ w.heap.size)
    (hc : w.cell? ⟨Bm, 0, none⟩ = some (.pointer (some ⟨m, 0, none⟩))) (hm : w.cell? ⟨m, 1, none⟩ = some sv) (hL : PlaceRow n₀ w sv (L.map (·.1))) :
    SeqStopsK F n Tryz.prog 181 #[.pointer (some ⟨Bm, 0, none⟩)] (encP (Pr := Pr)) (Below n₀) (fun ys => ys = L) (fun pre => pre <+: L) L.length w := fun l J Jx W hW hJ _ hY h0 =>
  allP1_in F n h49 hro hn l Bm m n₀ sv L hlen J Jx W.heap.size hJ hY W (Nat.le_trans hn₀ hW.size) ((hW.cell (p := ⟨Bm, 0, none⟩) hBm).trans hc) ((hW.cell (p := ⟨m, 1, none⟩) (Nat.lt_of_lt_of_le hmlt hn₀)).trans hm) (hL.below (hW.mono hn₀)) h0

end Go.Proofs.YtnjalelblbjfiaaGreatDoor

namespace Go.Proofs.YtnjalelblbjfiaaGreatDoor
open Go.RowKit

theorem cmpM_irrefl (a : Mc) : ¬ cmpM a a.vlan a.mac < 0 := by
  unfold cmpM
  rw [cmpPl_neg]
  simp [bytesLess_irrefl]
theorem cmpM_asymm {a b : Mc} (h : cmpM a b.vlan b.mac < 0) : ¬ cmpM b a.vlan a.mac < 0 := by
  unfold cmpM at *
  rw [cmpPl_neg] at *
  rintro (h1 | ⟨h1, h2⟩) <;> rcases h with h3 | ⟨h3, h4⟩
  · omega
  · omega
  · omega
  · exact absurd (bytesLess_trans h4 h2) (by rw [bytesLess_irrefl]; simp)

/-- Two lists in order with the same entries are one. -/
theorem sortedP_ext : ∀ {A B : List Mc}, SortedP A → SortedP B → (∀ x, x ∈ A ↔ x ∈ B) → A = B
  | [], [], _, _, _ => rfl
  | [], b :: B, _, _, h => absurd ((h b).2 (by simp)) (by simp)
  | a :: A, [], _, _, h => absurd ((h a).1 (by simp)) (by simp)
  | a :: A, b :: B, ha, hb, h => by
    have ha' := List.pairwise_cons.1 ha
    have hb' := List.pairwise_cons.1 hb
    have e : a = b := by
      rcases List.mem_cons.1 ((h a).1 (by simp)) with e | h1
      · exact e
      · rcases List.mem_cons.1 ((h b).2 (by simp)) with e | h2
        · exact e.symm
        · exact absurd (ha'.1 b h2) (cmpM_asymm (hb'.1 a h1))
    subst e
    congr 1
    refine sortedP_ext ha'.2 hb'.2 fun x => ⟨fun hx => ?_, fun hx => ?_⟩
    · rcases List.mem_cons.1 ((h x).1 (List.mem_cons_of_mem _ hx)) with e | h1
      · subst e
        exact absurd (ha'.1 x hx) (cmpM_irrefl x)
      · exact h1
    · rcases List.mem_cons.1 ((h x).2 (List.mem_cons_of_mem _ hx)) with e | h1
      · subst e
        exact absurd (hb'.1 x hx) (cmpM_irrefl x)
      · exact h1

/-- What is left when so many seconds have gone by. -/
def tickL (s : Int) (K : List Mc) : List Mc := (K.map fun e => { e with age := e.age + s }).filter fun e => decide (e.age ≤ 300)
theorem tickL_snoc (s : Int) (K : List Mc) (x : Mc) : tickL s (K ++ [x]) = tickL s K ++ if x.age + s ≤ 300 then [{ x with age := x.age + s }] else [] := by
  simp only [tickL, List.map_append, List.filter_append, List.map_cons, List.map_nil, List.filter_cons, List.filter_nil]
  split <;> simp_all
theorem tickL_length (s : Int) (K : List Mc) : (tickL s K).length ≤ K.length := by
  have := List.length_filter_le (fun e : Mc => decide (e.age ≤ 300)) (K.map fun e => { e with age := e.age + s })
  rwa [List.length_map] at this
/-- What has aged stands ahead of what comes behind. -/
theorem tickL_ahead {s : Int} {K : List Mc} {x : Mc} (h : SortedP (K ++ [x])) (q : Mc) (hq : q ∈ tickL s K) : cmpM q x.vlan x.mac < 0 := by
  obtain ⟨e, he, rfl⟩ := List.mem_map.1 (List.mem_filter.1 hq).1
  exact (List.pairwise_append.1 h).2.2 e he x (by simp)
end Go.Proofs.YtnjalelblbjfiaaGreatDoor

namespace Go.Proofs.YtnjalelblbjfiaaGreatDoor
open Go.RowKit
open Go.Sort (grow)
attribute [local go_sem] cell?_regrown

theorem OnlyG.cell {g : Nat} {w w' : World} (h : OnlyG g w w') {b i : Nat} {v : Value} (hb : b ≠ g) (hc : w.cell? ⟨b, i, none⟩ = some v) : w'.cell? ⟨b, i, none⟩ = some v :=
  (World.cell?_of_block (a := ⟨b, i, none⟩) (h.2.2.2.2 b (block_lt_of_cell hc) hb)).trans hc
theorem lt_of_heap {w : World} {b : Nat} {o : Obj} (h : w.heap[b]? = some o) : b < w.heap.size := by
  rcases Nat.lt_or_ge b w.heap.size with h' | h'
  · exact h'
  · rw [Array.getElem?_eq_none h'] at h; cases h
theorem ne_of_cell {w : World} {a b i : Nat} {u v : Value} (h1 : w.cell? ⟨a, i, none⟩ = some u) (h2 : w.cell? ⟨b, i, none⟩ = some v) (h : u ≠ v) : a ≠ b := by
  rintro rfl
  rw [h1] at h2
  exact h (by simpa using h2)
theorem TagAt.only {g : Nat} {w w' : World} {mv : Value} {tg : Int → Bool} {p : Pg} {ov : Value} (ht : TagAt w mv tg) (h : OnlyG g w w') (hg : PgAt w g p ov) : TagAt w' mv tg :=
  ht.same fun b o ho hc => by
    rw [h.2.2.2.2 b (lt_of_heap ho) (by rintro rfl; unfold PgAt at hg; rw [hg] at ho; cases ho; cases hc), ho]
theorem PortsAt.only {g : Nat} {w w' : World} {pv : Value} {P : List Prt} {p : Pg} {ov : Value} (hp : PortsAt w pv P) (h : OnlyG g w w') (hg : PgAt w g p ov) : PortsAt w' pv P := by
  obtain ⟨a, cap, b, e, hc⟩ := hp
  refine ⟨a, cap, b, e, fun j hj => ?_⟩
  obtain ⟨h0, h1, mv, h2, h3⟩ := hc j hj
  have hne : b ≠ g := by
    obtain ⟨_, _, mv0, k2, k3⟩ := hc 0 (by omega)
    refine ne_of_cell k2 (hg.cell (i := 1) (v := .string p.data) rfl) ?_
    rcases k3 with ⟨rfl, _⟩ | ⟨_, _, _, rfl, _⟩ <;> simp
  exact ⟨h0, h.cell hne h1, mv, h.cell hne h2, h3.only h hg⟩

def pAt (P : List Prt) (j : Nat) : Prt := (P[j]?).getD ⟨0, fun _ => false⟩
theorem pAt_eq {P : List Prt} {j : Nat} (h : j < P.length) : pAt P j = P[j] := by simp [pAt, h]
/-- Whether a frame may go out at a port: not where it came in, and where its destination stands, if that is known. -/
def goesTo (p : Pg) (bh : Int) (kn : Bool) (j : Nat) : Bool := ((j : Int) != p.port || p.routed) && ((j : Int) == bh || !kn)
/-- What goes out at the first n ports. -/
def fwdO (P : List Prt) (p : Pg) (bh : Int) (kn : Bool) (n : Nat) : List (Int × ByteArray) := (List.range n).flatMap fun j => if goesTo p bh kn j && hasV (pAt P j) p.f.vlan then [((j : Int), outF (pAt P j) p.f)] else []
theorem fwdO_succ (P : List Prt) (p : Pg) (bh : Int) (kn : Bool) (n : Nat) : fwdO P p bh kn (n + 1) = fwdO P p bh kn n ++ if goesTo p bh kn n && hasV (pAt P n) p.f.vlan then [((n : Int), outF (pAt P n) p.f)] else [] := by
  simp [fwdO, List.range_succ, List.flatMap_append]
theorem fwdO_length (P : List Prt) (p : Pg) (bh : Int) (kn : Bool) : ∀ n, (fwdO P p bh kn n).length ≤ n
  | 0 => by simp [fwdO]
  | n + 1 => by
    have := fwdO_length P p bh kn n
    rw [fwdO_succ, List.length_append]
    split <;> simp <;> omega

/-- What a round of the loop leaves. -/
def FwdAt (w : World) (g : Nat) (p : Pg) (L : List (Int × ByteArray)) (wr : World) : Prop :=
  ∃ v, PgAt wr g p v ∧ wr.ownsRow w.heap.size 66 2 v L.length (rowO L) ∧ (∀ b, v.ownBlock = some b → b ≠ g) ∧ OnlyB w.heap.size g w wr

theorem fwd_go {w wr w3 : World} {g : Nat} {p : Pg} {P : List Prt} {bh : Int} {kn : Bool} {j : Nat} (hlt : j < P.length) (hgo : goesTo p bh kn j = true) (OB : OnlyB w.heap.size g w wr)
    (h : ∃ v', PgAt w3 g p v' ∧ (let os' := if hasV P[j] p.f.vlan then fwdO P p bh kn j ++ [((j : Int), outF P[j] p.f)] else fwdO P p bh kn j; w3.ownsRow w.heap.size 66 2 v' os'.length (rowO os')) ∧ (∀ b, v'.ownBlock = some b → b ≠ g) ∧ OnlyB w.heap.size g wr w3) : FwdAt w g p (fwdO P p bh kn (j + 1)) w3 := by
  obtain ⟨v', h1, h2, h3, h4⟩ := h
  refine ⟨v', h1, ?_, h3, OB.trans h4⟩
  rw [fwdO_succ, pAt_eq hlt, hgo, Bool.true_and]
  by_cases hh : hasV P[j] p.f.vlan = true
  · simp only [hh, if_true] at h2 ⊢
    exact h2
  · rw [if_neg hh, List.append_nil]
    simp only [hh] at h2
    exact h2
theorem fwd_stay {w wr : World} {g : Nat} {p : Pg} {P : List Prt} {bh : Int} {kn : Bool} {j : Nat} (hgo : goesTo p bh kn j = false) (h : FwdAt w g p (fwdO P p bh kn j) wr) : FwdAt w g p (fwdO P p bh kn (j + 1)) wr := by
  rw [fwdO_succ, hgo, Bool.false_and]
  simpa using h

set_option maxRecDepth 100000 in
set_option maxHeartbeats 2000000 in
theorem forward_any (s g k m : Nat) (pv sv : Value) (P : List Prt) (K : List Mc) (p : Pg) (w : World) (h0 : w.cell? ⟨s, 0, none⟩ = some pv) (h5 : w.cell? ⟨s, 5, none⟩ = some (.pointer (some ⟨k, 0, none⟩))) (hp : PortsAt w pv P) (hK : KnownAt w k m sv K) (hg : PgAt w g p (.slice none 0 0)) (hP : P.length ≤ 8)
    (hv : (Lit.int .i64 p.f.vlan).wf = true) (hl : p.f.to.size + p.f.fr.size + p.f.ty.size + p.f.rest.size ≤ 1000) :
    Calls Tryz.prog 63 #[.pointer (some ⟨s, 0, none⟩), .pointer (some ⟨g, 0, none⟩)] w fun e w' => e = .returned (.int .i64 (-1)) ∧ FwdAt w g p (fwdO P p (portOf (known K p.f.vlan p.f.to)) (known K p.f.vlan p.f.to).isSome P.length) w' := by
  have CP := hide fun (d : Nat) (os : Array Obj) => mPort_any k m sv K p.f.vlan p.f.to (grow (redrawn w d) os) (hK.below (below_regrown w d os))
  generalize portOf (known K p.f.vlan p.f.to) = bh at *
  generalize (known K p.f.vlan p.f.to).isSome = kn at *
  have hp0 := hp
  obtain ⟨a, cap, b, rfl, _⟩ := hp0
  have g2 : w.cell? ⟨g, 2, none⟩ = some (.string p.f.to) := hg.cell rfl
  have g5 : w.cell? ⟨g, 5, none⟩ = some (.int .i64 p.f.vlan) := hg.cell rfl
  have hsg : s ≠ g := ne_of_cell h0 (hg.cell (i := 0) (v := .int .i64 p.port) rfl) (by simp)
  have hslt := block_lt_of_cell h0
  have hglt := hg.lt
  have HG := hide hg
  have HP := hide hp
  clear hK hg hp
  go_enter Tryz.func63, Tryz.ntmps63
  go_wp2
  refine wp_region_quiet_below (by kernel_rfl) (by kernel_rfl) ?_
  repeat (first | go_big_quiet_skip | quiet_step (exact Calls.regrown_of (CP.out _ _)))
  refine wpQuiet_nil ?_; intro wq hwq; replace hwq := below_of_regrown hwq; obtain ⟨hcq, hfq⟩ := bcell hwq; have hzq := hwq.size
  have q0 := cell_later hwq h0
  have HQ := hide hwq
  have HF : Hid (FwdAt w g p (fwdO P p bh kn 0) wq) := hide ⟨_, HG.out.below hwq, ⟨rfl, .inl ⟨rfl, rfl⟩⟩, (fun b hb => by cases hb), OnlyB.of_below hwq (Nat.le_refl _)⟩
  clear hcq hfq hwq CP g2 g5 h5
  go_wp2
  go_loopw [31] (fun i wr => ∃ j : Nat, j ≤ P.length ∧ i = .int .i64 j ∧ Hid (FwdAt w g p (fwdO P p bh kn j) wr)) (fun i _ => P.length - (intOf i).toNat)
  case atStart => exact ⟨0, Nat.zero_le _, rfl, HF⟩
  case round =>
    obtain ⟨j, hj, rfl, hF⟩ := hrel
    by_cases hlt : j < P.length
    · have hji : (j : Int) < P.length := by omega
      obtain ⟨v, PG, OW, OG, OB⟩ := hF.out
      have r0 : wr.cell? ⟨g, 0, none⟩ = some (.int .i64 p.port) := PG.cell rfl
      have r13 : wr.cell? ⟨g, 13, none⟩ = some (.bool p.routed) := PG.cell rfl
      have hlen := fwdO_length P p bh kn j
      have hsz := OB.2.2.2.1
      have CL := hide (leave_any s g w.heap.size _ v P p (fwdO P p bh kn j) j wr (OnlyG.cell OB.onlyG hsg h0) (HP.out.only OB.onlyG HG.out) PG hlt hv OW hsz (by omega) OG hl)
      have HOB := hide OB
      clear PG OW OG OB
      by_cases e1 : (j : Int) = p.port
      · have hA0 : ((j : Int) != p.port) = false := by simpa using e1
        have HA0 := hide hA0
        cases hrt : p.routed with
        | true =>
          rw [hrt] at r13
          have hA : ((j : Int) != p.port || p.routed) = true := by rw [hA0, hrt]; rfl
          clear e1 hrt
          by_cases e2 : (j : Int) = bh
          · have hB : ((j : Int) == bh) = true := by simpa using e2
            have HGO : Hid (goesTo p bh kn j = true) := hide (by unfold goesTo; rw [hA, hB]; rfl)
            clear e2
            go_wp2_with fail
            refine CL.out.mono ?_
            rintro e w3 ⟨rfl, h3⟩
            have HN := hide (fwd_go hlt HGO.out HOB.out h3)
            clear h3 CL
            go_wp2
            go_roundw
            case rel => exact ⟨j + 1, by omega, by go_num, HN⟩
            case measure => simp [intOf]; omega
          · have hB : ((j : Int) == bh) = false := by simpa using e2
            clear e2
            cases kn with
            | false =>
              have HGO : Hid (goesTo p bh false j = true) := hide (by unfold goesTo; rw [hA, hB]; rfl)
              go_wp2_with fail
              refine CL.out.mono ?_
              rintro e w3 ⟨rfl, h3⟩
              have HN := hide (fwd_go hlt HGO.out HOB.out h3)
              clear h3 CL
              go_wp2
              go_roundw
              case rel => exact ⟨j + 1, by omega, by go_num, HN⟩
              case measure => simp [intOf]; omega
            | true =>
              have HGO : Hid (goesTo p bh true j = false) := hide (by unfold goesTo; rw [hA, hB]; rfl)
              have HN := hide (fwd_stay HGO.out hF.out)
              clear CL
              go_wp2
              go_roundw
              case rel => exact ⟨j + 1, by omega, by go_num, HN⟩
              case measure => simp [intOf]; omega
        | false =>
          rw [hrt] at r13
          have HGO : Hid (goesTo p bh kn j = false) := hide (by unfold goesTo; rw [hA0, hrt]; rfl)
          clear e1 hrt
          have HN := hide (fwd_stay HGO.out hF.out)
          clear CL
          go_wp2
          go_roundw
          case rel => exact ⟨j + 1, by omega, by go_num, HN⟩
          case measure => simp [intOf]; omega
      · have hA0 : ((j : Int) != p.port) = true := by simpa using e1
        have hA : ((j : Int) != p.port || p.routed) = true := by rw [hA0]; rfl
        clear e1
        by_cases e2 : (j : Int) = bh
        · have hB : ((j : Int) == bh) = true := by simpa using e2
          have HGO : Hid (goesTo p bh kn j = true) := hide (by unfold goesTo; rw [hA, hB]; rfl)
          clear e2
          go_wp2_with fail
          refine CL.out.mono ?_
          rintro e w3 ⟨rfl, h3⟩
          have HN := hide (fwd_go hlt HGO.out HOB.out h3)
          clear h3 CL
          go_wp2
          go_roundw
          case rel => exact ⟨j + 1, by omega, by go_num, HN⟩
          case measure => simp [intOf]; omega
        · have hB : ((j : Int) == bh) = false := by simpa using e2
          clear e2
          cases kn with
          | false =>
            have HGO : Hid (goesTo p bh false j = true) := hide (by unfold goesTo; rw [hA, hB]; rfl)
            go_wp2_with fail
            refine CL.out.mono ?_
            rintro e w3 ⟨rfl, h3⟩
            have HN := hide (fwd_go hlt HGO.out HOB.out h3)
            clear h3 CL
            go_wp2
            go_roundw
            case rel => exact ⟨j + 1, by omega, by go_num, HN⟩
            case measure => simp [intOf]; omega
          | true =>
            have HGO : Hid (goesTo p bh true j = false) := hide (by unfold goesTo; rw [hA, hB]; rfl)
            have HN := hide (fwd_stay HGO.out hF.out)
            clear CL
            go_wp2
            go_roundw
            case rel => exact ⟨j + 1, by omega, by go_num, HN⟩
            case measure => simp [intOf]; omega
    · obtain rfl : j = P.length := by omega
      go_wp2
      go_ret
      exact ⟨rfl, hF.out⟩
end Go.Proofs.YtnjalelblbjfiaaGreatDoor
