import Derived.RangeFuncNested
import Derived.RangeFuncBound
import Derived.RangeFuncCalls
import Derived.RangeFuncLeaves
import Derived.RangeFuncBox
import Derived.Shelf.Abstract
import Derived.Shelf.RegionOpen
import Derived.OwnWalkIn
import Derived.TacticsInMore
import Derived.LoopNIn
import Derived.LoopIn
import Derived.Maps.AppendAt
import Derived.Test.YtnjalelblbjfiaaGreatDoorP40
import Derived.Test.YtnjalelblbjfiaaGreatDoorP26
import Derived.Test.YtnjalelblbjfiaaGreatDoorP34
namespace Go.Proofs.YtnjalelblbjfiaaGreatDoor
open Go.RowKit Go.Shelf

attribute [local go_sem] Oper.semAt_some

/-- A slice of routes, in a block below n₀. -/
def HopRow (n₀ : Nat) (W : World) (sv : Value) (L : List Rt) : Prop :=
  ∃ (a : Option Addr) (cap : Nat), sv = .slice a L.length cap ∧ ∀ j (h : j < L.length), ∃ g, a = some ⟨g, 0, none⟩ ∧ g < n₀ ∧ W.cell? ⟨g, j * 4, none⟩ = some (.int .i64 L[j].bits) ∧ W.cell? ⟨g, j * 4 + 1, none⟩ = some (.int .i64 L[j].len) ∧ W.cell? ⟨g, j * 4 + 2, none⟩ = some (.int .i64 L[j].vlan) ∧ W.cell? ⟨g, j * 4 + 3, none⟩ = some (.string L[j].mac)
theorem HopRow.below {n₀ : Nat} {A B : World} (h : Below n₀ A B) {sv : Value} {L : List Rt} (hr : HopRow n₀ A sv L) : HopRow n₀ B sv L := by
  obtain ⟨a, cap, e, hc⟩ := hr
  refine ⟨a, cap, e, fun j hj => ?_⟩
  obtain ⟨g, ha, hg, c0, c1, c2, c3⟩ := hc j hj
  exact ⟨g, ha, hg, (h.cell (p := ⟨g, j * 4, none⟩) hg).trans c0, (h.cell (p := ⟨g, j * 4 + 1, none⟩) hg).trans c1, (h.cell (p := ⟨g, j * 4 + 2, none⟩) hg).trans c2, (h.cell (p := ⟨g, j * 4 + 3, none⟩) hg).trans c3⟩
theorem MapHq.row {w : World} {m : Nat} {sv : Value} {K : List Rt} (h : MapHq w m sv K) {n₀ : Nat} (hn : w.heap.size ≤ n₀) : HopRow n₀ w sv K := by
  obtain ⟨a, cap, g, rfl, hc⟩ := rowH_cells h.1.2.2.1
  refine ⟨a, cap, rfl, fun j hj => ?_⟩
  obtain ⟨ha, c0, c1, c2, c3⟩ := hc j hj
  rw [rAt_eq hj] at c0 c1 c2 c3
  exact ⟨g, ha, Nat.lt_of_lt_of_le (block_lt_of_cell c0) hn, c0, c1, c2, c3⟩

/-- What the iterator hands on. -/
def encH {Pr : Rt → Prop} (x : { e : Rt // Pr e }) : Array Value := #[.agg #[.int .i64 x.1.bits, .int .i64 x.1.len], .agg #[.int .i64 x.1.vlan, .string x.1.mac]]

set_option maxRecDepth 100000 in
set_option maxHeartbeats 2000000 in
theorem allH1_in {Pr : Rt → Prop} (F : Fence) (n : Nat) (h49 : F.fn 210) (hro : F.round = none) (hn : 1 ≤ n) (l Bm m n₀ : Nat) (sv : Value) (L : List { e : Rt // Pr e }) (hlen : L.length ≤ 200) (J Jx : List { e : Rt // Pr e } → World → Prop) (B : Nat) (hJ : AbidesFrom B J)
    (hY : ∀ pre x W, J pre W → pre.length < L.length → YieldAt F (n - 1) Tryz.prog l (encH x) W fun e W' =>
      (e = .returned (.bool true) ∧ J (pre ++ [x]) W' ∧ Below n₀ W W') ∨ (e = .returned (.bool false) ∧ Jx (pre ++ [x]) W'))
    (W : World) (hn₀ : n₀ ≤ W.heap.size) (hBm : W.cell? ⟨Bm, 0, none⟩ = some (.pointer (some ⟨m, 0, none⟩))) (hm : W.cell? ⟨m, 1, none⟩ = some sv) (hrow : HopRow n₀ W sv (L.map (·.1))) (h0 : J [] W) :
    CallsIn F n Tryz.prog 210 #[.func (.yield l) #[] #[], .pointer (some ⟨Bm, 0, none⟩)] W fun e W' => (∃ v, e = .returned v) ∧
      ((∃ ys, ys = L ∧ J ys W') ∨ (∃ pre, pre <+: L ∧ Jx pre W')) := by
  obtain ⟨a, cap, rfl, hc⟩ := hrow
  simp only [List.length_map] at hc hm ⊢
  refine callsIn_of_wp Tryz.func210 rfl h49 ?_ hro
  simp only [Tryz.ntmps210, List.size_toArray, List.length_cons, List.length_nil, Nat.reduceAdd, Nat.reduceSub, Array.replicate_succ, Array.replicate_zero, List.push_toArray, List.append_toArray, List.nil_append, List.cons_append]
  gi_wp2
  gi_loopw [10] (fun i wr => ∃ k : Nat, k ≤ L.length ∧ i = .int .i64 k ∧ J (L.take k) wr ∧ Below n₀ W wr) (fun i _ => L.length - (intOf i).toNat)
  case atStart => exact ⟨0, Nat.zero_le _, rfl, by simpa using h0, Below.refl _ _⟩
  case round =>
    obtain ⟨k, hk, rfl, hJs, hnx⟩ := hrel
    by_cases hlt : k < L.length
    · obtain ⟨g, rfl, hg, c0, c1, c2, c3⟩ := hc k hlt
      rw [List.getElem_map] at c0 c1 c2 c3
      have d0 := (hnx.cell (p := ⟨g, k * 4, none⟩) hg).trans c0
      have d1 := (hnx.cell (p := ⟨g, k * 4 + 1, none⟩) hg).trans c1
      have d2 := (hnx.cell (p := ⟨g, k * 4 + 2, none⟩) hg).trans c2
      have d3 := (hnx.cell (p := ⟨g, k * 4 + 3, none⟩) hg).trans c3
      have hglt : g < wr.heap.size := Nat.lt_of_lt_of_le (Nat.lt_of_lt_of_le hg hn₀) hnx.size
      have hki : (k : Int) < L.length := by omega
      have hJ1 := hJ _ wr (wr.alloc (.cells #[.int .i64 L[k].1.bits, .int .i64 L[k].1.len, .int .i64 L[k].1.vlan, .string L[k].1.mac] 331)) none hJs (World.grownBy_alloc _ _ _) (fun r e => by cases e)
      obtain ⟨fn, tmps, assign, body, hy, hR⟩ := hY _ L[k] _ hJ1 (by simp; omega)
      simp only [encH] at hy
      have HT : Hid (L.take (k + 1) = L.take k ++ [L[k]]) := by rw [List.take_succ_eq_append_getElem hlt]; exact rfl
      generalize hee : L[k] = ek at *
      clear hJ1 hc c0 c1 c2 c3 hee
      gi_wp2
      refine hR.mono ?_
      rintro e W3 (⟨rfl, hJ3, hk3⟩ | ⟨rfl, hJx3⟩)
      · gi_wp2
        go_roundw
        case rel => exact ⟨k + 1, by omega, by simp, by rw [HT.out]; exact hJ3, (hnx.alloc (Nat.le_trans hn₀ hnx.size) _).trans hk3⟩
        case measure => simp [intOf]; omega
      · gi_wp2
        refine bodyPost_ret (results_none rfl _ _ _) rfl ?_
        exact ⟨⟨_, rfl⟩, .inr ⟨_, by rw [← HT.out]; exact List.take_prefix _ _, hJx3⟩⟩
    · obtain rfl : k = L.length := by omega
      clear hc
      gi_wp2
      go_end0
      exact ⟨⟨_, rfl⟩, .inl ⟨_, rfl, by simpa using hJs⟩⟩

set_option maxHeartbeats 1000000 in
theorem allH_in (F : Fence) (n : Nat) (h29 : F.fn 176) (hro : F.round = none) (m : Nat) (w : World) :
    CallsIn F n Tryz.prog 176 #[.pointer (some ⟨m, 0, none⟩)] w fun e w' => e = .returned (.func (.func 210) #[] #[.pointer (some ⟨w.heap.size, 0, none⟩)]) ∧ w' = w.alloc (.cells #[.pointer (some ⟨m, 0, none⟩)] 202) := by
  refine callsIn_of_wp Tryz.func176 rfl h29 ?_ hro
  simp only [Tryz.ntmps176, List.size_toArray, List.length_cons, List.length_nil, Nat.reduceAdd, Nat.reduceSub, Array.replicate_succ, Array.replicate_zero, List.push_toArray, List.append_toArray, List.nil_append, List.cons_append]
  gi_wp2
  go_ret
  exact ⟨rfl, rfl⟩

theorem allH_stops {Pr : Rt → Prop} (F : Fence) (n : Nat) (h49 : F.fn 210) (hro : F.round = none) (hn : 1 ≤ n) (Bm m n₀ : Nat) (sv : Value) (L : List { e : Rt // Pr e }) (hlen : L.length ≤ 200) (w : World) (hBm : Bm < w.heap.size) (hmlt : m < n₀) (hn₀ : n₀ ≤ w.heap.size)
    (hc : w.cell? ⟨Bm, 0, none⟩ = some (.pointer (some ⟨m, 0, none⟩))) (hm : w.cell? ⟨m, 1, none⟩ = some sv) (hL : HopRow n₀ w sv (L.map (·.1))) :
    SeqStopsK F n Tryz.prog 210 #[.pointer (some ⟨Bm, 0, none⟩)] (encH (Pr := Pr)) (Below n₀) (fun ys => ys = L) (fun pre => pre <+: L) L.length w := fun l J Jx W hW hJ _ hY h0 =>
  allH1_in F n h49 hro hn l Bm m n₀ sv L hlen J Jx W.heap.size hJ hY W (Nat.le_trans hn₀ hW.size) ((hW.cell (p := ⟨Bm, 0, none⟩) hBm).trans hc) ((hW.cell (p := ⟨m, 1, none⟩) (Nat.lt_of_lt_of_le hmlt hn₀)).trans hm) (hL.below (hW.mono hn₀)) h0

end Go.Proofs.YtnjalelblbjfiaaGreatDoor

namespace Go.Proofs.YtnjalelblbjfiaaGreatDoor
open Go.RowKit Go.Shelf

attribute [local go_sem] Oper.semAt_some

/-- The routes whose lengths are lengths. -/
def LenOk (e : Rt) : Prop := e.len = (e.len.toNat : Int) ∧ e.len.toNat ≤ 32
/-- Whether a route has an address. -/
def rtHas (a : Nat) (e : Rt) : Bool := pfHas e.bits e.len.toNat a
/-- The first route that has an address. -/
def findR (K : List Rt) (a : Nat) : Option Rt := K.find? (rtHas a)
def hopV (o : Option Rt) : Value := match o with | some e => .agg #[.int .i64 e.vlan, .string e.mac] | none => .agg #[.int .i64 0, .string ⟨#[]⟩]
theorem BlkAt.other {W : World} {b : Nat} {cs : Array Value} {t : TypeId} (h : BlkAt W b cs t) {x : Nat} (hne : b ≠ x) (i : Nat) (v : Value) : BlkAt (W.setCell ⟨x, i, none⟩ v) b cs t := (heap_setCell_other _ _ _ _ hne).trans h
theorem BlkAt.set {W : World} {b : Nat} {cs : Array Value} {t : TypeId} (h : BlkAt W b cs t) (i : Nat) (v : Value) : BlkAt (W.setCell ⟨b, i, none⟩ v) b (cs.setIfInBounds i v) t := heap_setCell_same _ _ i _ _ _ h
theorem find_pre {α : Type} {p : α → Bool} {L pre : List α} {x : α} (h : pre ++ [x] <+: L) (hn : ∀ y ∈ pre, p y = false) (hx : p x = true) : L.find? p = some x := by
  obtain ⟨t, rfl⟩ := h
  rw [List.find?_append, List.find?_append, List.find?_eq_none.2 (fun y hy => by rw [hn y hy]; decide)]
  simp [hx]

set_option maxRecDepth 100000 in
set_option maxHeartbeats 2000000 in
theorem hops_walk (rb hb : Nat) (sv : Value) (a : Nat) (w : World) (Ls : List { e : Rt // LenOk e }) (hlen : Ls.length ≤ 200) (ha : a < 4294967296)
    (hk : w.cell? ⟨rb, 0, none⟩ = some (.pointer (some ⟨hb, 0, none⟩))) (hm : w.cell? ⟨hb, 1, none⟩ = some sv) (hrow : HopRow w.heap.size w sv (Ls.map (·.1))) :
    Calls Tryz.prog 114 #[.pointer (some ⟨rb, 0, none⟩), .int .i64 a] w fun e w' => e = .returned (.tuple #[hopV (findR (Ls.map (·.1)) a), .bool (findR (Ls.map (·.1)) a).isSome]) ∧ Below w.heap.size w w' := by
  have hklt : rb < w.heap.size := block_lt_of_cell hk
  have hmlt : hb < w.heap.size := block_lt_of_cell hm
  have hrow0 := hrow
  obtain ⟨ra, rcap, rfl, _⟩ := hrow0
  rw [List.length_map] at hm
  have FIN : Hid (∀ (pre : List { e : Rt // LenOk e }) (x : { e : Rt // LenOk e }), pre ++ [x] <+: Ls → (∀ y ∈ pre, rtHas a y.1 = false) → rtHas a x.1 = true → findR (Ls.map (·.1)) a = some x.1) := hide fun pre x hp hn hx => by
    unfold findR
    rw [List.find?_map, find_pre (p := rtHas a ∘ fun (y : { e : Rt // LenOk e }) => y.1) hp hn hx]
    rfl
  have NON : Hid ((∀ y ∈ Ls, rtHas a y.1 = false) → findR (Ls.map (·.1)) a = none) := hide fun h => by
    unfold findR
    rw [List.find?_eq_none]
    intro e he
    obtain ⟨y, hy, rfl⟩ := List.mem_map.1 he
    rw [h y hy]
    decide
  obtain ⟨W3, hW3⟩ : ∃ W3, W3 = ((w.alloc (.cells #[.int .i64 a] 3)).alloc (.cells #[.int .i64 0, .string ⟨#[]⟩] 207)).alloc (.cells #[.bool false] 4) := ⟨_, rfl⟩
  have hs3 : W3.heap.size = w.heap.size + 3 := by rw [hW3]; simp
  have hB3 : Below w.heap.size w W3 := by rw [hW3]; exact (((Below.refl _ w).alloc (Nat.le_refl _) _).alloc (by simp) _).alloc (by simp; omega) _
  have b0 : BlkAt W3 w.heap.size #[.int .i64 a] 3 := by rw [hW3]; exact ((BlkAt.new w _ _).alloc _).alloc _
  have b1 : BlkAt W3 (w.heap.size + 1) #[.int .i64 0, .string ⟨#[]⟩] 207 := by
    have := (BlkAt.new (w.alloc (.cells #[.int .i64 a] 3)) #[.int .i64 0, .string ⟨#[]⟩] 207).alloc (.cells #[.bool false] 4)
    rw [World.size_alloc] at this
    rw [hW3]; exact this
  have b2 : BlkAt W3 (w.heap.size + 1 + 1) #[.bool false] 4 := by
    have := BlkAt.new ((w.alloc (.cells #[.int .i64 a] 3)).alloc (.cells #[.int .i64 0, .string ⟨#[]⟩] 207)) #[.bool false] 4
    rw [World.size_alloc, World.size_alloc] at this
    rw [hW3]; exact this
  have hk3 : (((w.alloc (.cells #[.int .i64 a] 3)).alloc (.cells #[.int .i64 0, .string ⟨#[]⟩] 207)).alloc (.cells #[.bool false] 4)).cell? ⟨rb, 0, none⟩ = some (.pointer (some ⟨hb, 0, none⟩)) := by rw [← hW3]; exact cell_later hB3 hk
  have r1 : rb < w.heap.size + 1 := by omega
  have r2 : rb < w.heap.size + 1 + 1 := by omega
  have r3 : rb < w.heap.size + 1 + 1 + 1 := by omega
  have HW3 := hide hW3
  refine (callsIn_wide (n := 5)).1 ?_
  have hro : Fence.wide.round = none := rfl
  refine callsIn_of_wp_marks Tryz.func114 rfl trivial ?_ hro
  simp only [Tryz.ntmps114, List.size_toArray, List.length_cons, List.length_nil, Nat.reduceAdd, Nat.reduceSub, Array.replicate_succ, Array.replicate_zero, List.push_toArray, List.append_toArray, List.nil_append, List.cons_append]
  clear hW3
  gi_wp2_with (first | (refine ⟨trivial, ?_⟩; gi_at_call 176; refine (allH_in Fence.wide 4 trivial hro hb _).mono ?_; rintro e w' ⟨rfl, rfl⟩))
  rw [← HW3.out]
  clear hk3
  have hB4 : Below w.heap.size w (W3.alloc (.cells #[.pointer (some ⟨hb, 0, none⟩)] 202)) := hB3.alloc (by omega) _
  have hs4 : (W3.alloc (.cells #[.pointer (some ⟨hb, 0, none⟩)] 202)).heap.size = w.heap.size + 4 := by simp [hs3]
  have hcm := (hB4.cell (p := ⟨hb, 1, none⟩) hmlt).trans hm
  have bN := BlkAt.new W3 #[.pointer (some ⟨hb, 0, none⟩)] 202
  rw [hs3] at bN
  rw [List.length_map] at hrow
  refine wpIn_rangeFunc_ownH hro (by omega) (gf := 210) (lb := #[.pointer (some ⟨w.heap.size + 3, 0, none⟩)]) rfl trivial (enters_of Tryz.func210 (by kernel_rfl) rfl)
    (allH_stops Fence.wide 4 trivial hro (by omega) (w.heap.size + 3) hb w.heap.size (.slice ra Ls.length rcap) Ls hlen _ (by omega) hmlt (by omega) (bN.cell rfl) hcm (hrow.below hB4)) belowK_t (belowK_b (by omega)) (Below.refl _ _) (fun _ => rfl)
    (fun pre W => BlkAt W w.heap.size #[.int .i64 a] 3 ∧ BlkAt W (w.heap.size + 1) #[.int .i64 0, .string ⟨#[]⟩] 207 ∧ BlkAt W (w.heap.size + 1 + 1) #[.bool false] 4 ∧ (∀ y ∈ pre, rtHas a y.1 = false) ∧ Below w.heap.size w W)
    (fun c pre W => c = .ret ∧ (∃ pre' x, pre = pre' ++ [x] ∧ (∀ y ∈ pre', rtHas a y.1 = false) ∧ rtHas a x.1 = true ∧ BlkAt W (w.heap.size + 1) #[.int .i64 x.1.vlan, .string x.1.mac] 207) ∧ BlkAt W (w.heap.size + 1 + 1) #[.bool true] 4 ∧ Below w.heap.size w W)
    (fun s X Y row hs hg hr => ⟨BlkAt.own _ _ _ () X Y row hs.1 hg (fun r e => (hr r e).2), BlkAt.own _ _ _ () X Y row hs.2.1 hg (fun r e => (hr r e).2), BlkAt.own _ _ _ () X Y row hs.2.2.1 hg (fun r e => (hr r e).2), hs.2.2.2.1, (ownFrom_below (β := List { e : Rt // LenOk e }) (Nat.le_refl _) (by omega)) s X Y row hs.2.2.2.2 hg hr⟩)
    (fun c s X Y row hs hg hr => ⟨hs.1, (by obtain ⟨pre', x, e1, e2, e3, e4⟩ := hs.2.1; exact ⟨pre', x, e1, e2, e3, BlkAt.own _ _ _ () X Y row e4 hg (fun r e => (hr r e).2)⟩), BlkAt.own _ _ _ () X Y row hs.2.2.1 hg (fun r e => (hr r e).2), (ownFrom_below (β := List { e : Rt // LenOk e }) (Nat.le_refl _) (by omega)) s X Y row hs.2.2.2 hg hr⟩)
    ⟨b0.alloc _, b1.alloc _, b2.alloc _, (fun y hy => absurd hy (List.not_mem_nil)), hB4⟩
    (fun x a' W => ∃ Bx By, w.heap.size + 1 + 1 < Bx ∧ w.heap.size + 1 + 1 < By ∧ BlkAt W Bx #[.int .i64 x.1.bits, .int .i64 x.1.len] 205 ∧ BlkAt W By #[.int .i64 x.1.vlan, .string x.1.mac] 207 ∧ a' = { tmps := #[.pointer (some ⟨rb, 0, none⟩), .int .i64 a, undef, .pointer (some ⟨w.heap.size, 0, none⟩), .pointer (some ⟨w.heap.size + 1, 0, none⟩), .pointer (some ⟨w.heap.size + 1 + 1, 0, none⟩), .pointer (some ⟨Bx, 0, none⟩), .pointer (some ⟨By, 0, none⟩), .pointer (some ⟨rb, 0, none⟩), .pointer (some ⟨rb, 0, none⟩), .pointer (some ⟨rb, 0, none⟩), .pointer (some ⟨hb, 0, none⟩), .func (.func 210) #[] #[.pointer (some ⟨w.heap.size + 3, 0, none⟩)], .agg #[.int .i64 x.1.bits, .int .i64 x.1.len], .agg #[.int .i64 x.1.vlan, .string x.1.mac], undef, undef, undef, undef, undef], defers := [] })
    (fun x a' _ X Y row hs hg hr => by obtain ⟨Bx, By, h1, h2, h3, h4, h5⟩ := hs; exact ⟨Bx, By, h1, h2, BlkAt.own Bx _ _ () X Y row h3 hg (fun r e => (hr r e).2), BlkAt.own By _ _ () X Y row h4 hg (fun r e => (hr r e).2), h5⟩)
    ?assign ?body ?done ?stop
  case assign =>
    rintro l pre x W K ⟨i0, i1, i2, i3, i4⟩ hK
    simp only [encH]
    gi_wp2
    have hsW := i4.size
    have hlt := i2.lt
    have bY : BlkAt ((W.alloc (.cells #[.int .i64 x.1.bits, .int .i64 x.1.len] 205)).alloc (.cells #[.int .i64 x.1.vlan, .string x.1.mac] 207)) (W.heap.size + 1) #[.int .i64 x.1.vlan, .string x.1.mac] 207 := by
      have := BlkAt.new (W.alloc (.cells #[.int .i64 x.1.bits, .int .i64 x.1.len] 205)) #[.int .i64 x.1.vlan, .string x.1.mac] 207
      rwa [World.size_alloc] at this
    exact hK _ _ (((KeepsOthers.alloc _ _).trans (KeepsOthers.alloc _ _)).from _) (((Below.refl _ W).alloc hsW _).alloc (by simp; omega) _) ⟨(i0.alloc _).alloc _, (i1.alloc _).alloc _, (i2.alloc _).alloc _, i3, (i4.alloc hsW _).alloc (by simp; omega) _⟩ ⟨W.heap.size, W.heap.size + 1, by omega, by omega, (BlkAt.new W _ _).alloc _, bY, rfl⟩
  case body =>
    rintro l pre x a' W hl ⟨r, hr⟩ ⟨i0, i1, i2, i3, i4⟩ ⟨Bx, By, hBx, hBy, bX, bY, rfl⟩ hlt
    obtain ⟨ln, hln⟩ : ∃ ln, ln = x.1.len.toNat := ⟨_, rfl⟩
    have CH := prefHas_any x.1.bits ln a
    have x0 : W.cell? ⟨Bx, 0, none⟩ = some (.int .i64 x.1.bits) := bX.cell rfl
    have x1 : W.cell? ⟨Bx, 1, none⟩ = some (.int .i64 ln) := by rw [hln, ← x.2.1]; exact bX.cell rfl
    have c0 : W.cell? ⟨w.heap.size, 0, none⟩ = some (.int .i64 a) := i0.cell rfl
    have hl32 : ln ≤ 32 := by rw [hln]; exact x.2.2
    have l0 := i0.lt
    have lx := bX.lt
    have hH : pfHas x.1.bits ln a = rtHas a x.1 := by rw [hln]; rfl
    rw [hH] at CH
    have HLN := hide hln
    clear hln hH hr
    cases hh : rtHas a x.1 with
    | false =>
      rw [hh] at CH
      have C := hide fun (W : World) => CH W hl32 ha
      have HH := hide hh
      clear CH hh
      gi_wp2_with (first | (refine ⟨trivial, ?_⟩; gi_at_call 177; refine (callsIn_wide.2 (C.out _)).mono ?_; rintro e w1 ⟨rfl, hb1⟩))
      refine ⟨(keepsOthers_below hb1).from _, hb1.mono i4.size, i0.below hb1, i1.below hb1, i2.below hb1, fun y hy => ?_, i4.trans (hb1.mono i4.size)⟩
      rcases List.mem_append.1 hy with h | h
      · exact i3 y h
      · rw [List.mem_singleton.1 h]
        exact HH.out
    | true =>
      rw [hh] at CH
      have C := hide fun (W : World) => CH W hl32 ha
      have HH := hide hh
      clear CH hh
      gi_wp2_with (first | (refine ⟨trivial, ?_⟩; gi_at_call 177; refine (callsIn_wide.2 (C.out _)).mono ?_; rintro e w1 ⟨rfl, hb1⟩; have bY1 := bY.below hb1; have b11 := i1.below hb1; have b21 := i2.below hb1; have y0 : w1.cell? ⟨By, 0, none⟩ = some (.int .i64 x.1.vlan) := bY1.cell rfl; have y1 : w1.cell? ⟨By, 1, none⟩ = some (.string x.1.mac) := bY1.cell rfl; have z0 : w1.cell? ⟨w.heap.size + 1, 0, none⟩ = some (.int .i64 0) := b11.cell rfl; have z1 : w1.cell? ⟨w.heap.size + 1, 1, none⟩ = some (.string ⟨#[]⟩) := b11.cell rfl; have z2 : w1.cell? ⟨w.heap.size + 1 + 1, 0, none⟩ = some (.bool false) := b21.cell rfl; have f0 := b11.frozen 0; have f1 := b11.frozen 1; have f2 := b21.frozen 0; have ly := bY1.lt; have l1 := b11.lt; have l2 := b21.lt))
      refine ⟨(((keepsOthers_below hb1).trans (KeepsOthers.setCell _ _ _)).trans ((KeepsOthers.setCell _ _ _).trans (KeepsOthers.setCell _ _ _))).from _, rfl, ⟨pre, x, rfl, i3, HH.out, ?_⟩, ?_, ?_⟩
      · exact (((b11.set 0 _).set 1 _).other (by omega) 0 _)
      · exact ((b21.other (by omega) 0 _).other (by omega) 1 _).set 0 _
      · exact (((i4.trans (hb1.mono i4.size)).setCell (by simp) _).setCell (by simp) _).setCell (by simp; omega) _
  case done =>
    rintro D ys W hD rfl ⟨i0, i1, i2, i3, i4⟩ hK
    have z0 : W.cell? ⟨w.heap.size + 1, 0, none⟩ = some (.int .i64 0) := i1.cell rfl
    have z1 : W.cell? ⟨w.heap.size + 1, 1, none⟩ = some (.string ⟨#[]⟩) := i1.cell rfl
    have z2 : W.cell? ⟨w.heap.size + 1 + 1, 0, none⟩ = some (.bool false) := i2.cell rfl
    have f0 := i1.frozen 0
    have f1 := i1.frozen 1
    have f2 := i2.frozen 0
    have l1 := i1.lt
    have l2 := i2.lt
    have HN := hide (NON.out i3)
    have HI4 := hide i4
    have HI1 := hide i1
    have HI2 := hide i2
    have HD := hide hD
    have HK := hide hK
    clear i0 i1 i2 i3 i4 hK hD
    gi_wp2
    have hK' := ((((KeepsOthers.setCell W ⟨w.heap.size + 1, 0, none⟩ (.int .i64 0)).trans (KeepsOthers.setCell _ ⟨w.heap.size + 1, 1, none⟩ (.string ⟨#[]⟩))).trans (KeepsOthers.setCell _ ⟨w.heap.size + 1 + 1, 0, none⟩ (.bool false)))).same D _ HK.out rfl
    refine ⟨by simp, .inl ⟨_, _, rfl, run_takeDeferred hK', ?_⟩⟩
    have hg := grownBy_putObj' (((W.setCell ⟨w.heap.size + 1, 0, none⟩ (.int .i64 0)).setCell ⟨w.heap.size + 1, 1, none⟩ (.string ⟨#[]⟩)).setCell ⟨w.heap.size + 1 + 1, 0, none⟩ (.bool false)) D (.deferred none)
    have hD2 : w.heap.size + 4 ≤ D := by have := HD.out; rw [hs4] at this; exact this
    have q1 := (((HI1.out.set 0 (.int .i64 0)).set 1 (.string ⟨#[]⟩)).other (show w.heap.size + 1 ≠ w.heap.size + 1 + 1 by omega) 0 (.bool false)).kept hg (by simp; omega)
    have q2 := (((HI2.out.other (show w.heap.size + 1 + 1 ≠ w.heap.size + 1 by omega) 0 (.int .i64 0)).other (show w.heap.size + 1 + 1 ≠ w.heap.size + 1 by omega) 1 (.string ⟨#[]⟩)).set 0 (.bool false)).kept hg (by simp; omega)
    have p0 := q1.cell (i := 0) (v := .int .i64 0) rfl
    have p1 := q1.cell (i := 1) (v := .string ⟨#[]⟩) rfl
    have p2 := q2.cell (i := 0) (v := .bool false) rfl
    have hB5 : Below w.heap.size w (((W.setCell ⟨w.heap.size + 1, 0, none⟩ (.int .i64 0)).setCell ⟨w.heap.size + 1, 1, none⟩ (.string ⟨#[]⟩)).setCell ⟨w.heap.size + 1 + 1, 0, none⟩ (.bool false)) := ((HI4.out.setCell (by simp) _).setCell (by simp) _).setCell (by simp; omega) _
    refine ⟨.tuple #[.agg #[.int .i64 0, .string ⟨#[]⟩], .bool false], ?_, by rw [HN.out]; rfl, hB5.grown hg hB5.size (fun x hx => by cases hx; omega)⟩
    simp [results, Tryz.results114, go_sem, p0, p1, p2]
  case stop =>
    rintro D c pre W hD hpre ⟨rfl, ⟨pre', x, rfl, e2, e3, e4⟩, i2, i4⟩ hK
    have HN := hide (FIN.out pre' x hpre e2 e3)
    have HI4 := hide i4
    have HI1 := hide e4
    have HI2 := hide i2
    have HD := hide hD
    have HK := hide hK
    clear i2 i4 hK e2 e3 e4 hpre hD
    gi_wp2
    refine ⟨by simp, .inl ⟨_, _, rfl, run_takeDeferred HK.out, ?_⟩⟩
    have hg := grownBy_putObj' W D (.deferred none)
    have hD2 : w.heap.size + 4 ≤ D := by have := HD.out; rw [hs4] at this; exact this
    have q1 := HI1.out.kept hg (by simp; omega)
    have q2 := HI2.out.kept hg (by simp; omega)
    have p0 := q1.cell (i := 0) (v := .int .i64 x.1.vlan) rfl
    have p1 := q1.cell (i := 1) (v := .string x.1.mac) rfl
    have p2 := q2.cell (i := 0) (v := .bool true) rfl
    refine ⟨.tuple #[.agg #[.int .i64 x.1.vlan, .string x.1.mac], .bool true], ?_, by rw [HN.out]; rfl, HI4.out.grown hg HI4.out.size (fun x hx => by cases hx; omega)⟩
    simp [results, Tryz.results114, go_sem, p0, p1, p2]

theorem pmap_self {K : List Rt} (hL : ∀ e ∈ K, LenOk e) : (K.pmap (fun e h => (⟨e, h⟩ : { e : Rt // LenOk e })) hL).map (·.1) = K := by
  induction K with
  | nil => rfl
  | cons e t ih =>
    rw [List.pmap_cons, List.map_cons, ih fun x hx => hL x (List.mem_cons_of_mem _ hx)]
/-- Find of the routes. -/
theorem rFind_any (rb hb : Nat) (sv : Value) (K : List Rt) (a : Nat) (w : World) (h0 : w.cell? ⟨rb, 0, none⟩ = some (.pointer (some ⟨hb, 0, none⟩))) (hM : MapHq w hb sv K) (hL : ∀ e ∈ K, LenOk e) (ha : a < 4294967296) :
    Calls Tryz.prog 114 #[.pointer (some ⟨rb, 0, none⟩), .int .i64 a] w fun e w' => e = .returned (.tuple #[hopV (findR K a), .bool (findR K a).isSome]) ∧ Below w.heap.size w w' := by
  have h := hops_walk rb hb sv a w (K.pmap (fun e h => ⟨e, h⟩) hL) (by rw [List.length_pmap]; exact hM.1.2.2.2.2) ha h0 hM.1.2.1 (by rw [pmap_self hL]; exact hM.row (Nat.le_refl _))
  rw [pmap_self hL] at h
  exact h
end Go.Proofs.YtnjalelblbjfiaaGreatDoor

namespace Go.Proofs.YtnjalelblbjfiaaGreatDoor
open Go.RowKit
open Go.Sort (grow)

/-- The bytes in a block. -/
def ByAt (W : World) (g : Nat) (l : List UInt8) : Prop := ∀ j (hj : j < l.length), W.cell? ⟨g, j, none⟩ = some (.int .u8 (l[j].toNat : Int))
theorem ByAt.set {W : World} {g : Nat} {l : List UInt8} (h : ByAt W g l) {i : Nat} (hi : i < l.length) (x : UInt8) : ByAt (W.setCell ⟨g, i, none⟩ (.int .u8 (x.toNat : Int))) g (l.set i x) := by
  intro j hj
  rw [List.length_set] at hj
  rw [List.getElem_set]
  by_cases e : i = j
  · subst e
    rw [if_pos rfl]
    exact World.cell?_setCell_same _ _ _ (h i hi)
  · rw [if_neg e, World.cell?_setCell_other _ _ _ _ (by intro h'; simp at h' <;> omega)]
    exact h j hj
theorem ByAt.below {W W' : World} {g : Nat} {l : List UInt8} (h : ByAt W g l) (hb : Below W.heap.size W W') : ByAt W' g l := fun j hj => cell_later hb (h j hj)
/-- A string becomes bytes. -/
theorem hop_conv (W : World) (b : ByteArray) : ∃ cap W1, (convert 9 334 (.string b)).run Tryz.prog W = .ok (.slice (some ⟨W.heap.size, 0, none⟩) b.size cap) W1 ∧ Below W.heap.size W W1 ∧ W1.heap.size = W.heap.size + 1 ∧ b.size ≤ cap ∧ ByAt W1 W.heap.size b.toList ∧ ∀ j, j < b.size → W1.frozen? ⟨W.heap.size, j, none⟩ = false := by
  have hge := grownCap_ge W b.size 0 5
  have hN := World.alloc_heap_new W.drew (.cells (bytesRow b (grownCap W b.size 0 5)) 5 ((bytesRow b (grownCap W b.size 0 5)).size, (bytesRow b (grownCap W b.size 0 5)).size + 1))
  have hN' : (W.drew.alloc (.cells (bytesRow b (grownCap W b.size 0 5)) 5 ((bytesRow b (grownCap W b.size 0 5)).size, (bytesRow b (grownCap W b.size 0 5)).size + 1))).heap[W.heap.size]? = some (.cells (bytesRow b (grownCap W b.size 0 5)) 5 ((bytesRow b (grownCap W b.size 0 5)).size, (bytesRow b (grownCap W b.size 0 5)).size + 1)) := hN
  have hsz : (bytesRow b (grownCap W b.size 0 5)).size = grownCap W b.size 0 5 := by
    simp only [bytesRow, Array.size_append, Array.size_map, Array.size_replicate]
    have : b.data.size = b.size := rfl
    omega
  refine ⟨_, _, run_bytes_of_string W 9 334 5 b Tryz.underlying9 Tryz.underlying334 Tryz.underlying5, ?_, ?_, hge, ?_, ?_⟩
  · exact (Below.refl _ W).drew.alloc (Nat.le_refl _) _
  · simp
  · intro j hj
    have hj' : j < b.data.size := by rwa [ByteArray.toList_eq, Array.length_toList] at hj
    refine cellRow hN' ?_
    unfold bytesRow
    rw [Array.getElem?_append_left (by simpa using hj')]
    simp [ByteArray.toList_eq]
    exact ⟨_, Array.getElem?_eq_getElem hj', rfl⟩
  · intro j hj
    unfold World.frozen?
    simp only [hN']
    rw [hsz, decide_eq_false (by omega : ¬ grownCap W b.size 0 5 ≤ j)]
    rfl
/-- The bytes of a packet one hop on. -/
def hopB (b : ByteArray) : ByteArray := ofL (((b.toList.set 8 (UInt8.ofNat (b8 b 8 - 1))).set 10 (UInt8.ofNat (ones (w16 b 10) 256 / 256))).set 11 (UInt8.ofNat (ones (w16 b 10) 256 % 256)))
theorem u8_of {n : Nat} (h : n < 256) : ((UInt8.ofNat n).toNat : Int) = n := by simp; omega

set_option maxRecDepth 100000 in
set_option maxHeartbeats 1000000 in
theorem pHop_any (b : ByteArray) (hd tt : Int) (w : World) (h : 20 ≤ b.size) (hs : b.size ≤ 1000) (h8 : 1 ≤ b8 b 8) :
    Calls Tryz.prog 179 #[.agg #[.string b, .int .i64 hd, .int .i64 tt]] w fun e w' => e = .returned (.string (hopB b)) ∧ Below w.heap.size w w' := by
  unfold hopB
  obtain ⟨w0, hw0⟩ : ∃ w0, w0 = w.alloc (.cells #[.string b, .int .i64 hd, .int .i64 tt] 148) := ⟨_, rfl⟩
  have hz0 : w0.heap.size = w.heap.size + 1 := by rw [hw0]; simp
  have hb0 : Below w.heap.size w w0 := by rw [hw0]; exact (Below.refl _ w).alloc (Nat.le_refl _) _
  have bx : w0.heap[w.heap.size]? = some (.cells #[.string b, .int .i64 hd, .int .i64 tt] 148 (0, 0)) := by rw [hw0]; exact allocN _ _
  obtain ⟨cap, W1, hcv, hb1, hz1, hcap, hcs, hfr⟩ := hop_conv w0 b
  rw [hw0] at hcv
  rw [hz0] at hcs hfr
  have hlen : b.toList.length = b.size := by rw [ByteArray.toList_eq, Array.length_toList]; rfl
  have x8 : b.toList[8]'(by omega) = UInt8.ofNat (b8 b 8) := by
    unfold b8
    rw [dif_pos (by omega : 8 < b.size)]
    simp [ByteArray.toList_eq]
    rfl
  have l8 := b8_lt b 8
  have c8 : W1.cell? ⟨w.heap.size + 1, 8, none⟩ = some (.int .u8 (b8 b 8 : Int)) := by
    rw [hcs 8 (by omega), x8, u8_of l8]
  have f8 := hfr 8 (by omega)
  have hcap' : (b.size : Int) ≤ cap := by omega
  have i8 : (8 : Int) < b.size := by omega
  have i10 : (10 : Int) < b.size := by omega
  have i11 : (11 : Int) < b.size := by omega
  have CW := hide fun (W : World) => pWord_any b hd tt 10 W (by omega) hs
  have hw16 := w16_lt b 10
  have CA := hide fun (W : World) => pAdd_any (w16 b 10) 256 W (by omega) (by omega)
  have hso : ones (w16 b 10) 256 ≤ 65535 := ones_le (by omega) (by omega)
  obtain ⟨W2, hW2⟩ : ∃ W2, W2 = W1.setCell ⟨w.heap.size + 1, 8, none⟩ (.int .u8 ((UInt8.ofNat (b8 b 8 - 1)).toNat : Int)) := ⟨_, rfl⟩
  have B2 : ByAt W2 (w.heap.size + 1) (b.toList.set 8 (UInt8.ofNat (b8 b 8 - 1))) := by rw [hW2]; exact hcs.set (by omega) _
  rw [u8_of (by omega)] at hW2
  have hb2 : Below w.heap.size w W2 := by rw [hW2]; exact (hb0.trans (hb1.mono (by omega))).setCell (show w.heap.size ≤ w.heap.size + 1 by omega) _
  have f2 : ∀ j, j < b.size → W2.frozen? ⟨w.heap.size + 1, j, none⟩ = false := fun j hj => by rw [hW2, World.frozen?_setCell]; exact hfr j hj
  have bx2 : W2.heap[w.heap.size]? = some (.cells #[.string b, .int .i64 hd, .int .i64 tt] 148 (0, 0)) := by
    rw [hW2, heap_setCell_other _ _ _ _ (Nat.ne_of_lt (Nat.lt_succ_self _))]
    exact (hb1.block _ (lt_of_heap bx)).trans bx
  have p0 : W2.cell? ⟨w.heap.size, 0, none⟩ = some (.string b) := cellRow bx2 rfl
  have p1 : W2.cell? ⟨w.heap.size, 1, none⟩ = some (.int .i64 hd) := cellRow bx2 rfl
  have p2 : W2.cell? ⟨w.heap.size, 2, none⟩ = some (.int .i64 tt) := cellRow bx2 rfl
  have bx1 := (hb1.block _ (lt_of_heap bx)).trans bx
  have k0 : W1.cell? ⟨w.heap.size, 0, none⟩ = some (.string b) := cellRow bx1 rfl
  have k1 : W1.cell? ⟨w.heap.size, 1, none⟩ = some (.int .i64 hd) := cellRow bx1 rfl
  have k2 : W1.cell? ⟨w.heap.size, 2, none⟩ = some (.int .i64 tt) := cellRow bx1 rfl
  have HW2 := hide hW2
  have hz2 := block_lt_of_cell k0
  have h8i : (1 : Int) ≤ (b8 b 8 : Int) := by omega
  have e8 : ((b8 b 8 - 1 : Nat) : Int) = (b8 b 8 : Int) - 1 := by omega
  rw [e8] at HW2
  have HB2 := hide B2
  have HF2 := hide f2
  have HBW := hide hb2
  have HLN := hide hlen
  clear bx1 hw0 hb0 bx bx2 p0 p1 p2 hcs hfr hW2 B2 f2 hb2 hb1 hlen x8 e8 hz0 hz1
  generalize b8 b 8 = n8 at *
  generalize w16 b 10 = n10 at *
  generalize ones n10 256 = so at *
  go_enter Tryz.func179, Tryz.ntmps179
  go_wp2_with fail
  rw [← HW2.out]
  clear HW2 k0 k1 k2 c8 f8 hcv
  refine (CW.out _).mono ?_
  rintro e W3 ⟨rfl, hb3⟩
  have B3 := HB2.out.below hb3
  have HB3 := hide B3
  have hl3 : (b.toList.set 8 (UInt8.ofNat (n8 - 1))).length = b.size := by rw [List.length_set]; exact HLN.out
  have c10 : ∃ v, W3.cell? ⟨w.heap.size + 1, 10, none⟩ = some (.int .u8 v) := ⟨_, B3 10 (by omega)⟩
  have c11 : ∃ v, W3.cell? ⟨w.heap.size + 1, 11, none⟩ = some (.int .u8 v) := ⟨_, B3 11 (by omega)⟩
  obtain ⟨v10, c10⟩ := c10
  obtain ⟨v11, c11⟩ := c11
  have hgl : w.heap.size + 1 < W2.heap.size := block_lt_of_cell (HB2.out 0 (by omega))
  have f10 : W3.frozen? ⟨w.heap.size + 1, 10, none⟩ = false := (hb3.frozen (p := ⟨w.heap.size + 1, 10, none⟩) hgl).trans (HF2.out 10 (by omega))
  have f11 : W3.frozen? ⟨w.heap.size + 1, 11, none⟩ = false := (hb3.frozen (p := ⟨w.heap.size + 1, 11, none⟩) hgl).trans (HF2.out 11 (by omega))
  have HBW3 := hide (HBW.out.trans (hb3.mono HBW.out.size))
  clear hb3 B3 HB2 HF2 HBW
  go_wp2_with fail
  refine (CA.out _).mono ?_
  rintro e W ⟨rfl, hww⟩
  rw [hww]
  clear hww W
  obtain ⟨L3, hL3⟩ : ∃ L3, L3 = b.toList.set 8 (UInt8.ofNat (n8 - 1)) := ⟨_, rfl⟩
  rw [← hL3] at HB3 hl3
  have HL3 := hide hL3
  have e1 : (((UInt8.ofNat (so / 256)).toNat : Nat) : Int) = (so : Int) / 256 := by rw [u8_of (n := so / 256) (by omega)]; omega
  have e2 : (((UInt8.ofNat (so % 256)).toNat : Nat) : Int) = (so : Int) % 256 := by rw [u8_of (n := so % 256) (by omega)]; omega
  have BF := (HB3.out.set (i := 10) (by omega) (UInt8.ofNat (so / 256))).set (i := 11) (by rw [List.length_set]; omega) (UInt8.ofNat (so % 256))
  rw [e1, e2] at BF
  have hl4 : ((L3.set 10 (UInt8.ofNat (so / 256))).set 11 (UInt8.ofNat (so % 256))).length = b.size := by rw [List.length_set, List.length_set]; exact hl3
  generalize hL4 : (L3.set 10 (UInt8.ofNat (so / 256))).set 11 (UInt8.ofNat (so % 256)) = L4 at BF hl4
  have HL4 := hide hL4
  have hcv2 := run_convert_bytes_back _ 334 9 5 ⟨w.heap.size + 1, 0, none⟩ cap L4 Tryz.underlying334 Tryz.underlying5 Tryz.underlying9 (fun j hj => by
    have e : (⟨w.heap.size + 1, 0, none⟩ : Addr).add j = ⟨w.heap.size + 1, j, none⟩ := by
      unfold Addr.add
      split <;> simp_all
    rw [e]
    exact BF j hj)
  rw [hl4] at hcv2
  have HBF := hide (((HBW3.out).setCell (show w.heap.size ≤ (⟨w.heap.size + 1, 10, none⟩ : Addr).block by simp) (.int .u8 ((so : Int) / 256))).setCell (show w.heap.size ≤ (⟨w.heap.size + 1, 11, none⟩ : Addr).block by simp) (.int .u8 ((so : Int) % 256)))
  clear BF HB3 HBW3 e1 e2 hL3 hL4
  go_wp2
  go_ret
  exact ⟨by rw [← HL3.out, HL4.out]; rfl, HBF.out⟩
end Go.Proofs.YtnjalelblbjfiaaGreatDoor

namespace Go.Proofs.YtnjalelblbjfiaaGreatDoor
open Go.RowKit
open Go.Sort (grow)

/-- A frame that goes on from a face to a hop. -/
def readP (p : Pg) (v : Int) (m face : ByteArray) : Pg := { p with routed := true, f := { p.f with to := m, fr := face, vlan := v, mark := 0, rest := hopB p.pb } }
set_option maxRecDepth 100000 in
set_option maxHeartbeats 1000000 in
theorem readdress_any (g : Nat) (p : Pg) (ov : Value) (v : Int) (m face : ByteArray) (w : World) (hg : PgAt w g p ov) (hz : 20 ≤ p.pb.size) (hs : p.pb.size ≤ 1000) (h8 : 1 ≤ b8 p.pb 8) :
    Calls Tryz.prog 117 #[.pointer (some ⟨g, 0, none⟩), .agg #[.int .i64 v, .string m], .string face] w fun e w' => e = .returned (.tuple #[]) ∧ PgAt w' g (readP p v m face) ov ∧ OnlyG g w w' := by
  obtain ⟨W0, hW0⟩ : ∃ W0, W0 = ((((w.setCell ⟨g, 13, none⟩ (.bool true)).setCell ⟨g, 2, none⟩ (.string m)).setCell ⟨g, 3, none⟩ (.string face)).setCell ⟨g, 5, none⟩ (.int .i64 v)).setCell ⟨g, 6, none⟩ (.int .i64 0) := ⟨_, rfl⟩
  obtain ⟨W1, hW1⟩ : ∃ W1, W1 = W0.alloc (.cells #[.int .i64 v, .string m] 207) := ⟨_, rfl⟩
  have hb1 : Below W0.heap.size W0 W1 := by rw [hW1]; exact (Below.refl _ W0).alloc (Nat.le_refl _) _
  have P1 : PgAt W1 g { p with routed := true, f := { p.f with to := m, fr := face, vlan := v, mark := 0 } } ov := by
    have q1 := hg.set (q := { p with routed := true }) (ov' := ov) 13 (.bool true) (by simp [pgCells])
    have q2 := q1.set (q := { p with routed := true, f := { p.f with to := m } }) (ov' := ov) 2 (.string m) (by simp [pgCells])
    have q3 := q2.set (q := { p with routed := true, f := { p.f with to := m, fr := face } }) (ov' := ov) 3 (.string face) (by simp [pgCells])
    have q4 := q3.set (q := { p with routed := true, f := { p.f with to := m, fr := face, vlan := v } }) (ov' := ov) 5 (.int .i64 v) (by simp [pgCells])
    have q5 := q4.set (q := { p with routed := true, f := { p.f with to := m, fr := face, vlan := v, mark := 0 } }) (ov' := ov) 6 (.int .i64 0) (by simp [pgCells])
    rw [← hW0] at q5
    exact q5.below hb1
  have O1 : OnlyG g w W1 := by
    have q := (((((OnlyG.of_below (Below.refl _ w)).set (g := g) 13 (.bool true)).set 2 (.string m)).set 3 (.string face)).set 5 (.int .i64 v)).set 6 (.int .i64 0)
    rw [← hW0] at q
    exact q.trans (OnlyG.of_below hb1)
  have c13 : w.cell? ⟨g, 13, none⟩ = some (.bool p.routed) := hg.cell rfl
  have c2 : w.cell? ⟨g, 2, none⟩ = some (.string p.f.to) := hg.cell rfl
  have c3 : w.cell? ⟨g, 3, none⟩ = some (.string p.f.fr) := hg.cell rfl
  have c5 : w.cell? ⟨g, 5, none⟩ = some (.int .i64 p.f.vlan) := hg.cell rfl
  have c6 : w.cell? ⟨g, 6, none⟩ = some (.int .i64 p.f.mark) := hg.cell rfl
  have c9 : w.cell? ⟨g, 9, none⟩ = some (.string p.pb) := hg.cell rfl
  have c10 : w.cell? ⟨g, 10, none⟩ = some (.int .i64 p.ph) := hg.cell rfl
  have c11 : w.cell? ⟨g, 11, none⟩ = some (.int .i64 p.pt) := hg.cell rfl
  have f13 := hg.frozen 13
  have f2 := hg.frozen 2
  have f3 := hg.frozen 3
  have f5 := hg.frozen 5
  have f6 := hg.frozen 6
  have hgl := hg.lt
  have hne : ¬ g = w.heap.size := by omega
  have hne2 : ¬ w.heap.size = g := by omega
  have hgl1 : g < w.heap.size + 1 := by omega
  have CH := hide fun (W : World) => pHop_any p.pb p.ph p.pt W hz hs h8
  rw [hW0] at hW1
  have HW1 := hide hW1
  have HP1 := hide P1
  have HO1 := hide O1
  clear hW0 hb1 hW1 P1 O1 hg hz hs h8
  go_enter Tryz.func117, Tryz.ntmps117
  go_wp2_with fail
  rw [← HW1.out]
  refine (CH.out _).mono ?_
  rintro e W2 ⟨rfl, hb2⟩
  have P2 := HP1.out.below hb2
  have c8 : W2.cell? ⟨g, 8, none⟩ = some (.string p.f.rest) := P2.cell rfl
  have f8 := P2.frozen 8
  have hgl2 := P2.lt
  have HP3 := hide (P2.set (q := readP p v m face) (ov' := ov) 8 (.string (hopB p.pb)) (by simp [pgCells, readP]))
  have HO3 := hide ((HO1.out.trans (OnlyG.of_below hb2)).set 8 (.string (hopB p.pb)))
  clear hb2 P2 HW1 c13 c2 c3 c5 c6 c9 c10 c11 f13 f2 f3 f5 f6
  go_wp2
  go_end0
  exact ⟨rfl, HP3.out, HO3.out⟩
end Go.Proofs.YtnjalelblbjfiaaGreatDoor
