import Derived.Test.YtnjalelblbjfiaaGreatDoorP23
import Derived.Test.YtnjalelblbjfiaaGreatDoorP24
import Derived.Test.YtnjalelblbjfiaaGreatDoorP19
import Derived.Laws.ResultCell
import Derived.Maps.Own
namespace Go.Proofs.YtnjalelblbjfiaaGreatDoor
open Go.RowKit Go.Shelf

attribute [local go_sem] Oper.semAt_some

theorem infoMac : (Tryz.prog.info? 68).map (fun i => (i.zero, i.size, i.bytes)) = some (some (.agg #[.int .i64 0, .string ⟨#[]⟩, .int .i64 0, .int .i64 0]), 4, 40) := by kernel_rfl
theorem cells_own (B : Nat) (cs : Array Value) (t : TypeId) : Own (fun (_ : Unit) W => W.heap[B]? = some (.cells cs t (0, 0))) := fun _ _ _ _ hs hg hrow =>
  (hg.block B (Array.getElem?_eq_some_iff.1 hs).1 (fun e' => by obtain ⟨o, ho, hc⟩ := hrow B e'.symm; rw [hs] at ho; cases ho; cases hc)).trans hs
theorem ownsRow_someP {w : World} {B : Nat} {t : TypeId} {s n : Nat} {v : Value} {xs : List Value} (h : w.ownsRow B t s v n xs) (hv : v ≠ .slice none 0 0) : ∃ g cap, v = .slice (some ⟨g, 0, none⟩) n cap := by
  rcases h.2 with ⟨e, _⟩ | ⟨g, cap, cur, e, _⟩
  · exact absurd e hv
  · exact ⟨g, cap, e⟩
/-- A row of cells in a block. -/
def BlkAt (W : World) (b : Nat) (cs : Array Value) (t : TypeId) : Prop := W.heap[b]? = some (.cells cs t (0, 0))
theorem BlkAt.new (W : World) (cs : Array Value) (t : TypeId) : BlkAt (W.alloc (.cells cs t)) W.heap.size cs t := World.alloc_heap_new W _
theorem BlkAt.lt {W : World} {b : Nat} {cs : Array Value} {t : TypeId} (h : BlkAt W b cs t) : b < W.heap.size := (Array.getElem?_eq_some_iff.1 h).1
theorem BlkAt.kept {W W' : World} {row : Option Nat} {b : Nat} {cs : Array Value} {t : TypeId} (h : BlkAt W b cs t) (hg : W.grownBy W' row) (hne : some b ≠ row) : BlkAt W' b cs t := (hg.block b h.lt hne).trans h
theorem BlkAt.alloc {W : World} {b : Nat} {cs : Array Value} {t : TypeId} (h : BlkAt W b cs t) (o : Obj) : BlkAt (W.alloc o) b cs t := h.kept (World.grownBy_alloc W o none) (by simp)
theorem BlkAt.cell {W : World} {b : Nat} {cs : Array Value} {t : TypeId} (h : BlkAt W b cs t) {i : Nat} {v : Value} (hv : cs[i]? = some v) : W.cell? ⟨b, i, none⟩ = some v := by
  unfold BlkAt at h
  simp [World.cell?, h, hv]
theorem BlkAt.frozen {W : World} {b : Nat} {cs : Array Value} {t : TypeId} (h : BlkAt W b cs t) (i : Nat) : W.frozen? ⟨b, i, none⟩ = false := by
  unfold BlkAt at h
  unfold World.frozen?; simp only [h]; rfl
theorem BlkAt.own (B : Nat) (cs : Array Value) (t : TypeId) : Own (fun (_ : Unit) W => BlkAt W B cs t) := cells_own B cs t
theorem BlkAt.below {W W' : World} {b : Nat} {cs : Array Value} {t : TypeId} (h : BlkAt W b cs t) (hb : Below W.heap.size W W') : BlkAt W' b cs t := (hb.block b h.lt).trans h

set_option maxRecDepth 100000 in
set_option maxHeartbeats 2000000 in
theorem macs_walk (k m : Nat) (sv : Value) (w : World) (Ls : List { _e : Mc // True }) (hlen : Ls.length ≤ 200)
    (hk : w.cell? ⟨k, 0, none⟩ = some (.pointer (some ⟨m, 0, none⟩))) (hm : w.cell? ⟨m, 1, none⟩ = some sv) (hrow : PlaceRow w.heap.size w sv (Ls.map (·.1))) :
    Calls Tryz.prog 64 #[.pointer (some ⟨k, 0, none⟩)] w fun e w' => ∃ g cap, e = .returned (.slice (some ⟨g, 0, none⟩) Ls.length cap) ∧ w'.ownsRow w.heap.size 68 4 (.slice (some ⟨g, 0, none⟩) Ls.length cap) Ls.length (rowP (Ls.map (·.1))) ∧ Below w.heap.size w w' := by
  have hklt := block_lt_of_cell hk
  have hmlt := block_lt_of_cell hm
  obtain ⟨i0, hi, hz0, hz1, hz2⟩ := info_parts infoMac
  have hrow0 := hrow
  obtain ⟨ra, rcap, rfl, _⟩ := hrow0
  rw [List.length_map] at hm
  refine (callsIn_wide (n := 5)).1 ?_
  have hro : Fence.wide.round = none := rfl
  refine callsIn_of_wp_marks Tryz.func64 rfl trivial ?_ hro
  simp only [Tryz.ntmps64, List.size_toArray, List.length_cons, List.length_nil, Nat.reduceAdd, Nat.reduceSub, Array.replicate_succ, Array.replicate_zero, List.push_toArray, List.append_toArray, List.nil_append, List.cons_append]
  gi_wp2_with (first | (refine ⟨trivial, ?_⟩; gi_at_call 119; refine (callsIn_wide.2 (lenP_any m ra Ls.length rcap _ hm)).mono ?_; rintro e w' ⟨rfl, hww⟩; rw [hww]; clear hww) | (gi_at_make; refine wpListIn_make_own _ rfl _ _ 62 rfl w.heap.size 68 i0 _ 4 Tryz.underlying62 hi hz0 hz1 .i64 .i64 _ Ls.length rfl rfl rfl ?_ ?_ ?_ ?_; (rw [hz2]; omega); (unfold maxLen; omega); (exact Nat.le_refl _); intro w0 hown0 hgrow0; have hb0 : Below w.heap.size w w0 := (Below.refl _ w).grown hgrow0 (Nat.le_refl _) (fun x hx => by cases hx); have k1 : w0.cell? ⟨k, 0, none⟩ = some (.pointer (some ⟨m, 0, none⟩)) := (hb0.cell (p := ⟨k, 0, none⟩) hklt).trans hk; have hkl0 : k < w0.heap.size := Nat.lt_of_lt_of_le hklt hb0.size) | (refine ⟨trivial, ?_⟩; gi_at_call 120; refine (allP_in Fence.wide 4 trivial hro m _).mono ?_; rintro e w' ⟨rfl, rfl⟩))
  have hs0 := hb0.size
  have bO := (Boxed.new w0 62 (.slice (some ⟨w.heap.size, 0, none⟩) 0 Ls.length)).alloc (.cells #[.pointer (some ⟨m, 0, none⟩)] 212)
  have bN := Boxed.new (w0.alloc (.cells #[.slice (some ⟨w.heap.size, 0, none⟩) 0 Ls.length] 62)) 212 (.pointer (some ⟨m, 0, none⟩))
  simp only [World.size_alloc] at bO bN
  have hB0 : Below w.heap.size w ((w0.alloc (.cells #[.slice (some ⟨w.heap.size, 0, none⟩) 0 Ls.length] 62)).alloc (.cells #[.pointer (some ⟨m, 0, none⟩)] 212)) := (hb0.alloc hs0 _).alloc (by simp; omega) _
  have hsz0 : ((w0.alloc (.cells #[.slice (some ⟨w.heap.size, 0, none⟩) 0 Ls.length] 62)).alloc (.cells #[.pointer (some ⟨m, 0, none⟩)] 212)).heap.size = w0.heap.size + 2 := by simp
  have hcm := (hB0.cell (p := ⟨m, 1, none⟩) hmlt).trans hm
  have hO0 := (hown0.alloc (.cells #[.slice (some ⟨w.heap.size, 0, none⟩) 0 Ls.length] 62)).alloc (.cells #[.pointer (some ⟨m, 0, none⟩)] 212)
  rw [List.length_map] at hrow
  refine wpIn_rangeFunc_ownH hro (by omega) (gf := 181) (lb := #[.pointer (some ⟨w0.heap.size + 1, 0, none⟩)]) rfl trivial (enters_of Tryz.func181 (by kernel_rfl) rfl)
    (allP_stops Fence.wide 4 trivial hro (by omega) (w0.heap.size + 1) m w.heap.size (.slice ra Ls.length rcap) Ls hlen _ (by omega) hmlt (by omega) bN.cell hcm (hrow.below hB0)) belowK_t (belowK_b (by omega)) (Below.refl _ _) (fun _ => rfl)
    (fun pre W => (∃ v, Boxed W w0.heap.size 62 v ∧ W.ownsRow w.heap.size 68 4 v pre.length (rowP (pre.map (·.1))) ∧ v ≠ .slice none 0 0) ∧ Below w.heap.size w W)
    (fun _ _ _ => False)
    (OwnFrom.and (Own.from (holdsRow_own w.heap.size w0.heap.size 62 68 4 (fun (pre : List { _e : Mc // True }) => pre.length) (fun pre => rowP (pre.map (·.1))) (fun _ v => v ≠ .slice none 0 0)) _) (ownFrom_below (Nat.le_refl _) (by omega)))
    (fun _ _ _ _ _ hs _ _ => hs)
    ⟨⟨_, bO, hO0, by simp⟩, hB0⟩
    (fun x a' W => ∃ Bx By, w0.heap.size < Bx ∧ w0.heap.size < By ∧ BlkAt W Bx #[.int .i64 x.1.vlan, .string x.1.mac] 236 ∧ BlkAt W By #[.int .i64 x.1.port, .int .i64 x.1.age] 238 ∧ a' = { tmps := #[.pointer (some ⟨k, 0, none⟩), undef, .slice none 0 0, .pointer (some ⟨w0.heap.size, 0, none⟩), .pointer (some ⟨Bx, 0, none⟩), .pointer (some ⟨By, 0, none⟩), .pointer (some ⟨k, 0, none⟩), .pointer (some ⟨k, 0, none⟩), .pointer (some ⟨k, 0, none⟩), .pointer (some ⟨m, 0, none⟩), .int .i64 Ls.length, .slice (some ⟨w.heap.size, 0, none⟩) 0 Ls.length, .pointer (some ⟨k, 0, none⟩), .pointer (some ⟨k, 0, none⟩), .pointer (some ⟨k, 0, none⟩), .pointer (some ⟨m, 0, none⟩), .func (.func 181) #[] #[.pointer (some ⟨w0.heap.size + 1, 0, none⟩)], .agg #[.int .i64 x.1.vlan, .string x.1.mac], .agg #[.int .i64 x.1.port, .int .i64 x.1.age], undef, undef, undef, undef, undef, undef, undef, undef, undef, undef, undef, undef, undef], defers := [] })
    (fun x a' _ X Y row hs hg hr => by obtain ⟨Bx, By, h1, h2, h3, h4, h5⟩ := hs; exact ⟨Bx, By, h1, h2, BlkAt.own Bx _ _ () X Y row h3 hg (fun r e => (hr r e).2), BlkAt.own By _ _ () X Y row h4 hg (fun r e => (hr r e).2), h5⟩)
    ?assign ?body ?done ?stop
  case assign =>
    rintro l pre x W K ⟨⟨v, bS1, hR1, hv1⟩, hB1⟩ hK
    simp only [encP]
    gi_wp2
    have hsW := hB1.size
    have hlt := bS1.lt
    have bY : BlkAt ((W.alloc (.cells #[.int .i64 x.1.vlan, .string x.1.mac] 236)).alloc (.cells #[.int .i64 x.1.port, .int .i64 x.1.age] 238)) (W.heap.size + 1) #[.int .i64 x.1.port, .int .i64 x.1.age] 238 := by
      have := BlkAt.new (W.alloc (.cells #[.int .i64 x.1.vlan, .string x.1.mac] 236)) #[.int .i64 x.1.port, .int .i64 x.1.age] 238
      rwa [World.size_alloc] at this
    exact hK _ _ (((KeepsOthers.alloc _ _).trans (KeepsOthers.alloc _ _)).from _) (((Below.refl _ W).alloc hsW _).alloc (by simp; omega) _) ⟨⟨v, (bS1.alloc _).alloc _, (hR1.alloc _).alloc _, hv1⟩, (hB1.alloc hsW _).alloc (by simp; omega) _⟩ ⟨W.heap.size, W.heap.size + 1, by omega, by omega, (BlkAt.new W _ _).alloc _, bY, rfl⟩
  case body =>
    rintro l pre x a' W hl ⟨r, hr⟩ ⟨⟨v, hv, hrow', hnn⟩, hB⟩ ⟨Bx, By, hBx, hBy, bX, bY, rfl⟩ hlt
    have hc0 := hv.cell
    have x0 : W.cell? ⟨Bx, 0, none⟩ = some (.int .i64 x.1.vlan) := bX.cell rfl
    have x1 : W.cell? ⟨Bx, 1, none⟩ = some (.string x.1.mac) := bX.cell rfl
    have y0 : W.cell? ⟨By, 0, none⟩ = some (.int .i64 x.1.port) := bY.cell rfl
    have y1 : W.cell? ⟨By, 1, none⟩ = some (.int .i64 x.1.age) := bY.cell rfl
    have HV := hide hv
    have HR := hide hrow'
    have HB := hide hB
    have hsW := hB.size
    clear hv hrow' hB bX bY hr
    gi_wp2_with (gi_at_builtin; refine wpListIn_append_own _ rfl _ _ 62 rfl w.heap.size 68 i0 _ 4 40 Tryz.underlying62 hi hz0 hz1 hz2 rfl (by decide) _ _ _ rfl (HR.out.alloc _) ⟨W.heap.size, 0, none⟩ 1 1 (rowP [x.1]) rfl rfl (World.news_of_block (cs := #[.int .i64 x.1.vlan, .string x.1.mac, .int .i64 x.1.port, .int .i64 x.1.age]) (t := 68) (fr := (0, 0)) (World.alloc_heap_new W _)) (rowP_one _) (by unfold maxLen; omega) (by omega) (by simp; omega) ?_; intro v' w2 hown' hgrow _; obtain ⟨g', cap', rfl⟩ := ownsRow_succ hown'; obtain ⟨hv2, hv3, hr3, hk3, hb3⟩ := HV.out.appended (by decide) HR.out HB.out.size hs0 hown' hgrow; have hc2 := hv2.cell; have hf2 := hv2.frozen)
    exact ⟨hk3.from _, hb3, ⟨⟨_, hv3, by rw [List.map_append, rowP_append, List.length_append]; exact hr3, by simp⟩, HB.out.trans hb3⟩⟩
  case done =>
    rintro D ys W hD rfl ⟨⟨v, hv, hrow', hnn⟩, hB⟩ hK
    obtain ⟨g, cp, rfl⟩ := ownsRow_someP hrow' hnn
    have hcv := hv.cell
    have HR := hide hrow'
    have HB := hide hB
    have HK := hide hK
    have HD := hide hD
    clear hv hrow' hnn hB hK hD bO bN hB0 hsz0 hcm hO0
    gi_wp2
    have HK2 := HK.out
    refine ⟨by simp, .inl ⟨_, _, rfl, run_takeDeferred HK2, ?_⟩⟩
    have hg := grownBy_putObj' W D (.deferred none)
    have hD2 : w.heap.size ≤ D := by have := HD.out; simp at this; omega
    refine ⟨_, results_tmp rfl _ _ _, g, cp, rfl, HR.out.kept hg (.inr ?_), HB.out.grown hg HB.out.size (fun x hx => by cases hx; exact hD2)⟩
    intro e
    rcases HR.out.2 with ⟨e2, _⟩ | ⟨g2, cap2, cur, e2, _, hg2, _⟩
    · cases e2
    · cases e2
      cases e
      rw [hg2] at HK2
      cases HK2
  case stop =>
    rintro D c pre W _ _ h _
    exact h.elim

theorem mAll_any (k m : Nat) (sv : Value) (K : List Mc) (w : World) (h : KnownAt w k m sv K) :
    Calls Tryz.prog 64 #[.pointer (some ⟨k, 0, none⟩)] w fun e w' => ∃ g cap, e = .returned (.slice (some ⟨g, 0, none⟩) K.length cap) ∧ w'.ownsRow w.heap.size 68 4 (.slice (some ⟨g, 0, none⟩) K.length cap) K.length (rowP K) ∧ Below w.heap.size w w' := by
  have eL : (K.map fun e => (⟨e, trivial⟩ : { _e : Mc // True })).map (·.1) = K := by
    clear h
    induction K with
    | nil => rfl
    | cons e t ih => exact congrArg (e :: ·) ih
  have hC := macs_walk k m sv w (K.map fun e => ⟨e, trivial⟩) (by rw [List.length_map]; exact h.2.2.1.1.2.2.2.2) h.1 h.2.2.1.1.2.1 (by rw [eL]; exact h.2.2.1.row (Nat.le_refl _))
  rw [eL, List.length_map] at hC
  exact hC
end Go.Proofs.YtnjalelblbjfiaaGreatDoor

namespace Go.Proofs.YtnjalelblbjfiaaGreatDoor
open Go.RowKit Go.Shelf

attribute [local go_sem] Oper.semAt_some

theorem MapQ.keep {w w' : World} {m : Nat} {sv : Value} {K : List Mc} (h : MapQ w m sv K) (hk : ∀ b, b < w.heap.size → (b = m ∨ sv.ownBlock = some b) → w'.heap[b]? = w.heap[b]?) : MapQ w' m sv K := by
  obtain ⟨⟨c0, c1, c2, c3, c4⟩, h4⟩ := h
  have bm := hk m (block_lt_of_cell c0) (.inl rfl)
  exact ⟨⟨(World.cell?_of_block (a := ⟨m, 0, none⟩) bm).trans c0, (World.cell?_of_block (a := ⟨m, 1, none⟩) bm).trans c1, ownsRow_blk c2 fun b hb => hk b (ownsRow_lt c2 hb).2 (.inr hb), fun j => (World.frozen?_of_block (a := ⟨m, j, none⟩) bm).trans (c3 j), c4⟩, h4⟩
theorem cell_isCells {w : World} {b i : Nat} {v : Value} {o : Obj} (h : w.cell? ⟨b, i, none⟩ = some v) (ho : w.heap[b]? = some o) : o.isCells = true := by
  cases hc : o.isCells
  · rw [noCell ho hc] at h; cases h
  · rfl
theorem MapQ.cells {w : World} {m : Nat} {sv : Value} {K : List Mc} (h : MapQ w m sv K) {b : Nat} (hb : b = m ∨ sv.ownBlock = some b) {o : Obj} (ho : w.heap[b]? = some o) : o.isCells = true := by
  rcases hb with rfl | hb
  · exact cell_isCells h.1.1 ho
  · obtain ⟨v, hv⟩ := (h.head hb).1
    exact cell_isCells hv ho

/-- A MAC that is known: not too old. -/
def Young (e : Mc) : Prop := 0 ≤ e.age ∧ e.age ≤ 300
/-- What the new map holds while the old one is gone through. -/
def TickI (B m : Nat) (sec : Int) (pre : List { e : Mc // Young e }) (W : World) : Prop :=
  ∃ sv K, (MapQ W m sv K ∧ (∀ b, sv.ownBlock = some b → B ≤ b)) ∧ SortedP K ∧ K.length ≤ pre.length ∧ (SortedP (pre.map (·.1)) → K = tickL sec (pre.map (·.1)))
theorem tickI_own (B m : Nat) (sec : Int) : Own (TickI B m sec) := fun pre W W' row hs hg hr => by
  obtain ⟨sv, K, ⟨h1, h2⟩, h3⟩ := hs
  refine ⟨sv, K, ⟨h1.keep fun b hb hx => hg.block b hb fun e => ?_, h2⟩, h3⟩
  obtain ⟨o, ho, hc⟩ := hr b e.symm
  rw [h1.cells hx ho] at hc
  cases hc

theorem tickI_put {B m : Nat} {sec : Int} {pre : List { e : Mc // Young e }} {x : { e : Mc // Young e }} {W W' : World} {sv : Value} {K : List Mc} (h2 : ∀ b, sv.ownBlock = some b → B ≤ b) (h3 : SortedP K) (h4 : K.length ≤ pre.length) (h5 : SortedP (pre.map (·.1)) → K = tickL sec (pre.map (·.1)))
    (hle : x.1.age + sec ≤ 300) (hB : B ≤ W.heap.size) (hq : PutQ m sv K { x.1 with age := x.1.age + sec } W W') : TickI B m sec (pre ++ [x]) W' := by
  have hq0 := hq
  obtain ⟨sv', K', q1, q2, q3, q4, q5, q6⟩ := hq
  refine ⟨sv', K', ⟨q1, fun b hb => ?_⟩, q2, ?_, fun hs => ?_⟩
  · rcases q5 b hb with e | e
    · exact h2 b e
    · omega
  · rw [q4, List.length_append, List.length_singleton]
    split <;> omega
  · rw [List.map_append, List.map_singleton] at hs ⊢
    have hp : SortedP (pre.map (·.1)) := (List.pairwise_append.1 hs).1
    have hK := h5 hp
    have hl : ∀ q ∈ K, cmpM q { x.1 with age := x.1.age + sec }.vlan { x.1 with age := x.1.age + sec }.mac < 0 := fun q hq' => by
      rw [hK] at hq'
      exact tickL_ahead hs q hq'
    have hs' : SortedP (K ++ [{ x.1 with age := x.1.age + sec }]) := List.pairwise_append.2 ⟨h3, List.pairwise_singleton _ _, fun a ha b hb => by rw [List.mem_singleton.1 hb]; exact hl a ha⟩
    rw [tickL_snoc, if_pos hle, ← hK]
    refine sortedP_ext q2 hs' fun q => ?_
    rw [q3, List.mem_append, List.mem_singleton]
    constructor
    · rintro (e | e)
      · exact .inr e
      · exact .inl e.1
    · rintro (e | e)
      · exact .inr ⟨e, by have := hl q e; omega⟩
      · exact .inl e
theorem tickI_drop {B m : Nat} {sec : Int} {pre : List { e : Mc // Young e }} {x : { e : Mc // Young e }} {W : World} (h : TickI B m sec pre W) (hgt : ¬ x.1.age + sec ≤ 300) : TickI B m sec (pre ++ [x]) W := by
  obtain ⟨sv, K, h1, h2, h3, h4⟩ := h
  refine ⟨sv, K, h1, h2, by rw [List.length_append]; omega, fun hs => ?_⟩
  rw [List.map_append, List.map_singleton] at hs ⊢
  rw [tickL_snoc, if_neg hgt, List.append_nil]
  exact h4 (List.pairwise_append.1 hs).1

theorem MapQ.not_seen {w : World} {m : Nat} {sv : Value} {K : List Mc} (h : MapQ w m sv K) {b : Nat} {x y : Int} {t : TypeId} (hb : BlkAt w b #[.int .i64 x, .int .i64 y] t) : ¬ (b = m ∨ sv.ownBlock = some b) := by
  rintro (rfl | e)
  · have h0 : w.cell? ⟨b, 0, none⟩ = some (.int .i64 x) := hb.cell rfl
    rw [h.1.1] at h0
    cases h0
  · obtain ⟨v, hv⟩ := h.head1 e
    have h0 : w.cell? ⟨b, 1, none⟩ = some (.int .i64 y) := hb.cell rfl
    rw [hv] at h0
    cases h0
theorem tickI_set {B m : Nat} {sec : Int} {pre : List { e : Mc // Young e }} {W : World} {b i : Nat} {x y : Int} {t : TypeId} (h : TickI B m sec pre W) (hb : BlkAt W b #[.int .i64 x, .int .i64 y] t) (v : Value) : TickI B m sec pre (W.setCell ⟨b, i, none⟩ v) := by
  obtain ⟨sv, K, ⟨h1, h2⟩, h3⟩ := h
  exact ⟨sv, K, ⟨h1.keep fun c _ hx => heap_setCell_other _ _ _ _ (fun (e : c = b) => h1.not_seen hb (e ▸ hx)), h2⟩, h3⟩
theorem keepsOthers_chg {X : Nat → Prop} {W W' : World} (h : Chg X W W') (hX : ∀ b o, X b → W.heap[b]? = some o → o.isCells = true) : KeepsOthers W W' :=
  ⟨h.size, fun k o hk hc => (h.block k (lt_of_heap hk) fun hx => by rw [hX k o hx hk] at hc; cases hc).trans hk⟩

set_option maxRecDepth 100000 in
set_option maxHeartbeats 2000000 in
theorem tick_walk (k m : Nat) (sv : Value) (sec : Int) (w : World) (Ls : List { e : Mc // Young e }) (hlen : Ls.length ≤ 199) (hsec : 0 ≤ sec ∧ sec ≤ 1000000)
    (hk : w.cell? ⟨k, 0, none⟩ = some (.pointer (some ⟨m, 0, none⟩))) (hkf : ∀ j, w.frozen? ⟨k, j, none⟩ = false) (hm : w.cell? ⟨m, 1, none⟩ = some sv) (hrow : PlaceRow w.heap.size w sv (Ls.map (·.1))) (hso : SortedP (Ls.map (·.1))) :
    Calls Tryz.prog 150 #[.pointer (some ⟨k, 0, none⟩), .int .i64 sec] w fun e w' => e = .returned (.tuple #[]) ∧ ∃ m' sv', KnownAt w' k m' sv' (tickL sec (Ls.map (·.1))) ∧ w.heap.size ≤ m' ∧ (∀ b, sv'.ownBlock = some b → w.heap.size ≤ b) ∧ Chg (fun b => b = k) w w' ∧ w'.cell? ⟨k, 1, none⟩ = w.cell? ⟨k, 1, none⟩ := by
  have hklt := block_lt_of_cell hk
  have hmlt := block_lt_of_cell hm
  have hrow0 := hrow
  obtain ⟨ra, rcap, rfl, _⟩ := hrow0
  rw [List.length_map] at hm
  refine (callsIn_wide (n := 5)).1 ?_
  have hro : Fence.wide.round = none := rfl
  refine callsIn_of_wp_marks Tryz.func150 rfl trivial ?_ hro
  simp only [Tryz.ntmps150, List.size_toArray, List.length_cons, List.length_nil, Nat.reduceAdd, Nat.reduceSub, Array.replicate_succ, Array.replicate_zero, List.push_toArray, List.append_toArray, List.nil_append, List.cons_append]
  have hB3 : Below w.heap.size w (((w.alloc (.cells #[.int .i64 sec] 3)).alloc (.cells #[.func (.func 167) #[] #[], .slice none 0 0] 305)).alloc (.cells #[.pointer (some ⟨w.heap.size + 1, 0, none⟩)] 212)) := (by repeat (first | exact Below.refl _ _ | assumption | refine Below.drewN ?_ | refine Below.drew ?_ | refine Below.setCell ?_ (by first | exact Nat.le_refl _ | omega | (simp; done) | (simp; omega)) _ | refine Below.alloc ?_ (by first | exact Nat.le_refl _ | omega | (simp; done) | (simp; omega)) _))
  have hk3 := (hB3.cell (p := ⟨k, 0, none⟩) hklt).trans hk
  gi_wp2_with (first | (refine ⟨trivial, ?_⟩; gi_at_call 102; refine (callsIn_wide.2 (noPlaces_any _)).mono ?_; rintro e w' ⟨rfl, rfl⟩) | (refine ⟨trivial, ?_⟩; gi_at_call 120; refine (allP_in Fence.wide 4 trivial hro m _).mono ?_; rintro e w' ⟨rfl, rfl⟩))
  have bS := ((((Boxed.new w 3 (.int .i64 sec)).alloc (.cells #[.func (.func 167) #[] #[], .slice none 0 0] 305)).alloc (.cells #[.pointer (some ⟨w.heap.size + 1, 0, none⟩)] 212)).alloc (.cells #[.pointer (some ⟨m, 0, none⟩)] 212))
  have bK := (Boxed.new ((w.alloc (.cells #[.int .i64 sec] 3)).alloc (.cells #[.func (.func 167) #[] #[], .slice none 0 0] 305)) 212 (.pointer (some ⟨w.heap.size + 1, 0, none⟩))).alloc (.cells #[.pointer (some ⟨m, 0, none⟩)] 212)
  have bM := (BlkAt.new (w.alloc (.cells #[.int .i64 sec] 3)) #[.func (.func 167) #[] #[], .slice none 0 0] 305).alloc (.cells #[.pointer (some ⟨w.heap.size + 1, 0, none⟩)] 212) |>.alloc (.cells #[.pointer (some ⟨m, 0, none⟩)] 212)
  have bN := Boxed.new (((w.alloc (.cells #[.int .i64 sec] 3)).alloc (.cells #[.func (.func 167) #[] #[], .slice none 0 0] 305)).alloc (.cells #[.pointer (some ⟨w.heap.size + 1, 0, none⟩)] 212)) 212 (.pointer (some ⟨m, 0, none⟩))
  simp only [World.size_alloc] at bS bK bM bN
  have hB0 : Below w.heap.size w ((((w.alloc (.cells #[.int .i64 sec] 3)).alloc (.cells #[.func (.func 167) #[] #[], .slice none 0 0] 305)).alloc (.cells #[.pointer (some ⟨w.heap.size + 1, 0, none⟩)] 212)).alloc (.cells #[.pointer (some ⟨m, 0, none⟩)] 212)) := (by repeat (first | exact Below.refl _ _ | assumption | refine Below.drewN ?_ | refine Below.drew ?_ | refine Below.setCell ?_ (by first | exact Nat.le_refl _ | omega | (simp; done) | (simp; omega)) _ | refine Below.alloc ?_ (by first | exact Nat.le_refl _ | omega | (simp; done) | (simp; omega)) _))
  have hsz0 : ((((w.alloc (.cells #[.int .i64 sec] 3)).alloc (.cells #[.func (.func 167) #[] #[], .slice none 0 0] 305)).alloc (.cells #[.pointer (some ⟨w.heap.size + 1, 0, none⟩)] 212)).alloc (.cells #[.pointer (some ⟨m, 0, none⟩)] 212)).heap.size = w.heap.size + 4 := by simp
  have hcm := (hB0.cell (p := ⟨m, 1, none⟩) hmlt).trans hm
  generalize hW0 : ((((w.alloc (.cells #[.int .i64 sec] 3)).alloc (.cells #[.func (.func 167) #[] #[], .slice none 0 0] 305)).alloc (.cells #[.pointer (some ⟨w.heap.size + 1, 0, none⟩)] 212)).alloc (.cells #[.pointer (some ⟨m, 0, none⟩)] 212)) = W0 at *
  have hI0 : TickI w.heap.size (w.heap.size + 1) sec [] W0 := by
    refine ⟨.slice none 0 0, [], ⟨⟨⟨bM.cell rfl, bM.cell rfl, World.ownsRow_nil _ _ _ _, fun j => bM.frozen j, by simp⟩, fun _ => rfl⟩, fun b hb => by cases hb⟩, List.Pairwise.nil, Nat.le_refl _, fun _ => rfl⟩
  rw [List.length_map] at hrow
  refine wpIn_rangeFunc_ownH hro (by omega) (gf := 181) (lb := #[.pointer (some ⟨w.heap.size + 1 + 1 + 1, 0, none⟩)]) rfl trivial (enters_of Tryz.func181 (by kernel_rfl) rfl)
    (allP_stops Fence.wide 4 trivial hro (by omega) (w.heap.size + 1 + 1 + 1) m w.heap.size (.slice ra Ls.length rcap) Ls (by omega) _ (by omega) hmlt (by omega) bN.cell hcm (hrow.below hB0)) belowK_t (belowK_b (by omega)) (Below.refl _ _) (fun _ => rfl)
    (fun pre W => (Boxed W w.heap.size 3 (.int .i64 sec) ∧ Boxed W (w.heap.size + 1 + 1) 212 (.pointer (some ⟨w.heap.size + 1, 0, none⟩))) ∧ TickI w.heap.size (w.heap.size + 1) sec pre W ∧ Below w.heap.size w W)
    (fun _ _ _ => False)
    (OwnFrom.and (OwnFrom.and (Own.from (boxed_own _ _ _) _) (Own.from (boxed_own _ _ _) _)) (OwnFrom.and (Own.from (tickI_own _ _ _) _) (ownFrom_below (Nat.le_refl _) (by omega))))
    (fun _ _ _ _ _ hs _ _ => hs)
    ⟨⟨bS, bK⟩, hI0, hB0⟩
    (fun x a' W => ∃ Bx By, w.heap.size + 2 < Bx ∧ w.heap.size + 2 < By ∧ Bx ≠ By ∧ BlkAt W Bx #[.int .i64 x.1.vlan, .string x.1.mac] 236 ∧ BlkAt W By #[.int .i64 x.1.port, .int .i64 x.1.age] 238 ∧ a' = { tmps := #[.pointer (some ⟨k, 0, none⟩), .int .i64 sec, undef, .pointer (some ⟨w.heap.size, 0, none⟩), .pointer (some ⟨w.heap.size + 1 + 1, 0, none⟩), .pointer (some ⟨Bx, 0, none⟩), .pointer (some ⟨By, 0, none⟩), .pointer (some ⟨w.heap.size + 1, 0, none⟩), .pointer (some ⟨k, 0, none⟩), .pointer (some ⟨k, 0, none⟩), .pointer (some ⟨k, 0, none⟩), .pointer (some ⟨m, 0, none⟩), .func (.func 181) #[] #[.pointer (some ⟨w.heap.size + 1 + 1 + 1, 0, none⟩)], .agg #[.int .i64 x.1.vlan, .string x.1.mac], .agg #[.int .i64 x.1.port, .int .i64 x.1.age], undef, undef, undef, undef, undef, undef, undef, undef, undef, undef, undef, undef, undef, undef, undef, undef], defers := [] })
    (fun x a' _ X Y row hs hg hr => by obtain ⟨Bx, By, h1, h2, h0, h3, h4, h5⟩ := hs; exact ⟨Bx, By, h1, h2, h0, BlkAt.own Bx _ _ () X Y row h3 hg (fun r e => (hr r e).2), BlkAt.own By _ _ () X Y row h4 hg (fun r e => (hr r e).2), h5⟩)
    ?assign ?body ?done ?stop
  case assign =>
    rintro l pre x W K ⟨⟨b1, b2⟩, hT, hB1⟩ hK
    simp only [encP]
    gi_wp2
    have hsW := hB1.size
    have hlt := b2.lt
    have bY : BlkAt ((W.alloc (.cells #[.int .i64 x.1.vlan, .string x.1.mac] 236)).alloc (.cells #[.int .i64 x.1.port, .int .i64 x.1.age] 238)) (W.heap.size + 1) #[.int .i64 x.1.port, .int .i64 x.1.age] 238 := by
      have := BlkAt.new (W.alloc (.cells #[.int .i64 x.1.vlan, .string x.1.mac] 236)) #[.int .i64 x.1.port, .int .i64 x.1.age] 238
      rwa [World.size_alloc] at this
    exact hK _ _ (((KeepsOthers.alloc _ _).trans (KeepsOthers.alloc _ _)).from _) (((Below.refl _ W).alloc hsW _).alloc (by simp; omega) _) ⟨⟨(b1.alloc _).alloc _, (b2.alloc _).alloc _⟩, (tickI_own _ _ _).alloc _ ((tickI_own _ _ _).alloc _ hT), (hB1.alloc hsW _).alloc (by simp; omega) _⟩ ⟨W.heap.size, W.heap.size + 1, by omega, by omega, by omega, (BlkAt.new W _ _).alloc _, bY, rfl⟩
  case body =>
    rintro l pre x a' W hl ⟨r, hr⟩ ⟨⟨b1, b2⟩, hT, hB⟩ ⟨Bx, By, hBx, hBy, hne, bX, bY, rfl⟩ hlt
    have c1 := b1.cell
    have c2 := b2.cell
    have x0 : W.cell? ⟨Bx, 0, none⟩ = some (.int .i64 x.1.vlan) := bX.cell rfl
    have x1 : W.cell? ⟨Bx, 1, none⟩ = some (.string x.1.mac) := bX.cell rfl
    have y0 : W.cell? ⟨By, 0, none⟩ = some (.int .i64 x.1.port) := bY.cell rfl
    have y1 : W.cell? ⟨By, 1, none⟩ = some (.int .i64 x.1.age) := bY.cell rfl
    have yf := bY.frozen 1
    have ya := x.2.1
    have yb := x.2.2
    have hs1 := hsec.1
    have hs2 := hsec.2
    have hsW := hB.size
    obtain ⟨W1, hW1⟩ : ∃ W1, W1 = W.setCell ⟨By, 1, none⟩ (.int .i64 (x.1.age + sec)) := ⟨_, rfl⟩
    have bY1 : BlkAt W1 By #[.int .i64 x.1.port, .int .i64 (x.1.age + sec)] 238 := by rw [hW1]; exact (heap_setCell_same _ _ 1 _ _ _ bY).trans (by simp)
    have oth : ∀ b, b ≠ By → W1.heap[b]? = W.heap[b]? := fun b hb => by rw [hW1]; exact heap_setCell_other _ _ _ _ hb
    have bX1 : BlkAt W1 Bx #[.int .i64 x.1.vlan, .string x.1.mac] 236 := (oth Bx hne).trans bX
    have b11 : Boxed W1 w.heap.size 3 (.int .i64 sec) := (oth _ (by omega)).trans b1
    have b21 : Boxed W1 (w.heap.size + 1 + 1) 212 (.pointer (some ⟨w.heap.size + 1, 0, none⟩)) := (oth _ (by omega)).trans b2
    have hT1 : TickI w.heap.size (w.heap.size + 1) sec pre W1 := by rw [hW1]; exact tickI_set hT bY _
    have hB1 : Below w.heap.size w W1 := by rw [hW1]; exact hB.setCell (by simp; omega) _
    have hK1 : KeepsOthers W W1 := by rw [hW1]; exact KeepsOthers.setCell _ _ _
    have hBB : Below w.heap.size W W1 := by rw [hW1]; exact (Below.refl _ W).setCell (by simp; omega) _
    have e0 : W1.cell? ⟨Bx, 0, none⟩ = some (.int .i64 x.1.vlan) := bX1.cell rfl
    have e1 : W1.cell? ⟨Bx, 1, none⟩ = some (.string x.1.mac) := bX1.cell rfl
    have d0 : W1.cell? ⟨By, 0, none⟩ = some (.int .i64 x.1.port) := bY1.cell rfl
    have d1 : W1.cell? ⟨By, 1, none⟩ = some (.int .i64 (x.1.age + sec)) := bY1.cell rfl
    have k2 := b21.cell
    have HW1 := hide hW1
    have HT1 := hide hT1
    have HB1 := hide hB1
    have HK1 := hide hK1
    have HBB := hide hBB
    have HO := hide (And.intro b11 b21)
    clear hW1 hT1 hB1 hK1 hBB b11 b21 bX1 bY1 oth hT hB b1 b2 bX bY hr
    by_cases hle : x.1.age + sec ≤ 300
    · obtain ⟨sv', K', ⟨q1, q2⟩, q3, q4, q5⟩ := HT1.out
      have hlt' : K'.length ≤ 199 := by omega
      have HQ := hide (And.intro q1 q2)
      have CP := hide (putP_any (w.heap.size + 1) sv' K' { x.1 with age := x.1.age + sec } W1 q1 q3 hlt')
      clear q1 q2
      gi_wp2
      rw [← HW1.out]
      gi_wp2_with (refine ⟨trivial, ?_⟩; gi_at_call 199; refine (CallsIn.inRound l (callsIn_wide.2 CP.out)).mono ?_; rintro e w2 ⟨rfl, hq⟩)
      have hch : Chg (fun b => b = w.heap.size + 1 ∨ sv'.ownBlock = some b) W1 w2 := by
        obtain ⟨_, _, _, _, _, _, _, h⟩ := hq
        exact h
      have hTI := tickI_put (pre := pre) (x := x) HQ.out.2 q3 q4 q5 hle HB1.out.size hq
      have hK2 : KeepsOthers W1 w2 := keepsOthers_chg hch fun b o hx ho => HQ.out.1.cells hx ho
      have hb2 : Below w.heap.size W1 w2 := hch.below HB1.out.size (fun b hx => by rcases hx with e | e; omega; exact HQ.out.2 b e)
      have nb : ∀ b t v, Boxed W1 b t v → t ≠ 308 → b ≠ w.heap.size + 1 → Boxed w2 b t v := fun b t v hb ht hne' => (hch.block b hb.lt (by
        rintro (e | e)
        · exact hne' e
        · rcases HQ.out.1.1.2.2.1.2 with ⟨e2, _⟩ | ⟨g2, cap2, cur, e2, _, hg2, _⟩
          · rw [e2] at e; cases e
          · rw [e2] at e
            obtain rfl : g2 = b := by simpa [Value.ownBlock] using e
            have := hb.symm.trans hg2
            cases this
            exact ht rfl)).trans hb
      gi_wp2
      exact ⟨(HK1.out.trans hK2).from _, HBB.out.trans hb2, ⟨nb _ _ _ HO.out.1 (by decide) (by omega), nb _ _ _ HO.out.2 (by decide) (by omega)⟩, hTI, HB1.out.trans hb2⟩
    · gi_wp2
      rw [← HW1.out]
      gi_wp2
      exact ⟨HK1.out.from _, HBB.out, ⟨HO.out.1, HO.out.2⟩, tickI_drop HT1.out (by omega), HB1.out⟩
  case done =>
    rintro D ys W hD hys ⟨⟨b1, b2⟩, hT, hB⟩ hK
    rw [hys] at hT
    have c2 := b2.cell
    have ck : W.cell? ⟨k, 0, none⟩ = some (.pointer (some ⟨m, 0, none⟩)) := (hB.cell (p := ⟨k, 0, none⟩) hklt).trans hk
    have cf : W.frozen? ⟨k, 0, none⟩ = false := (hB.frozen (p := ⟨k, 0, none⟩) hklt).trans (hkf 0)
    have cfa : ∀ j, W.frozen? ⟨k, j, none⟩ = false := fun j => (hB.frozen (p := ⟨k, j, none⟩) hklt).trans (hkf j)
    have HT := hide hT
    have HB := hide hB
    have HK := hide hK
    have HD := hide hD
    have HF := hide cfa
    clear b1 b2 hT hB hK hD bS bK bM bN hB0 hcm hI0 cfa hB3 hk3
    gi_wp2
    have hDk : D ≠ k := by have := HD.out; have := HB.out.size; omega
    have hK4 : (W.setCell ⟨k, 0, none⟩ (.pointer (some ⟨w.heap.size + 1, 0, none⟩))).heap[D]? = some (.deferred (some [])) := (Below.heap_setCell _ _ _ _ (by simpa using hDk)).trans HK.out
    refine ⟨by simp, .inl ⟨_, _, rfl, run_takeDeferred hK4, ?_⟩⟩
    have hg := grownBy_putObj' (W.setCell ⟨k, 0, none⟩ (.pointer (some ⟨w.heap.size + 1, 0, none⟩))) D (.deferred none)
    obtain ⟨sv', K', ⟨q1, q2⟩, q3, q4, q5⟩ := HT.out
    have hblk : ∀ b, b < W.heap.size → b ≠ k → b ≠ D → ((W.setCell ⟨k, 0, none⟩ (.pointer (some ⟨w.heap.size + 1, 0, none⟩))).putObj D (.deferred none)).heap[b]? = W.heap[b]? := fun b hb h1 h2 =>
      (hg.block b (by simpa using hb) (fun e => h2 (by simpa using e))).trans (heap_setCell_other _ _ _ _ h1)
    have hkl : k < W.heap.size := block_lt_of_cell ck
    have hkb := hg.block k (by simpa using hkl) (fun e => hDk (by simpa using e.symm))
    refine ⟨_, results_none rfl _ _ _, rfl, w.heap.size + 1, sv', ⟨?_, fun j => ?_, ?_, ?_⟩, by omega, q2, ?_, ?_⟩
    · exact (World.cell?_of_block (a := ⟨k, 0, none⟩) hkb).trans (World.cell?_setCell_same _ _ _ ck)
    · rw [World.frozen?_of_block (a := ⟨k, j, none⟩) hkb, World.frozen?_setCell]; exact HF.out j
    · rw [← q5 hso]
      refine q1.keep fun b hb hx => hblk b hb ?_ ?_
      · rcases hx with e | e
        · omega
        · have := q2 b e; omega
      · rintro rfl
        have := q1.cells hx HK.out
        cases this
    · rw [← q5 hso]; exact q3
    · refine ⟨hg.os.trans HB.out.os, hg.tape.trans HB.out.tape, hg.output.trans HB.out.output, ?_, fun b hb hx => (hblk b (by have := HB.out.size; omega) hx (by have := HD.out; omega)).trans (HB.out.block b hb)⟩
      have := HB.out.size
      simpa using this
    · exact (World.cell?_of_block (a := ⟨k, 1, none⟩) hkb).trans ((set_other (.inr (by decide))).trans (World.cell?_of_block (a := ⟨k, 1, none⟩) (HB.out.block k hklt)))
  case stop =>
    rintro D c pre W _ _ h _
    exact h.elim

theorem mTick_any (k m : Nat) (sv : Value) (K : List Mc) (sec : Int) (w : World) (h : KnownAt w k m sv K) (hn : K.length ≤ 199) (hsec : 0 ≤ sec ∧ sec ≤ 1000000) (hy : ∀ e ∈ K, Young e) :
    Calls Tryz.prog 150 #[.pointer (some ⟨k, 0, none⟩), .int .i64 sec] w fun e w' => e = .returned (.tuple #[]) ∧ ∃ m' sv', KnownAt w' k m' sv' (tickL sec K) ∧ w.heap.size ≤ m' ∧ (∀ b, sv'.ownBlock = some b → w.heap.size ≤ b) ∧ Chg (fun b => b = k) w w' ∧ w'.cell? ⟨k, 1, none⟩ = w.cell? ⟨k, 1, none⟩ := by
  have eL : (K.attach.map fun e => (⟨e.1, hy e.1 e.2⟩ : { e : Mc // Young e })).map (·.1) = K := by rw [List.map_map]; exact List.attach_map_subtype_val K
  have hC := tick_walk k m sv sec w (K.attach.map fun e => ⟨e.1, hy e.1 e.2⟩) (by rw [List.length_map, List.length_attach]; exact hn) hsec h.1 h.2.1 h.2.2.1.1.2.1 (by rw [eL]; exact h.2.2.1.row (Nat.le_refl _)) (by rw [eL]; exact h.2.2.2)
  rw [eL] at hC
  exact hC
end Go.Proofs.YtnjalelblbjfiaaGreatDoor

namespace Go.Proofs.YtnjalelblbjfiaaGreatDoor
open Go.RowKit Go.Maps

/-- A slice of numbers. -/
def NumsAt (w : World) (v : Value) (T : List Int) : Prop :=
  ∃ (a : Option Addr) (cap b : Nat), v = .slice a T.length cap ∧ ∀ j (h : j < T.length), a = some ⟨b, 0, none⟩ ∧ w.cell? ⟨b, j, none⟩ = some (.int .i64 T[j])
theorem NumsAt.below {w w' : World} {v : Value} {T : List Int} (h : NumsAt w v T) (hb : Below w.heap.size w w') : NumsAt w' v T := by
  obtain ⟨a, cap, b, e, hc⟩ := h
  exact ⟨a, cap, b, e, fun j hj => ⟨(hc j hj).1, cell_later hb (hc j hj).2⟩⟩

/-- The tags of a list. -/
def tgOf (T : List Int) (v : Int) : Bool := T.contains v
/-- Whether there is such a VLAN. -/
def isV (v : Int) : Bool := hasB 1 4094 v
set_option maxRecDepth 100000 in
theorem isVLAN_any (v : Int) (w : World) : Calls Tryz.prog 121 #[.int .i64 v] w fun e w' => e = .returned (.bool (isV v)) ∧ Below w.heap.size w w' := by
  have C := hide fun (W : World) => sHas_any 1 4094 v W
  go_enter Tryz.func121, Tryz.ntmps121
  go_wp2_with fail
  refine (C.out _).mono ?_
  rintro e w1 ⟨rfl, hb⟩
  go_wp2
  go_ret
  exact ⟨rfl, hb⟩

theorem ret_po {tmps : Array Value} {W : World} {b : Nat} {x y : Value} (hb : W.heap[b]? = some (.cells #[x, y] 143 (0, 0))) (hp : tmps.getD 4 undef = .pointer (some ⟨b, 0, none⟩)) :
    (results Tryz.f66 tmps).run Tryz.prog W = .ok (.tuple #[.agg #[x, y], tmps.getD 5 undef]) W := by
  rw [results_cell_tmp (fn := Tryz.f66) (p := 4) (u := 5) (ty := 143) rfl, hp]
  have hi : (Tryz.prog.info? 143).map (·.size) = some (#[x, y] : Array Value).size := by kernel_rfl
  simp [asAddr, run_loadVar_row W b 143 143 #[x, y] (0, 0) _ hb Tryz.underlying143 rfl hi, Result.andThen]

/-- Whether the first k tags may be. -/
def tagsTo (nat : Int) (T : List Int) (k : Nat) : Bool := decide (∀ j, j < k → ∀ h : j < T.length, (isV T[j] && !(T[j] == nat || (T.take j).contains T[j])) = true)
theorem tagsTo_zero (nat : Int) (T : List Int) : tagsTo nat T 0 = true := by simp [tagsTo]
theorem tagsTo_succ {nat : Int} {T : List Int} {k : Nat} (h : tagsTo nat T k = true) (hk : k < T.length) : tagsTo nat T (k + 1) = (isV T[k] && !(T[k] == nat || (T.take k).contains T[k])) := by
  rw [tagsTo, decide_eq_true_eq] at h
  rw [Bool.eq_iff_iff, tagsTo, decide_eq_true_eq]
  constructor
  · intro h'
    exact h' k (by omega) hk
  · intro h' j hj hlt
    rcases Nat.lt_or_ge j k with h1 | h1
    · exact h j h1 hlt
    · obtain rfl : j = k := by omega
      exact h'
theorem tagsTo_no {nat : Int} {T : List Int} {k : Nat} (hk : k < T.length) (h : (isV T[k] && !(T[k] == nat || (T.take k).contains T[k])) = false) : tagsTo nat T T.length = false := by
  rw [tagsTo, decide_eq_false_iff_not]
  intro h'
  rw [h' k hk hk] at h
  cases h
/-- Whether a port may have these VLANs. -/
def portOk (nat : Int) (T : List Int) : Bool := (nat == 0 || isV nat) && tagsTo nat T T.length

/-- What stands while the tags are gone through. -/
structure PoI (w : World) (nat : Int) (T : List Int) (Bm Bp k : Nat) (wr : World) : Prop where
  ok : tagsTo nat T k = true
  mp : ∃ D, wr.ownsMap (H := Unit) Tryz.prog 3 unitElem Bm k D ∧ Maps.IsMap D ∧ ∀ v, (Lit.int .i64 v).wf = true → Maps.has D (.int .i64 v) = (T.take k).contains v
  bp : wr.heap[Bp]? = some (.cells #[.int .i64 nat, .map (some Bm)] 143 (0, 0))
  b0 : wr.heap[w.heap.size]? = some (.cells #[.int .i64 0, .map none] 143 (0, 0))
  lo : Below w.heap.size w wr
  hBm : w.heap.size < Bm
  hBp : Bm < Bp

theorem PoI.tag {w wr : World} {nat : Int} {T : List Int} {Bm Bp k : Nat} (h : PoI w nat T Bm Bp k wr) : TagAt wr (.map (some Bm)) fun v => (T.take k).contains v := by
  obtain ⟨D, h1, _, h2⟩ := h.mp
  exact .inr ⟨Bm, k, D, rfl, h1, h2⟩
theorem ownsMap_below {w w' : World} {b n : Nat} {D : DataW Unit} (h : w.ownsMap (H := Unit) Tryz.prog 3 unitElem b n D) (hb : Below w.heap.size w w') : w'.ownsMap (H := Unit) Tryz.prog 3 unitElem b n D := by
  obtain ⟨es, cl, h1, h2⟩ := h
  have hlt : b < w.heap.size := (Array.getElem?_eq_some_iff.1 h1).1
  exact ⟨es, cl, (hb.block b hlt).trans h1, h2⟩
theorem PoI.below {w wr wr' : World} {nat : Int} {T : List Int} {Bm Bp k : Nat} (h : PoI w nat T Bm Bp k wr) (hb : Below wr.heap.size wr wr') : PoI w nat T Bm Bp k wr' := by
  obtain ⟨D, h1, h2, h3⟩ := h.mp
  have l1 : Bp < wr.heap.size := (Array.getElem?_eq_some_iff.1 h.bp).1
  have l2 : w.heap.size < wr.heap.size := (Array.getElem?_eq_some_iff.1 h.b0).1
  exact ⟨h.ok, ⟨D, ownsMap_below h1 hb, h2, h3⟩, (hb.block _ l1).trans h.bp, (hb.block _ l2).trans h.b0, h.lo.trans (hb.mono h.lo.size), h.hBm, h.hBp⟩
end Go.Proofs.YtnjalelblbjfiaaGreatDoor

namespace Go.Proofs.YtnjalelblbjfiaaGreatDoor
open Go.RowKit Go.Maps

theorem take_contains {T : List Int} {k : Nat} (hk : k < T.length) (v : Int) : (T.take (k + 1)).contains v = (v == T[k] || (T.take k).contains v) := by
  rw [List.take_succ_eq_append_getElem hk, Bool.eq_iff_iff]
  simp only [List.contains_iff_mem, List.mem_append, List.mem_singleton, Bool.or_eq_true, beq_iff_eq]
  exact Or.comm
theorem PoI.put {w wr w1 : World} {nat : Int} {T : List Int} {Bm Bp k : Nat} {D : DataW Unit} (h : PoI w nat T Bm Bp k wr) (hD : Maps.IsMap D) (hv : ∀ v, (Lit.int .i64 v).wf = true → Maps.has D (.int .i64 v) = (T.take k).contains v) (hk : k < T.length) (hg : (isV T[k] && !(T[k] == nat || (T.take k).contains T[k])) = true)
    (h1 : w1.ownsMap (H := Unit) Tryz.prog 3 unitElem Bm (k + 1) (D.put (.int .i64 T[k]) (.agg []))) (h2 : wr.grownBy w1 (some Bm)) : PoI w nat T Bm Bp (k + 1) w1 := by
  have l1 : Bp < wr.heap.size := (Array.getElem?_eq_some_iff.1 h.bp).1
  have l2 : w.heap.size < wr.heap.size := (Array.getElem?_eq_some_iff.1 h.b0).1
  have n1 := h.hBm
  have n2 := h.hBp
  refine ⟨by rw [tagsTo_succ h.ok hk]; exact hg, ⟨_, h1, hD.put _ _, fun v hw => ?_⟩, (h2.block _ l1 (by simp; omega)).trans h.bp, (h2.block _ l2 (by simp; omega)).trans h.b0, h.lo.grown h2 h.lo.size (fun j hj => by cases hj; omega), n1, n2⟩
  rw [take_contains hk]
  by_cases e : v = T[k]
  · subst e
    rw [has_put_same hD (by simp [WideAt.IsKeyLit])]
    simp
  · rw [has_put_other (fun e' => e (by simpa using e')), hv v hw]
    have : (v == T[k]) = false := by simpa using e
    rw [this, Bool.false_or]

/-- What portOf answers. -/
def PoR (w : World) (nat : Int) (T : List Int) (e : Ending) (w' : World) : Prop :=
  Below w.heap.size w w' ∧ if portOk nat T then ∃ Bm, w.heap.size ≤ Bm ∧ e = .returned (.tuple #[.agg #[.int .i64 nat, .map (some Bm)], .bool true]) ∧ TagAt w' (.map (some Bm)) (tgOf T) else e = .returned (.tuple #[.agg #[.int .i64 0, .map none], .bool false])

set_option maxRecDepth 100000 in
set_option maxHeartbeats 2000000 in
theorem portOf_any (nat : Int) (T : List Int) (tv : Value) (w : World) (hT : NumsAt w tv T) (hw : ∀ t ∈ T, (Lit.int .i64 t).wf = true) (hl : T.length < 1000000000000) :
    Calls Tryz.prog 66 #[.int .i64 nat, tv] w (PoR w nat T) := by
  obtain ⟨a, cap, b, rfl, hc⟩ := hT
  have CV := hide isVLAN_any
  have hmm := @run_makeMap Tryz.prog
  have HC := hide hc
  have HW := hide hw
  have main : ∀ W : World, Below w.heap.size w W → W.heap[w.heap.size]? = some (.cells #[.int .i64 0, .map none] 143 (0, 0)) → (nat == 0 || isV nat) = true →
      PoI w nat T W.heap.size (W.heap.size + 1) 0 ((W.alloc (.map #[] 0)).alloc (.cells #[.int .i64 nat, .map (some W.heap.size)] 143)) := by
    intro W hB h0 _
    have l2 : w.heap.size < W.heap.size := (Array.getElem?_eq_some_iff.1 h0).1
    have bb : Below W.heap.size W ((W.alloc (.map #[] 0)).alloc (.cells #[.int .i64 nat, .map (some W.heap.size)] 143)) := ((Below.refl _ W).alloc (Nat.le_refl _) _).alloc (by simp) _
    refine ⟨tagsTo_zero _ _, ⟨.map [], (World.ownsMap_made W Tryz.prog 3 unitElem).alloc _, ?_, fun v _ => by simp [Maps.has]⟩, ?_, (bb.block _ l2).trans h0, hB.trans (bb.mono (by omega)), l2, by omega⟩
    · exact ⟨_, rfl⟩
    · have := World.alloc_heap_new (W.alloc (.map #[] 0)) (.cells #[.int .i64 nat, .map (some W.heap.size)] 143)
      rwa [World.size_alloc] at this
  have HM := hide main
  clear hc hw main
  by_cases hz : nat = 0
  · have hd : (nat != 0) = false := by simpa using hz
    have HP := hide (HM.out _ ((Below.refl _ w).alloc (Nat.le_refl _) (.cells #[.int .i64 0, .map none] 143)) (World.alloc_heap_new w _) (by simp [hz]))
    have PK : portOk nat T = tagsTo nat T T.length := by unfold portOk; simp [hz]
    have HPK := hide PK
    clear PK HM hz
    go_enter Tryz.func66, Tryz.ntmps66
    go_wp2
    generalize hW : w.alloc (.cells #[.int .i64 0, .map none] 143) = W at *
    have hWs : W.heap.size = w.heap.size + 1 := by rw [← hW]; simp
    try rw [← hWs]
    clear hW hWs
    go_loopw [22] (fun i wr => ∃ k : Nat, k ≤ T.length ∧ i = .int .i64 k ∧ Hid (PoI w nat T W.heap.size (W.heap.size + 1) k wr)) (fun i _ => T.length - (intOf i).toNat)
    case atStart => exact ⟨0, Nat.zero_le _, rfl, HP⟩
    case round =>
      obtain ⟨k, hk, rfl, hI⟩ := hrel
      clear HP
      by_cases hlt : k < T.length
      · obtain ⟨rfl, ck⟩ := HC.out k hlt
        have hblt : b < w.heap.size := block_lt_of_cell ck
        have ck1 : wr.cell? ⟨b, k, none⟩ = some (.int .i64 T[k]) := (hI.out.lo.cell (p := ⟨b, k, none⟩) hblt).trans ck
        have hki : (k : Int) < T.length := by omega
        have hwk := HW.out T[k] (List.getElem_mem hlt)
        have hbw : b < wr.heap.size := by have := hI.out.lo.size; omega
        have CV1 := hide (CV.out T[k] wr)
        cases hv1 : isV T[k] with
        | false =>
          have HNO : Hid (tagsTo nat T T.length = false) := hide (tagsTo_no hlt (by rw [hv1]; rfl))
          rw [hv1] at CV1
          generalize T[k] = tk at *
          clear CV HC HW ck hv1
          go_wp2_with fail
          refine CV1.out.mono ?_
          rintro e w2 ⟨rfl, hb2⟩
          have HI2 := hide (hI.out.below hb2)
          clear hb2 CV1 hI
          have c0 := HI2.out.b0
          have k0 : w2.cell? ⟨w.heap.size, 0, none⟩ = some (.int .i64 0) := by simp [World.cell?, c0]
          have k1 : w2.cell? ⟨w.heap.size, 1, none⟩ = some (.map none) := by simp [World.cell?, c0]
          have kf : ∀ j, w2.frozen? ⟨w.heap.size, j, none⟩ = false := fun j => by simp [World.frozen?, c0]
          have HB : Hid (Below w.heap.size w ((w2.setCell ⟨w.heap.size, 0, none⟩ (.int .i64 0)).setCell ⟨w.heap.size, 1, none⟩ (.map none))) := hide ((HI2.out.lo.setCell (by simp) _).setCell (by simp) _)
          have HZ : Hid (((w2.setCell ⟨w.heap.size, 0, none⟩ (.int .i64 0)).setCell ⟨w.heap.size, 1, none⟩ (.map none)).heap[w.heap.size]? = some (.cells #[.int .i64 0, .map none] 143 (0, 0))) := hide ((heap_setCell_same _ _ 1 _ _ _ (heap_setCell_same _ _ 0 _ _ _ c0)).trans (by simp))
          clear c0 HI2
          go_wp2
          refine bodyPost_ret (ret_po HZ.out rfl) rfl ?_
          exact ⟨HB.out, by rw [HPK.out, HNO.out]; rfl⟩
        | true =>
          rw [hv1] at CV1
          have CH := hide fun (W2 : World) (hI2 : PoI w nat T W.heap.size (W.heap.size + 1) k W2) => has_any nat (.map (some W.heap.size)) (fun v => (T.take k).contains v) T[k] W2 hI2.tag hwk
          cases hin : (T[k] == nat || (T.take k).contains T[k]) with
          | true =>
            have HNO : Hid (tagsTo nat T T.length = false) := hide (tagsTo_no hlt (by rw [hv1, hin]; rfl))
            simp only [hin] at CH
            generalize T[k] = tk at *
            clear CV HC HW ck hv1 hin
            go_wp2_with fail
            refine CV1.out.mono ?_
            rintro e w2 ⟨rfl, hb2⟩
            have hI2 := hI.out.below hb2
            have p0 : w2.cell? ⟨W.heap.size + 1, 0, none⟩ = some (.int .i64 nat) := by simp [World.cell?, hI2.bp]
            have p1 : w2.cell? ⟨W.heap.size + 1, 1, none⟩ = some (.map (some W.heap.size)) := by simp [World.cell?, hI2.bp]
            have CH2 := hide (CH.out w2 hI2)
            have HI0 := hide hI2
            clear hb2 CV1 CH hI hI2
            go_wp2_with fail
            refine CH2.out.mono ?_
            rintro e w3 ⟨rfl, hb3⟩
            have HI2 := hide (HI0.out.below hb3)
            clear HI0 hb3 CH2 p0 p1
            have c0 := HI2.out.b0
            have k0 : w3.cell? ⟨w.heap.size, 0, none⟩ = some (.int .i64 0) := by simp [World.cell?, c0]
            have k1 : w3.cell? ⟨w.heap.size, 1, none⟩ = some (.map none) := by simp [World.cell?, c0]
            have kf : ∀ j, w3.frozen? ⟨w.heap.size, j, none⟩ = false := fun j => by simp [World.frozen?, c0]
            have HB : Hid (Below w.heap.size w ((w3.setCell ⟨w.heap.size, 0, none⟩ (.int .i64 0)).setCell ⟨w.heap.size, 1, none⟩ (.map none))) := hide ((HI2.out.lo.setCell (by simp) _).setCell (by simp) _)
            have HZ : Hid (((w3.setCell ⟨w.heap.size, 0, none⟩ (.int .i64 0)).setCell ⟨w.heap.size, 1, none⟩ (.map none)).heap[w.heap.size]? = some (.cells #[.int .i64 0, .map none] 143 (0, 0))) := hide ((heap_setCell_same _ _ 1 _ _ _ (heap_setCell_same _ _ 0 _ _ _ c0)).trans (by simp))
            clear c0 HI2
            go_wp2
            refine bodyPost_ret (ret_po HZ.out rfl) rfl ?_
            exact ⟨HB.out, by rw [HPK.out, HNO.out]; rfl⟩
          | false =>
            have HGO : Hid ((isV T[k] && !(T[k] == nat || (T.take k).contains T[k])) = true) := hide (by rw [hv1, hin]; rfl)
            simp only [hin] at CH
            have hkey := keyOf_int_mk Tryz.underlying3 hwk
            clear CV HC HW ck hv1 hin
            go_wp2_with fail
            refine CV1.out.mono ?_
            rintro e w2 ⟨rfl, hb2⟩
            have hI2 := hI.out.below hb2
            have p0 : w2.cell? ⟨W.heap.size + 1, 0, none⟩ = some (.int .i64 nat) := by simp [World.cell?, hI2.bp]
            have p1 : w2.cell? ⟨W.heap.size + 1, 1, none⟩ = some (.map (some W.heap.size)) := by simp [World.cell?, hI2.bp]
            have CH2 := hide (CH.out w2 hI2)
            have HI0 := hide hI2
            clear hb2 CV1 CH hI hI2
            go_wp2_with fail
            refine CH2.out.mono ?_
            rintro e w3 ⟨rfl, hb3⟩
            have hI3 := HI0.out.below hb3
            have q1 : w3.cell? ⟨W.heap.size + 1, 1, none⟩ = some (.map (some W.heap.size)) := by simp [World.cell?, hI3.bp]
            obtain ⟨D, hown, hD, hv⟩ := hI3.mp
            have HI3 := hide hI3
            have HD := hide hD
            have HV := hide hv
            clear HI0 hb3 CH2 p0 p1 hI3 hD hv
            go_wp2_with (first | (at_mapUpdate; refine wpList_mapUpdate_own _ rfl _ _ _ 141 rfl 3 242 keyI underTag unitElem W.heap.size k D rfl hown (by unfold maxLen; omega) _ _ (.int .i64 T[k]) rfl rfl hkey (.agg []) [] unitElem_mk ?_; intro w4 hown4 hgrow4))
            have HN := hide (HI3.out.put HD.out HV.out hlt HGO.out hown4 hgrow4)
            clear hown4 hgrow4
            go_roundw
            case rel => exact ⟨k + 1, by omega, by go_num, HN⟩
            case measure => simp [intOf]; omega
      · obtain rfl : k = T.length := by omega
        have hT := hI.out.tag
        rw [List.take_of_length_le (Nat.le_refl _)] at hT
        replace hT : TagAt wr (.map (some W.heap.size)) (tgOf T) := hT
        have c0 := hI.out.b0
        have k0 : wr.cell? ⟨w.heap.size, 0, none⟩ = some (.int .i64 0) := by simp [World.cell?, c0]
        have k1 : wr.cell? ⟨w.heap.size, 1, none⟩ = some (.map none) := by simp [World.cell?, c0]
        have kf : ∀ j, wr.frozen? ⟨w.heap.size, j, none⟩ = false := fun j => by simp [World.frozen?, c0]
        have p0 : wr.cell? ⟨W.heap.size + 1, 0, none⟩ = some (.int .i64 nat) := by simp [World.cell?, hI.out.bp]
        have p1 : wr.cell? ⟨W.heap.size + 1, 1, none⟩ = some (.map (some W.heap.size)) := by simp [World.cell?, hI.out.bp]
        have HB : Hid (Below w.heap.size w ((wr.setCell ⟨w.heap.size, 0, none⟩ (.int .i64 nat)).setCell ⟨w.heap.size, 1, none⟩ (.map (some W.heap.size)))) := hide ((hI.out.lo.setCell (by simp) _).setCell (by simp) _)
        have HZ : Hid (((wr.setCell ⟨w.heap.size, 0, none⟩ (.int .i64 nat)).setCell ⟨w.heap.size, 1, none⟩ (.map (some W.heap.size))).heap[w.heap.size]? = some (.cells #[.int .i64 nat, .map (some W.heap.size)] 143 (0, 0))) := hide ((heap_setCell_same _ _ 1 _ _ _ (heap_setCell_same _ _ 0 _ _ _ c0)).trans (by simp))
        have HBM := hide hI.out.hBm
        have HOK := hide hI.out.ok
        have HT : Hid (TagAt ((wr.setCell ⟨w.heap.size, 0, none⟩ (.int .i64 nat)).setCell ⟨w.heap.size, 1, none⟩ (.map (some W.heap.size))) (.map (some W.heap.size)) (tgOf T)) := hide (hT.same fun x o ho hco => by
          have hx : x ≠ w.heap.size := by rintro rfl; rw [c0] at ho; cases ho; cases hco
          exact ((heap_setCell_other _ _ _ _ hx).trans (heap_setCell_other _ _ _ _ hx)).trans ho)
        clear c0 hT hI HC HW CV
        go_wp2
        refine bodyPost_ret (ret_po HZ.out rfl) rfl ?_
        refine ⟨HB.out, ?_⟩
        rw [HPK.out, HOK.out]
        exact ⟨_, Nat.le_of_lt HBM.out, rfl, HT.out⟩
  · have hd : (nat != 0) = true := by simpa using hz
    cases hv : isV nat with
    | false =>
      have HPK : Hid (portOk nat T = false) := hide (by unfold portOk; rw [hv]; simp [hz])
      go_enter Tryz.func66, Tryz.ntmps66
      go_wp2_with fail
      refine (CV.out _ _).mono ?_
      rintro e w1 ⟨rfl, hb⟩
      rw [hv]
      have c0 : w1.heap[w.heap.size]? = some (.cells #[.int .i64 0, .map none] 143 (0, 0)) := (hb.block _ (by simp)).trans (World.alloc_heap_new w _)
      have k0 : w1.cell? ⟨w.heap.size, 0, none⟩ = some (.int .i64 0) := by simp [World.cell?, c0]
      have k1 : w1.cell? ⟨w.heap.size, 1, none⟩ = some (.map none) := by simp [World.cell?, c0]
      have kf : ∀ j, w1.frozen? ⟨w.heap.size, j, none⟩ = false := fun j => by simp [World.frozen?, c0]
      have HB : Hid (Below w.heap.size w ((w1.setCell ⟨w.heap.size, 0, none⟩ (.int .i64 0)).setCell ⟨w.heap.size, 1, none⟩ (.map none))) := hide (((((Below.refl _ w).alloc (Nat.le_refl _) _).trans (hb.mono (by simp))).setCell (by simp) _).setCell (by simp) _)
      have HZ : Hid (((w1.setCell ⟨w.heap.size, 0, none⟩ (.int .i64 0)).setCell ⟨w.heap.size, 1, none⟩ (.map none)).heap[w.heap.size]? = some (.cells #[.int .i64 0, .map none] 143 (0, 0))) := hide ((heap_setCell_same _ _ 1 _ _ _ (heap_setCell_same _ _ 0 _ _ _ c0)).trans (by simp))
      clear c0 hb HM HC HW hmm
      go_wp2
      refine bodyPost_ret (ret_po HZ.out rfl) rfl ?_
      exact ⟨HB.out, by rw [HPK.out]; rfl⟩
    | true =>
      go_enter Tryz.func66, Tryz.ntmps66
      go_wp2_with fail
      refine (CV.out _ _).mono ?_
      rintro e W ⟨rfl, hb⟩
      rw [hv]
      have hB1 : Below w.heap.size w W := ((Below.refl _ w).alloc (Nat.le_refl _) _).trans (hb.mono (by simp))
      have HP := hide (HM.out _ hB1 ((hb.block _ (by simp)).trans (World.alloc_heap_new w _)) (by rw [hv]; simp))
      have PK : portOk nat T = tagsTo nat T T.length := by unfold portOk; rw [hv]; simp
      have HPK := hide PK
      clear PK HM hB1 hb
      go_wp2
      go_loopw [22] (fun i wr => ∃ k : Nat, k ≤ T.length ∧ i = .int .i64 k ∧ Hid (PoI w nat T W.heap.size (W.heap.size + 1) k wr)) (fun i _ => T.length - (intOf i).toNat)
      case atStart => exact ⟨0, Nat.zero_le _, rfl, HP⟩
      case round =>
        obtain ⟨k, hk, rfl, hI⟩ := hrel
        clear HP
        by_cases hlt : k < T.length
        · obtain ⟨rfl, ck⟩ := HC.out k hlt
          have hblt : b < w.heap.size := block_lt_of_cell ck
          have ck1 : wr.cell? ⟨b, k, none⟩ = some (.int .i64 T[k]) := (hI.out.lo.cell (p := ⟨b, k, none⟩) hblt).trans ck
          have hki : (k : Int) < T.length := by omega
          have hwk := HW.out T[k] (List.getElem_mem hlt)
          have hbw : b < wr.heap.size := by have := hI.out.lo.size; omega
          have CV1 := hide (CV.out T[k] wr)
          cases hv1 : isV T[k] with
          | false =>
            have HNO : Hid (tagsTo nat T T.length = false) := hide (tagsTo_no hlt (by rw [hv1]; rfl))
            rw [hv1] at CV1
            generalize T[k] = tk at *
            clear CV HC HW ck hv1
            go_wp2_with fail
            refine CV1.out.mono ?_
            rintro e w2 ⟨rfl, hb2⟩
            have HI2 := hide (hI.out.below hb2)
            clear hb2 CV1 hI
            have c0 := HI2.out.b0
            have k0 : w2.cell? ⟨w.heap.size, 0, none⟩ = some (.int .i64 0) := by simp [World.cell?, c0]
            have k1 : w2.cell? ⟨w.heap.size, 1, none⟩ = some (.map none) := by simp [World.cell?, c0]
            have kf : ∀ j, w2.frozen? ⟨w.heap.size, j, none⟩ = false := fun j => by simp [World.frozen?, c0]
            have HB : Hid (Below w.heap.size w ((w2.setCell ⟨w.heap.size, 0, none⟩ (.int .i64 0)).setCell ⟨w.heap.size, 1, none⟩ (.map none))) := hide ((HI2.out.lo.setCell (by simp) _).setCell (by simp) _)
            have HZ : Hid (((w2.setCell ⟨w.heap.size, 0, none⟩ (.int .i64 0)).setCell ⟨w.heap.size, 1, none⟩ (.map none)).heap[w.heap.size]? = some (.cells #[.int .i64 0, .map none] 143 (0, 0))) := hide ((heap_setCell_same _ _ 1 _ _ _ (heap_setCell_same _ _ 0 _ _ _ c0)).trans (by simp))
            clear c0 HI2
            go_wp2
            refine bodyPost_ret (ret_po HZ.out rfl) rfl ?_
            exact ⟨HB.out, by rw [HPK.out, HNO.out]; rfl⟩
          | true =>
            rw [hv1] at CV1
            have CH := hide fun (W2 : World) (hI2 : PoI w nat T W.heap.size (W.heap.size + 1) k W2) => has_any nat (.map (some W.heap.size)) (fun v => (T.take k).contains v) T[k] W2 hI2.tag hwk
            cases hin : (T[k] == nat || (T.take k).contains T[k]) with
            | true =>
              have HNO : Hid (tagsTo nat T T.length = false) := hide (tagsTo_no hlt (by rw [hv1, hin]; rfl))
              simp only [hin] at CH
              generalize T[k] = tk at *
              clear CV HC HW ck hv1 hin
              go_wp2_with fail
              refine CV1.out.mono ?_
              rintro e w2 ⟨rfl, hb2⟩
              have hI2 := hI.out.below hb2
              have p0 : w2.cell? ⟨W.heap.size + 1, 0, none⟩ = some (.int .i64 nat) := by simp [World.cell?, hI2.bp]
              have p1 : w2.cell? ⟨W.heap.size + 1, 1, none⟩ = some (.map (some W.heap.size)) := by simp [World.cell?, hI2.bp]
              have CH2 := hide (CH.out w2 hI2)
              have HI0 := hide hI2
              clear hb2 CV1 CH hI hI2
              go_wp2_with fail
              refine CH2.out.mono ?_
              rintro e w3 ⟨rfl, hb3⟩
              have HI2 := hide (HI0.out.below hb3)
              clear HI0 hb3 CH2 p0 p1
              have c0 := HI2.out.b0
              have k0 : w3.cell? ⟨w.heap.size, 0, none⟩ = some (.int .i64 0) := by simp [World.cell?, c0]
              have k1 : w3.cell? ⟨w.heap.size, 1, none⟩ = some (.map none) := by simp [World.cell?, c0]
              have kf : ∀ j, w3.frozen? ⟨w.heap.size, j, none⟩ = false := fun j => by simp [World.frozen?, c0]
              have HB : Hid (Below w.heap.size w ((w3.setCell ⟨w.heap.size, 0, none⟩ (.int .i64 0)).setCell ⟨w.heap.size, 1, none⟩ (.map none))) := hide ((HI2.out.lo.setCell (by simp) _).setCell (by simp) _)
              have HZ : Hid (((w3.setCell ⟨w.heap.size, 0, none⟩ (.int .i64 0)).setCell ⟨w.heap.size, 1, none⟩ (.map none)).heap[w.heap.size]? = some (.cells #[.int .i64 0, .map none] 143 (0, 0))) := hide ((heap_setCell_same _ _ 1 _ _ _ (heap_setCell_same _ _ 0 _ _ _ c0)).trans (by simp))
              clear c0 HI2
              go_wp2
              refine bodyPost_ret (ret_po HZ.out rfl) rfl ?_
              exact ⟨HB.out, by rw [HPK.out, HNO.out]; rfl⟩
            | false =>
              have HGO : Hid ((isV T[k] && !(T[k] == nat || (T.take k).contains T[k])) = true) := hide (by rw [hv1, hin]; rfl)
              simp only [hin] at CH
              have hkey := keyOf_int_mk Tryz.underlying3 hwk
              clear CV HC HW ck hv1 hin
              go_wp2_with fail
              refine CV1.out.mono ?_
              rintro e w2 ⟨rfl, hb2⟩
              have hI2 := hI.out.below hb2
              have p0 : w2.cell? ⟨W.heap.size + 1, 0, none⟩ = some (.int .i64 nat) := by simp [World.cell?, hI2.bp]
              have p1 : w2.cell? ⟨W.heap.size + 1, 1, none⟩ = some (.map (some W.heap.size)) := by simp [World.cell?, hI2.bp]
              have CH2 := hide (CH.out w2 hI2)
              have HI0 := hide hI2
              clear hb2 CV1 CH hI hI2
              go_wp2_with fail
              refine CH2.out.mono ?_
              rintro e w3 ⟨rfl, hb3⟩
              have hI3 := HI0.out.below hb3
              have q1 : w3.cell? ⟨W.heap.size + 1, 1, none⟩ = some (.map (some W.heap.size)) := by simp [World.cell?, hI3.bp]
              obtain ⟨D, hown, hD, hv⟩ := hI3.mp
              have HI3 := hide hI3
              have HD := hide hD
              have HV := hide hv
              clear HI0 hb3 CH2 p0 p1 hI3 hD hv
              go_wp2_with (first | (at_mapUpdate; refine wpList_mapUpdate_own _ rfl _ _ _ 141 rfl 3 242 keyI underTag unitElem W.heap.size k D rfl hown (by unfold maxLen; omega) _ _ (.int .i64 T[k]) rfl rfl hkey (.agg []) [] unitElem_mk ?_; intro w4 hown4 hgrow4))
              have HN := hide (HI3.out.put HD.out HV.out hlt HGO.out hown4 hgrow4)
              clear hown4 hgrow4
              go_roundw
              case rel => exact ⟨k + 1, by omega, by go_num, HN⟩
              case measure => simp [intOf]; omega
        · obtain rfl : k = T.length := by omega
          have hT := hI.out.tag
          rw [List.take_of_length_le (Nat.le_refl _)] at hT
          replace hT : TagAt wr (.map (some W.heap.size)) (tgOf T) := hT
          have c0 := hI.out.b0
          have k0 : wr.cell? ⟨w.heap.size, 0, none⟩ = some (.int .i64 0) := by simp [World.cell?, c0]
          have k1 : wr.cell? ⟨w.heap.size, 1, none⟩ = some (.map none) := by simp [World.cell?, c0]
          have kf : ∀ j, wr.frozen? ⟨w.heap.size, j, none⟩ = false := fun j => by simp [World.frozen?, c0]
          have p0 : wr.cell? ⟨W.heap.size + 1, 0, none⟩ = some (.int .i64 nat) := by simp [World.cell?, hI.out.bp]
          have p1 : wr.cell? ⟨W.heap.size + 1, 1, none⟩ = some (.map (some W.heap.size)) := by simp [World.cell?, hI.out.bp]
          have HB : Hid (Below w.heap.size w ((wr.setCell ⟨w.heap.size, 0, none⟩ (.int .i64 nat)).setCell ⟨w.heap.size, 1, none⟩ (.map (some W.heap.size)))) := hide ((hI.out.lo.setCell (by simp) _).setCell (by simp) _)
          have HZ : Hid (((wr.setCell ⟨w.heap.size, 0, none⟩ (.int .i64 nat)).setCell ⟨w.heap.size, 1, none⟩ (.map (some W.heap.size))).heap[w.heap.size]? = some (.cells #[.int .i64 nat, .map (some W.heap.size)] 143 (0, 0))) := hide ((heap_setCell_same _ _ 1 _ _ _ (heap_setCell_same _ _ 0 _ _ _ c0)).trans (by simp))
          have HBM := hide hI.out.hBm
          have HOK := hide hI.out.ok
          have HT : Hid (TagAt ((wr.setCell ⟨w.heap.size, 0, none⟩ (.int .i64 nat)).setCell ⟨w.heap.size, 1, none⟩ (.map (some W.heap.size))) (.map (some W.heap.size)) (tgOf T)) := hide (hT.same fun x o ho hco => by
            have hx : x ≠ w.heap.size := by rintro rfl; rw [c0] at ho; cases ho; cases hco
            exact ((heap_setCell_other _ _ _ _ hx).trans (heap_setCell_other _ _ _ _ hx)).trans ho)
          clear c0 hT hI HC HW CV
          go_wp2
          refine bodyPost_ret (ret_po HZ.out rfl) rfl ?_
          refine ⟨HB.out, ?_⟩
          rw [HPK.out, HOK.out]
          exact ⟨_, Nat.le_of_lt HBM.out, rfl, HT.out⟩
end Go.Proofs.YtnjalelblbjfiaaGreatDoor
