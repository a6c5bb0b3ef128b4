import Derived.Test.YtaejpejfmpbinaaGreatDoorP23
import Derived.Test.YtaejpejfmpbinaaGreatDoorP21
namespace Go.Proofs.YtaejpejfmpbinaaGreatDoor
open Go.RowKit
open Go.Sort (grow)

/-- What a call of Frame leaves, the passage left out. -/
def FrameEnd (w : World) (k m : Nat) (sv : Value) (R : Int → List (Int × ByteArray) → List Mc → Prop) (e : Ending) (W : World) : Prop :=
  ∃ r L K' ov sv', e = .returned (.tuple #[ov, .int .i64 r]) ∧ R r L K' ∧ W.ownsRow w.heap.size 32 2 ov L.length (rowO L) ∧ KnownAt W k m sv' K' ∧ (∀ b, sv'.ownBlock = some b → sv.ownBlock = some b ∨ w.heap.size ≤ b) ∧ (∀ b, ov.ownBlock = some b → sv'.ownBlock ≠ some b ∧ b ≠ m) ∧ Chg (KX m sv) w W

set_option maxRecDepth 100000 in
set_option maxHeartbeats 1000000 in
theorem sFrame_of (s k m : Nat) (pv sv : Value) (P : List Prt) (K : List Mc) (port : Int) (d : ByteArray) (w : World) (h : SwP w s pv P k m sv K) (hP : P.length ≤ 8) (hn : K.length ≤ 64) (hnat : ∀ p ∈ P, (Lit.int .i64 p.nat).wf = true)
    (unp : Pg → Pg) (jud : Pg → Option (Int × List (Int × ByteArray))) (rou : Pg → Int ⊕ Pg) (hM : Middle w s k m sv P port d unp jud rou) :
    Calls Tryz.prog 9 #[.pointer (some ⟨s, 0, none⟩), .int .i64 port, .string d] w (FrameEnd w k m sv (FrameR P K unp jud rou port d)) := by
  obtain ⟨W0, hW0⟩ : ∃ W0, W0 = (w.alloc (.cells (pgCells ⟨port, d, zeroFr, ⟨#[]⟩, 0, 0, false, false⟩ (.slice none 0 0)) 65)).alloc (.cells (stageCells s) 101) := ⟨_, rfl⟩
  have hB : Below w.heap.size w W0 := by rw [hW0]; exact ((Below.refl _ w).alloc (Nat.le_refl _) _).alloc (by simp) _
  have hMid : Mid w s k m sv ⟨port, d, zeroFr, ⟨#[]⟩, 0, 0, false, false⟩ K W0 := by
    refine ⟨?_, ?_, ⟨sv, h.hK.below hB, fun b hb => .inl hb⟩, Chg.of_below hB⟩
    · rw [hW0]
      exact (((Below.refl _ (w.alloc _)).alloc (Nat.le_refl _) _).block _ (by simp)).trans (allocN _ _)
    · rw [hW0]
      have := allocN (w.alloc (.cells (pgCells ⟨port, d, zeroFr, ⟨#[]⟩, 0, 0, false, false⟩ (.slice none 0 0)) 65)) (.cells (stageCells s) 101)
      rwa [World.size_alloc] at this
  have C := hide (stages_any s k m pv sv P K port d w W0 h hP hn hnat unp jud rou hM hMid)
  simp only [pgCells, zeroFr, stageCells] at hW0
  have HW := hide hW0
  clear hW0 hB hMid hM h
  go_enter Tryz.func9, Tryz.ntmps9
  go_wp2_with fail
  rw [← HW.out]
  refine C.out.mono ?_
  rintro e W' ⟨r, rfl, L, K', p, ov, sv', h1, h2, h3, h4, h5, h6, h7⟩
  have g14 : W'.cell? ⟨w.heap.size, 14, none⟩ = some ov := h2.cell rfl
  have HR : Hid (FrameEnd w k m sv (FrameR P K unp jud rou port d) (.returned (.tuple #[ov, .int .i64 r])) W') := hide ⟨r, L, K', ov, sv', rfl, h1, h3, h4, h5, h6, h7⟩
  clear h1 h2 h3 h4 h5 h6 h7 C HW
  go_wp2
  go_ret2
  exact HR.out

/-- A frame that bears no IPv4. -/
theorem middleN (s k m : Nat) (pv sv : Value) (P : List Prt) (K : List Mc) (port : Int) (d : ByteArray) (w : World) (h : SwP w s pv P k m sv K) (hnat : ∀ p ∈ P, (Lit.int .i64 p.nat).wf = true) (hk : ∀ f, readF d = some f → (kind2 f.ty == 2) = false) : Middle w s k m sv P port d id (fun _ => none) .inr := by
  refine ⟨fun f K' W hf _ _ hW => ?_, fun f K' W hf _ _ hW => ?_, fun f K' W hf hv hd hW => ?_⟩
  · obtain ⟨_, _, _, cm⟩ := h.kept hW.ch
    refine (unpackN_any w.heap.size _ _ W hW.pg cm (hk f hf)).mono ?_
    rintro e W' ⟨rfl, hb⟩
    exact ⟨rfl, hW.pg.below hb, OnlyG.of_below hb⟩
  · refine (judgeN_any s w.heap.size _ _ W hW.pg rfl).mono ?_
    rintro e W' ⟨rfl, rfl⟩
    exact ⟨-1, rfl, .inl ⟨rfl, rfl, hW.pg, OnlyG.of_below (Below.refl _ _)⟩⟩
  · obtain ⟨_, _, _, cm⟩ := h.kept hW.ch
    refine (routeN_any s w.heap.size _ _ W hW.pg cm (hk f hf)).mono ?_
    rintro e W' ⟨rfl, hb⟩
    have hw := read_wf hf
    refine ⟨-1, rfl, .inl ⟨rfl, _, rfl, ⟨vlanAt_wf hv hnat hw.1, ?_⟩, hW.pg.below hb, OnlyG.of_below hb⟩⟩
    show f.to.size + f.fr.size + f.ty.size + f.rest.size ≤ 1000
    omega
end Go.Proofs.YtaejpejfmpbinaaGreatDoor

namespace Go.Proofs.YtaejpejfmpbinaaGreatDoor
open Go.RowKit

/-- The bytes of a list. -/
def ofL (l : List UInt8) : ByteArray := ⟨l.toArray⟩
theorem ofL_toList (l : List UInt8) : (ofL l).toList = l := by rw [ByteArray.toList_eq]; simp [ofL]
theorem ofL_append (a b : List UInt8) : ofL a ++ ofL b = ofL (a ++ b) := by
  refine ba_ext ?_
  rw [ofL_toList, ByteArray.toList_eq]
  simp [ofL]
theorem ofL_size (l : List UInt8) : (ofL l).size = l.length := by simp [ofL, ByteArray.size]
theorem ofL_extract (l : List UInt8) (i j : Nat) : (ofL l).extract i j = ofL ((l.take j).drop i) := by
  refine ba_ext ?_
  rw [ofL_toList, ByteArray.toList_eq]
  simp [ofL, ByteArray.data_extract, List.extract_eq_take_drop, List.drop_take]
theorem ofL_inj {a b : List UInt8} (h : ofL a = ofL b) : a = b := by rw [← ofL_toList a, h, ofL_toList]
theorem ofL_get (l : List UInt8) (i : Nat) (h : i < (ofL l).size) : (ofL l)[i] = l[i]'(by rw [ofL_size] at h; exact h) := by
  simp [ofL, ByteArray.getElem_eq_getElem_data]

/-- A frame without a tag, as it is read. -/
theorem read_plain (to fr rest : List UInt8) (a b : UInt8) (ht : to.length = 6) (hf : fr.length = 6) (hk : ¬ (a = 129 ∧ b = 0)) : readF (ofL (to ++ fr ++ [a, b] ++ rest)) = some ⟨ofL to, ofL fr, false, 0, 0, ofL [a, b], ofL rest⟩ := by
  have hs : (ofL (to ++ fr ++ [a, b] ++ rest)).size = 14 + rest.length := by rw [ofL_size]; simp; omega
  have e1 : (ofL (to ++ fr ++ [a, b] ++ rest)).extract 0 6 = ofL to := by
    rw [ofL_extract]
    simp [ht]
  have e2 : (ofL (to ++ fr ++ [a, b] ++ rest)).extract 6 12 = ofL fr := by
    rw [ofL_extract]
    simp [List.take_append, ht, hf, List.take_of_length_le]
  have e3 : (ofL (to ++ fr ++ [a, b] ++ rest)).extract 12 14 = ofL [a, b] := by
    rw [ofL_extract]
    simp [List.take_append, List.drop_append, ht, hf, List.take_of_length_le, List.drop_eq_nil_of_le]
  have e4 : (ofL (to ++ fr ++ [a, b] ++ rest)).extract 14 (ofL (to ++ fr ++ [a, b] ++ rest)).size = ofL rest := by
    rw [hs, ofL_extract, List.take_of_length_le (by simp; omega), List.drop_left' (by simp [ht, hf])]
  have hk2 : kind2 (ofL [a, b]) ≠ 1 := by
    unfold kind2 kindN
    rw [ofL_toList]
    have : ((⟨#[129, 0]⟩ : ByteArray).toList == [a, b]) = false := by
      rw [show (⟨#[129, 0]⟩ : ByteArray) = ofL [129, 0] from rfl, ofL_toList]
      simp only [beq_eq_false_iff_ne, ne_eq, List.cons.injEq, and_true]
      rintro ⟨rfl, rfl⟩
      exact hk ⟨rfl, rfl⟩
    rw [this]
    simp only [Bool.false_eq_true, if_false]
    split <;> decide
  unfold readF
  rw [e3, if_neg (by omega), if_neg hk2, e1, e2, e4]

/-- A frame without IPv4 that goes out where its VLAN is native is as it came. -/
theorem out_plain (p : Prt) (f : Fr) (hv : f.vlan = p.nat) : outF p f = f.to ++ f.fr ++ f.ty ++ f.rest := by
  unfold outF bytesF
  have : (f.vlan != p.nat) = false := by rw [hv]; simp
  rw [this]
  show f.to ++ f.fr ++ ofL [] ++ f.ty ++ f.rest = _
  refine ba_ext ?_
  simp [ByteArray.toList_eq, ofL]
end Go.Proofs.YtaejpejfmpbinaaGreatDoor

namespace Go.Proofs.YtaejpejfmpbinaaGreatDoor
open Go.RowKit Go.Shelf

attribute [local go_sem] Oper.semAt_some

theorem infoMac : (Tryz.prog.info? 134).map (fun i => (i.zero, i.size, i.bytes)) = some (some (.agg #[.int .i64 0, .string ⟨#[]⟩, .int .i64 0, .int .i64 0]), 4, 40) := by kernel_rfl
theorem cells_own (B : Nat) (cs : Array Value) (t : TypeId) : Own (fun (_ : Unit) W => W.heap[B]? = some (.cells cs t (0, 0))) := fun _ _ _ _ hs hg hrow =>
  (hg.block B (Array.getElem?_eq_some_iff.1 hs).1 (fun e' => by obtain ⟨o, ho, hc⟩ := hrow B e'.symm; rw [hs] at ho; cases ho; cases hc)).trans hs
theorem ownsRow_someP {w : World} {B : Nat} {t : TypeId} {s n : Nat} {v : Value} {xs : List Value} (h : w.ownsRow B t s v n xs) (hv : v ≠ .slice none 0 0) : ∃ g cap, v = .slice (some ⟨g, 0, none⟩) n cap := by
  rcases h.2 with ⟨e, _⟩ | ⟨g, cap, cur, e, _⟩
  · exact absurd e hv
  · exact ⟨g, cap, e⟩
/-- A row of cells in a block. -/
def BlkAt (W : World) (b : Nat) (cs : Array Value) (t : TypeId) : Prop := W.heap[b]? = some (.cells cs t (0, 0))
theorem BlkAt.new (W : World) (cs : Array Value) (t : TypeId) : BlkAt (W.alloc (.cells cs t)) W.heap.size cs t := World.alloc_heap_new W _
theorem BlkAt.lt {W : World} {b : Nat} {cs : Array Value} {t : TypeId} (h : BlkAt W b cs t) : b < W.heap.size := (Array.getElem?_eq_some_iff.1 h).1
theorem BlkAt.kept {W W' : World} {row : Option Nat} {b : Nat} {cs : Array Value} {t : TypeId} (h : BlkAt W b cs t) (hg : W.grownBy W' row) (hne : some b ≠ row) : BlkAt W' b cs t := (hg.block b h.lt hne).trans h
theorem BlkAt.alloc {W : World} {b : Nat} {cs : Array Value} {t : TypeId} (h : BlkAt W b cs t) (o : Obj) : BlkAt (W.alloc o) b cs t := h.kept (World.grownBy_alloc W o none) (by simp)
theorem BlkAt.cell {W : World} {b : Nat} {cs : Array Value} {t : TypeId} (h : BlkAt W b cs t) {i : Nat} {v : Value} (hv : cs[i]? = some v) : W.cell? ⟨b, i, none⟩ = some v := by
  unfold BlkAt at h
  simp [World.cell?, h, hv]
theorem BlkAt.frozen {W : World} {b : Nat} {cs : Array Value} {t : TypeId} (h : BlkAt W b cs t) (i : Nat) : W.frozen? ⟨b, i, none⟩ = false := by
  unfold BlkAt at h
  unfold World.frozen?; simp only [h]; rfl
theorem BlkAt.own (B : Nat) (cs : Array Value) (t : TypeId) : Own (fun (_ : Unit) W => BlkAt W B cs t) := cells_own B cs t
theorem BlkAt.below {W W' : World} {b : Nat} {cs : Array Value} {t : TypeId} (h : BlkAt W b cs t) (hb : Below W.heap.size W W') : BlkAt W' b cs t := (hb.block b h.lt).trans h

set_option maxRecDepth 100000 in
set_option maxHeartbeats 2000000 in
theorem macs_walk (k m : Nat) (sv : Value) (w : World) (Ls : List { _e : Mc // True }) (hlen : Ls.length ≤ 200)
    (hk : w.cell? ⟨k, 0, none⟩ = some (.pointer (some ⟨m, 0, none⟩))) (hm : w.cell? ⟨m, 1, none⟩ = some sv) (hrow : PlaceRow w.heap.size w sv (Ls.map (·.1))) :
    Calls Tryz.prog 31 #[.pointer (some ⟨k, 0, none⟩)] w fun e w' => ∃ g cap, e = .returned (.slice (some ⟨g, 0, none⟩) Ls.length cap) ∧ w'.ownsRow w.heap.size 134 4 (.slice (some ⟨g, 0, none⟩) Ls.length cap) Ls.length (rowP (Ls.map (·.1))) ∧ Below w.heap.size w w' := by
  have hklt := block_lt_of_cell hk
  have hmlt := block_lt_of_cell hm
  obtain ⟨i0, hi, hz0, hz1, hz2⟩ := info_parts infoMac
  have hrow0 := hrow
  obtain ⟨ra, rcap, rfl, _⟩ := hrow0
  rw [List.length_map] at hm
  refine (callsIn_wide (n := 5)).1 ?_
  have hro : Fence.wide.round = none := rfl
  refine callsIn_of_wp_marks Tryz.func31 rfl trivial ?_ hro
  simp only [Tryz.ntmps31, List.size_toArray, List.length_cons, List.length_nil, Nat.reduceAdd, Nat.reduceSub, Array.replicate_succ, Array.replicate_zero, List.push_toArray, List.append_toArray, List.nil_append, List.cons_append]
  gi_wp2_with (first | (refine ⟨trivial, ?_⟩; gi_at_call 68; refine (callsIn_wide.2 (lenP_any m ra Ls.length rcap _ hm)).mono ?_; rintro e w' ⟨rfl, hww⟩; rw [hww]; clear hww) | (gi_at_make; refine wpListIn_make_own _ rfl _ _ 35 rfl w.heap.size 134 i0 _ 4 Tryz.underlying35 hi hz0 hz1 .i64 .i64 _ Ls.length rfl rfl rfl ?_ ?_ ?_ ?_; (rw [hz2]; omega); (unfold maxLen; omega); (exact Nat.le_refl _); intro w0 hown0 hgrow0; have hb0 : Below w.heap.size w w0 := (Below.refl _ w).grown hgrow0 (Nat.le_refl _) (fun x hx => by cases hx); have k1 : w0.cell? ⟨k, 0, none⟩ = some (.pointer (some ⟨m, 0, none⟩)) := (hb0.cell (p := ⟨k, 0, none⟩) hklt).trans hk; have hkl0 : k < w0.heap.size := Nat.lt_of_lt_of_le hklt hb0.size) | (refine ⟨trivial, ?_⟩; gi_at_call 66; refine (allP_in Fence.wide 4 trivial hro m _).mono ?_; rintro e w' ⟨rfl, rfl⟩))
  have hs0 := hb0.size
  have bO := (Boxed.new w0 35 (.slice (some ⟨w.heap.size, 0, none⟩) 0 Ls.length)).alloc (.cells #[.pointer (some ⟨m, 0, none⟩)] 121)
  have bN := Boxed.new (w0.alloc (.cells #[.slice (some ⟨w.heap.size, 0, none⟩) 0 Ls.length] 35)) 121 (.pointer (some ⟨m, 0, none⟩))
  simp only [World.size_alloc] at bO bN
  have hB0 : Below w.heap.size w ((w0.alloc (.cells #[.slice (some ⟨w.heap.size, 0, none⟩) 0 Ls.length] 35)).alloc (.cells #[.pointer (some ⟨m, 0, none⟩)] 121)) := (hb0.alloc hs0 _).alloc (by simp; omega) _
  have hsz0 : ((w0.alloc (.cells #[.slice (some ⟨w.heap.size, 0, none⟩) 0 Ls.length] 35)).alloc (.cells #[.pointer (some ⟨m, 0, none⟩)] 121)).heap.size = w0.heap.size + 2 := by simp
  have hcm := (hB0.cell (p := ⟨m, 1, none⟩) hmlt).trans hm
  have hO0 := (hown0.alloc (.cells #[.slice (some ⟨w.heap.size, 0, none⟩) 0 Ls.length] 35)).alloc (.cells #[.pointer (some ⟨m, 0, none⟩)] 121)
  rw [List.length_map] at hrow
  refine wpIn_rangeFunc_ownH hro (by omega) (gf := 112) (lb := #[.pointer (some ⟨w0.heap.size + 1, 0, none⟩)]) rfl trivial (enters_of Tryz.func112 (by kernel_rfl) rfl)
    (allP_stops Fence.wide 4 trivial hro (by omega) (w0.heap.size + 1) m w.heap.size (.slice ra Ls.length rcap) Ls hlen _ (by omega) hmlt (by omega) bN.cell hcm (hrow.below hB0)) belowK_t (belowK_b (by omega)) (Below.refl _ _) (fun _ => rfl)
    (fun pre W => (∃ v, Boxed W w0.heap.size 35 v ∧ W.ownsRow w.heap.size 134 4 v pre.length (rowP (pre.map (·.1))) ∧ v ≠ .slice none 0 0) ∧ Below w.heap.size w W)
    (fun _ _ _ => False)
    (OwnFrom.and (Own.from (holdsRow_own w.heap.size w0.heap.size 35 134 4 (fun (pre : List { _e : Mc // True }) => pre.length) (fun pre => rowP (pre.map (·.1))) (fun _ v => v ≠ .slice none 0 0)) _) (ownFrom_below (Nat.le_refl _) (by omega)))
    (fun _ _ _ _ _ hs _ _ => hs)
    ⟨⟨_, bO, hO0, by simp⟩, hB0⟩
    (fun x a' W => ∃ Bx By, w0.heap.size < Bx ∧ w0.heap.size < By ∧ BlkAt W Bx #[.int .i64 x.1.vlan, .string x.1.mac] 129 ∧ BlkAt W By #[.int .i64 x.1.port, .int .i64 x.1.age] 131 ∧ a' = { tmps := #[.pointer (some ⟨k, 0, none⟩), undef, .slice none 0 0, .pointer (some ⟨w0.heap.size, 0, none⟩), .pointer (some ⟨Bx, 0, none⟩), .pointer (some ⟨By, 0, none⟩), .pointer (some ⟨k, 0, none⟩), .pointer (some ⟨k, 0, none⟩), .pointer (some ⟨k, 0, none⟩), .pointer (some ⟨m, 0, none⟩), .int .i64 Ls.length, .slice (some ⟨w.heap.size, 0, none⟩) 0 Ls.length, .pointer (some ⟨k, 0, none⟩), .pointer (some ⟨k, 0, none⟩), .pointer (some ⟨k, 0, none⟩), .pointer (some ⟨m, 0, none⟩), .func (.func 112) #[] #[.pointer (some ⟨w0.heap.size + 1, 0, none⟩)], .agg #[.int .i64 x.1.vlan, .string x.1.mac], .agg #[.int .i64 x.1.port, .int .i64 x.1.age], undef, undef, undef, undef, undef, undef, undef, undef, undef, undef, undef, undef, undef], defers := [] })
    (fun x a' _ X Y row hs hg hr => by obtain ⟨Bx, By, h1, h2, h3, h4, h5⟩ := hs; exact ⟨Bx, By, h1, h2, BlkAt.own Bx _ _ () X Y row h3 hg (fun r e => (hr r e).2), BlkAt.own By _ _ () X Y row h4 hg (fun r e => (hr r e).2), h5⟩)
    ?assign ?body ?done ?stop
  case assign =>
    rintro l pre x W K ⟨⟨v, bS1, hR1, hv1⟩, hB1⟩ hK
    simp only [encP]
    gi_wp2
    have hsW := hB1.size
    have hlt := bS1.lt
    have bY : BlkAt ((W.alloc (.cells #[.int .i64 x.1.vlan, .string x.1.mac] 129)).alloc (.cells #[.int .i64 x.1.port, .int .i64 x.1.age] 131)) (W.heap.size + 1) #[.int .i64 x.1.port, .int .i64 x.1.age] 131 := by
      have := BlkAt.new (W.alloc (.cells #[.int .i64 x.1.vlan, .string x.1.mac] 129)) #[.int .i64 x.1.port, .int .i64 x.1.age] 131
      rwa [World.size_alloc] at this
    exact hK _ _ (((KeepsOthers.alloc _ _).trans (KeepsOthers.alloc _ _)).from _) (((Below.refl _ W).alloc hsW _).alloc (by simp; omega) _) ⟨⟨v, (bS1.alloc _).alloc _, (hR1.alloc _).alloc _, hv1⟩, (hB1.alloc hsW _).alloc (by simp; omega) _⟩ ⟨W.heap.size, W.heap.size + 1, by omega, by omega, (BlkAt.new W _ _).alloc _, bY, rfl⟩
  case body =>
    rintro l pre x a' W hl ⟨r, hr⟩ ⟨⟨v, hv, hrow', hnn⟩, hB⟩ ⟨Bx, By, hBx, hBy, bX, bY, rfl⟩ hlt
    have hc0 := hv.cell
    have x0 : W.cell? ⟨Bx, 0, none⟩ = some (.int .i64 x.1.vlan) := bX.cell rfl
    have x1 : W.cell? ⟨Bx, 1, none⟩ = some (.string x.1.mac) := bX.cell rfl
    have y0 : W.cell? ⟨By, 0, none⟩ = some (.int .i64 x.1.port) := bY.cell rfl
    have y1 : W.cell? ⟨By, 1, none⟩ = some (.int .i64 x.1.age) := bY.cell rfl
    have HV := hide hv
    have HR := hide hrow'
    have HB := hide hB
    have hsW := hB.size
    clear hv hrow' hB bX bY hr
    gi_wp2_with (gi_at_builtin; refine wpListIn_append_own _ rfl _ _ 35 rfl w.heap.size 134 i0 _ 4 40 Tryz.underlying35 hi hz0 hz1 hz2 rfl (by decide) _ _ _ rfl (HR.out.alloc _) ⟨W.heap.size, 0, none⟩ 1 1 (rowP [x.1]) rfl rfl (World.news_of_block (cs := #[.int .i64 x.1.vlan, .string x.1.mac, .int .i64 x.1.port, .int .i64 x.1.age]) (t := 134) (fr := (0, 0)) (World.alloc_heap_new W _)) (rowP_one _) (by unfold maxLen; omega) (by omega) (by simp; omega) ?_; intro v' w2 hown' hgrow _; obtain ⟨g', cap', rfl⟩ := ownsRow_succ hown'; obtain ⟨hv2, hv3, hr3, hk3, hb3⟩ := HV.out.appended (by decide) HR.out HB.out.size hs0 hown' hgrow; have hc2 := hv2.cell; have hf2 := hv2.frozen)
    exact ⟨hk3.from _, hb3, ⟨⟨_, hv3, by rw [List.map_append, rowP_append, List.length_append]; exact hr3, by simp⟩, HB.out.trans hb3⟩⟩
  case done =>
    rintro D ys W hD rfl ⟨⟨v, hv, hrow', hnn⟩, hB⟩ hK
    obtain ⟨g, cp, rfl⟩ := ownsRow_someP hrow' hnn
    have hcv := hv.cell
    have HR := hide hrow'
    have HB := hide hB
    have HK := hide hK
    have HD := hide hD
    clear hv hrow' hnn hB hK hD bO bN hB0 hsz0 hcm hO0
    gi_wp2
    have HK2 := HK.out
    refine ⟨by simp, .inl ⟨_, _, rfl, run_takeDeferred HK2, ?_⟩⟩
    have hg := grownBy_putObj' W D (.deferred none)
    have hD2 : w.heap.size ≤ D := by have := HD.out; simp at this; omega
    refine ⟨_, results_tmp rfl _ _ _, g, cp, rfl, HR.out.kept hg (.inr ?_), HB.out.grown hg HB.out.size (fun x hx => by cases hx; exact hD2)⟩
    intro e
    rcases HR.out.2 with ⟨e2, _⟩ | ⟨g2, cap2, cur, e2, _, hg2, _⟩
    · cases e2
    · cases e2
      cases e
      rw [hg2] at HK2
      cases HK2
  case stop =>
    rintro D c pre W _ _ h _
    exact h.elim

theorem mAll_any (k m : Nat) (sv : Value) (K : List Mc) (w : World) (h : KnownAt w k m sv K) :
    Calls Tryz.prog 31 #[.pointer (some ⟨k, 0, none⟩)] w fun e w' => ∃ g cap, e = .returned (.slice (some ⟨g, 0, none⟩) K.length cap) ∧ w'.ownsRow w.heap.size 134 4 (.slice (some ⟨g, 0, none⟩) K.length cap) K.length (rowP K) ∧ Below w.heap.size w w' := by
  have eL : (K.map fun e => (⟨e, trivial⟩ : { _e : Mc // True })).map (·.1) = K := by
    clear h
    induction K with
    | nil => rfl
    | cons e t ih => exact congrArg (e :: ·) ih
  have hC := macs_walk k m sv w (K.map fun e => ⟨e, trivial⟩) (by rw [List.length_map]; exact h.2.2.1.1.2.2.2.2) h.1 h.2.2.1.1.2.1 (by rw [eL]; exact h.2.2.1.row (Nat.le_refl _))
  rw [eL, List.length_map] at hC
  exact hC
end Go.Proofs.YtaejpejfmpbinaaGreatDoor
