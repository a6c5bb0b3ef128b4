import Derived.Test.YtnjalelblbjfiaaGreatDoorP26
import Derived.Test.YtnjalelblbjfiaaGreatDoorP23
import Derived.Test.YtnjalelblbjfiaaGreatDoorP11
import Derived.Test.YtnjalelblbjfiaaGreatDoorP24
import Derived.Test.YtnjalelblbjfiaaGreatDoorP25
namespace Go.Proofs.YtnjalelblbjfiaaGreatDoor
open Go.RowKit Go.Maps

/-- The cells of ports. -/
def rowQ (Q : List (Int × Value)) : List Value := Q.flatMap fun e => [.int .i64 e.1, e.2]
theorem rowQ_append (a b : List (Int × Value)) : rowQ (a ++ b) = rowQ a ++ rowQ b := List.flatMap_append
theorem rowQ_get : ∀ (Q : List (Int × Value)) (k : Nat) (hk : k < Q.length), (rowQ Q)[k * 2]? = some (.int .i64 Q[k].1) ∧ (rowQ Q)[k * 2 + 1]? = some Q[k].2
  | [], k, hk => absurd hk (by simp)
  | p :: t, 0, _ => ⟨rfl, rfl⟩
  | p :: t, k + 1, hk => by
    have ih := rowQ_get t k (by simpa using hk)
    have e1 : (k + 1) * 2 = k * 2 + 1 + 1 := by omega
    have e2 : (k + 1) * 2 + 1 = (k * 2 + 1) + 1 + 1 := by omega
    rw [e2, e1]
    exact ih
theorem rowQ_set : ∀ (Q : List (Int × Value)) (i : Nat) (_ : i < Q.length) (e : Int × Value), rowQ (Q.set i e) = ((rowQ Q).set (i * 2) (.int .i64 e.1)).set (i * 2 + 1) e.2
  | [], i, hi, _ => absurd hi (by simp)
  | p :: t, 0, _, e => by simp [rowQ]
  | p :: t, i + 1, hi, e => by
    have ih := rowQ_set t i (by simpa using hi) e
    have e1 : (i + 1) * 2 = i * 2 + 1 + 1 := by omega
    have e2 : (i + 1) * 2 + 1 = (i * 2 + 1) + 1 + 1 := by omega
    rw [e2, e1]
    show _ :: _ :: rowQ (t.set i e) = _
    rw [ih]
    rfl

/-- The ports of a switch, in an array of their own. -/
structure PortsO (w : World) (pv : Value) (P : List Prt) (Q : List (Int × Value)) : Prop where
  len : Q.length = P.length
  own : w.ownsRow 0 143 2 pv P.length (rowQ Q)
  each : ∀ j (h : j < P.length), Q[j].1 = P[j].nat ∧ TagAt w Q[j].2 P[j].tg

theorem PortsO.at {w : World} {pv : Value} {P : List Prt} {Q : List (Int × Value)} (h : PortsO w pv P Q) : PortsAt w pv P := by
  have hl := h.len
  rcases h.own.2 with ⟨hv, h0⟩ | ⟨g, cap, cur, hv, _⟩
  · exact ⟨none, 0, 0, by rw [hv, h0], fun j hj => by omega⟩
  · refine ⟨_, cap, g, hv, fun j hj => ⟨rfl, ?_⟩⟩
    have ho := h.own
    rw [hv] at ho
    have hq := rowQ_get Q j (by omega)
    have he := h.each j hj
    refine ⟨?_, Q[j].2, (ho.cellAt _ (by omega)).trans hq.2, he.2⟩
    rw [← he.1]
    exact (ho.cellAt _ (by omega)).trans hq.1

theorem PortsO.keep {w w' : World} {pv : Value} {P : List Prt} {Q : List (Int × Value)} (h : PortsO w pv P Q) (hp : ∀ b, pv.ownBlock = some b → w'.heap[b]? = w.heap[b]?) (hk : ∀ (b : Nat) (o : Obj), w.heap[b]? = some o → o.isCells = false → w'.heap[b]? = some o) : PortsO w' pv P Q :=
  ⟨h.len, ownsRow_blk h.own hp, fun j hj => ⟨(h.each j hj).1, (h.each j hj).2.same hk⟩⟩
theorem PortsO.below {w w' : World} {pv : Value} {P : List Prt} {Q : List (Int × Value)} (h : PortsO w pv P Q) (hb : Below w.heap.size w w') : PortsO w' pv P Q :=
  h.keep (fun b hb' => hb.block b (ownsRow_lt h.own hb').2) fun b _ ho _ => (hb.block b (lt_of_heap ho)).trans ho

theorem PortsO.set {w : World} {g cap : Nat} {P : List Prt} {Q : List (Int × Value)} (h : PortsO w (.slice (some ⟨g, 0, none⟩) P.length cap) P Q) {i : Nat} (hi : i < P.length) {x : Int} {mv : Value} {tg : Int → Bool} (ht : TagAt w mv tg) :
    PortsO ((w.setCell ⟨g, i * 2, none⟩ (.int .i64 x)).setCell ⟨g, i * 2 + 1, none⟩ mv) (.slice (some ⟨g, 0, none⟩) P.length cap) (P.set i ⟨x, tg⟩) (Q.set i (x, mv)) := by
  have hl := h.len
  have hcl : ∃ cs t fr, w.heap[g]? = some (.cells cs t fr) := by
    rcases h.own.2 with ⟨e, _⟩ | ⟨g', cap', cur, e, _, hg, _⟩
    · cases e
    · cases e; exact ⟨_, _, _, hg⟩
  have hk : ∀ (b : Nat) (o : Obj), w.heap[b]? = some o → o.isCells = false → ((w.setCell ⟨g, i * 2, none⟩ (.int .i64 x)).setCell ⟨g, i * 2 + 1, none⟩ mv).heap[b]? = some o := by
    intro b o ho hc
    have hne : b ≠ g := by
      rintro rfl
      obtain ⟨cs, t, fr, e⟩ := hcl
      rw [e] at ho; cases ho; cases hc
    exact ((heap_setCell_other _ _ _ _ hne).trans (heap_setCell_other _ _ _ _ hne)).trans ho
  refine ⟨by simp [hl], ?_, fun j hj => ?_⟩
  · rw [List.length_set, rowQ_set Q i (by omega)]
    exact ownsRow_set (ownsRow_set h.own (j := i * 2) (by omega) _) (j := i * 2 + 1) (by omega) _
  · rw [List.length_set] at hj
    rw [List.getElem_set, List.getElem_set]
    split
    · exact ⟨rfl, ht.same hk⟩
    · exact ⟨(h.each j hj).1, (h.each j hj).2.same hk⟩

/-- The maps of tags are those that were, or new. -/
def NewTags (w : World) (Q Q' : List (Int × Value)) : Prop := ∀ p : Int × Value, p ∈ Q' → p ∈ Q ∨ ∃ b, p.2 = .map (some b) ∧ w.heap.size ≤ b
theorem NewTags.same (w : World) (Q : List (Int × Value)) : NewTags w Q Q := fun _ h => .inl h
theorem NewTags.set {w : World} (Q : List (Int × Value)) (i : Nat) (x : Int) {b : Nat} (hb : w.heap.size ≤ b) : NewTags w Q (Q.set i (x, .map (some b))) := fun p hp => by
  rcases List.mem_or_eq_of_mem_set hp with h | h
  · exact .inl h
  · exact .inr ⟨b, by rw [h], hb⟩
/-- What Port answers. -/
def portRes (P : List Prt) (q nat : Int) (T : List Int) : Int := if decide (0 ≤ q) && decide (q < P.length) then (if portOk nat T then 0 else 2) else 1
/-- The ports behind it. -/
def portSet (P : List Prt) (q nat : Int) (T : List Int) : List Prt := if portRes P q nat T = 0 then P.set q.toNat ⟨nat, tgOf T⟩ else P

set_option maxRecDepth 100000 in
set_option maxHeartbeats 2000000 in
theorem sPort_any (s : Nat) (pv : Value) (P : List Prt) (Q : List (Int × Value)) (q nat : Int) (T : List Int) (tv : Value) (w : World) (h0 : w.cell? ⟨s, 0, none⟩ = some pv) (hp : PortsO w pv P Q) (hT : NumsAt w tv T) (hw : ∀ t ∈ T, (Lit.int .i64 t).wf = true) (hl : T.length < 1000000000000) :
    Calls Tryz.prog 22 #[.pointer (some ⟨s, 0, none⟩), .int .i64 q, .int .i64 nat, tv] w fun e w' => e = .returned (.int .i64 (portRes P q nat T)) ∧ (∃ Q', PortsO w' pv (portSet P q nat T) Q' ∧ NewTags w Q Q') ∧ Chg (fun b => pv.ownBlock = some b) w w' := by
  have CH := hide (hasPort_any s pv P q w h0 hp.at)
  have CP := hide (portOf_any nat T tv w hT hw hl)
  by_cases hq : 0 ≤ q ∧ q < P.length
  · have hd : (decide (0 ≤ q) && decide (q < P.length)) = true := by simp [hq.1, hq.2]
    obtain ⟨i, rfl⟩ : ∃ i : Nat, q = i := ⟨q.toNat, by omega⟩
    have hi : i < P.length := by omega
    rw [hd] at CH
    unfold PoR at CP
    have er : portRes P i nat T = if portOk nat T then 0 else 2 := by unfold portRes; rw [hd]; rfl
    cases hk : portOk nat T with
    | false =>
      simp only [hk] at CP
      rw [hk] at er
      have es : portSet P i nat T = P := by unfold portSet; rw [er]; rfl
      rw [er, es]
      have HP := hide hp
      clear hp hT hw er es hd hq
      go_enter Tryz.func22, Tryz.ntmps22
      go_wp2_with fail
      refine CH.out.mono ?_
      rintro e w1 ⟨rfl, rfl⟩
      go_wp2_with fail
      refine CP.out.mono ?_
      rintro e w2 ⟨hb2, rfl⟩
      go_wp2
      go_ret
      have hB : Below w1.heap.size w1 (w2.alloc (.cells #[.int .i64 0, .map none] 143)) := hb2.alloc hb2.size _
      exact ⟨rfl, ⟨Q, HP.out.below hB, NewTags.same _ _⟩, Chg.of_below hB⟩
    | true =>
      simp only [hk, if_true] at CP
      rw [hk] at er
      have es : portSet P i nat T = P.set i ⟨nat, tgOf T⟩ := by unfold portSet; rw [er]; simp
      rw [er, es]
      have hpv : ∃ g cap, pv = .slice (some ⟨g, 0, none⟩) P.length cap ∧ g < w.heap.size := by
        rcases hp.own.2 with ⟨e, h'⟩ | ⟨g, cap, cur, e, _, hg, _⟩
        · omega
        · exact ⟨g, cap, e, lt_of_heap hg⟩
      obtain ⟨g, cap, rfl, hglt⟩ := hpv
      have hslt := block_lt_of_cell h0
      have hii : (i : Int) < P.length := by omega
      have hi0 : (0 : Int) ≤ i := by omega
      have HP := hide hp
      clear hp hT hw er es hd hq
      go_enter Tryz.func22, Tryz.ntmps22
      go_wp2_with fail
      refine CH.out.mono ?_
      rintro e w1 ⟨rfl, rfl⟩
      go_wp2_with fail
      refine CP.out.mono ?_
      rintro e w2 ⟨hb2, Bm, hBm, rfl, hTag⟩
      obtain ⟨W, hW⟩ : ∃ W, W = w2.alloc (.cells #[.int .i64 nat, .map (some Bm)] 143) := ⟨_, rfl⟩
      have hB : Below w1.heap.size w1 W := by rw [hW]; exact hb2.alloc hb2.size _
      have hblk : W.heap[w2.heap.size]? = some (.cells #[.int .i64 nat, .map (some Bm)] 143 (0, 0)) := by rw [hW]; exact World.alloc_heap_new w2 _
      have b0 : W.cell? ⟨w2.heap.size, 0, none⟩ = some (.int .i64 nat) := by simp [World.cell?, hblk]
      have b1 : W.cell? ⟨w2.heap.size, 1, none⟩ = some (.map (some Bm)) := by simp [World.cell?, hblk]
      have hTW : TagAt W (.map (some Bm)) (tgOf T) := by rw [hW]; exact hTag.below ((Below.refl _ w2).alloc (Nat.le_refl _) _)
      have s0 := cell_later hB h0
      have PW := HP.out.below hB
      have hcs := PW.at
      obtain ⟨a', cap', b', e', hc'⟩ := hcs
      cases e'
      obtain ⟨eg, c0, mv, c1, _⟩ := hc' i hi
      cases eg
      have f0 := ownsRow_frozen PW.own (i * 2)
      have f1 := ownsRow_frozen PW.own (i * 2 + 1)
      have HS := hide (PW.set (x := nat) hi hTW)
      have hX : (fun b => (Value.slice (some ⟨g, 0, none⟩) P.length cap).ownBlock = some b) g := rfl
      have HC := hide (Chg.setCell (p := ⟨g, i * 2 + 1, none⟩) (Chg.setCell (p := ⟨g, i * 2, none⟩) (Chg.of_below (X := fun b => (Value.slice (some ⟨g, 0, none⟩) P.length cap).ownBlock = some b) hB) (.inl hX) (.int .i64 nat)) (.inl hX) (.map (some Bm)))
      have hgn : ¬ g = w2.heap.size := by have := hb2.size; omega
      have hgn2 : ¬ w2.heap.size = g := by have := hb2.size; omega
      have hgW : g < W.heap.size := by have := hB.size; omega
      have HW := hide hW
      have HBm := hide hBm
      clear hW hblk hTW hB hb2 PW hc' CP CH hTag
      go_wp2
      rw [← HW.out]
      go_region
      go_wp2
      go_ret
      exact ⟨rfl, ⟨_, HS.out.below ((Below.refl _ _).drew), NewTags.set _ _ _ HBm.out⟩, HC.out.drew.mono fun _ _ hx => by simpa [Value.ownBlock] using hx⟩
  · have hd : (decide (0 ≤ q) && decide (q < P.length)) = false := by
      rw [← Bool.not_eq_true, Bool.and_eq_true, decide_eq_true_eq, decide_eq_true_eq]; exact hq
    rw [hd] at CH
    have er : portRes P q nat T = 1 := by unfold portRes; rw [hd]; rfl
    have es : portSet P q nat T = P := by unfold portSet; rw [er]; rfl
    rw [er, es]
    have HP := hide hp
    clear hp hT hw er es hd hq CP
    go_enter Tryz.func22, Tryz.ntmps22
    go_wp2_with fail
    refine CH.out.mono ?_
    rintro e w1 ⟨rfl, rfl⟩
    go_wp2
    go_ret
    exact ⟨rfl, ⟨Q, HP.out, NewTags.same _ _⟩, Chg.of_below (Below.refl _ _)⟩
end Go.Proofs.YtnjalelblbjfiaaGreatDoor

namespace Go.Proofs.YtnjalelblbjfiaaGreatDoor
open Go.RowKit Go.Maps

theorem newFc_any (w : World) : Calls Tryz.prog 52 #[.func (.func 33) #[] #[]] w fun e w' => e = .returned (.pointer (some ⟨w.heap.size, 0, none⟩)) ∧ w' = w.alloc (.cells #[.func (.func 33) #[] #[], .slice none 0 0] 201) := by
  go_enter Tryz.func52, Tryz.ntmps52
  go_wp2
  go_ret
  exact ⟨rfl, rfl⟩
theorem newH_any (w : World) : Calls Tryz.prog 100 #[.func (.func 101) #[] #[]] w fun e w' => e = .returned (.pointer (some ⟨w.heap.size, 0, none⟩)) ∧ w' = w.alloc (.cells #[.func (.func 101) #[] #[], .slice none 0 0] 284) := by
  go_enter Tryz.func100, Tryz.ntmps100
  go_wp2
  go_ret
  exact ⟨rfl, rfl⟩
theorem rNew_any (w : World) : Calls Tryz.prog 53 #[] w fun e w' => e = .returned (.pointer (some ⟨w.heap.size + 1, 0, none⟩)) ∧ w' = (w.alloc (.cells #[.func (.func 101) #[] #[], .slice none 0 0] 284)).alloc (.cells #[.pointer (some ⟨w.heap.size, 0, none⟩)] 211) := by
  have C := hide (newH_any w)
  go_enter Tryz.func53, Tryz.ntmps53
  go_wp2_with fail
  refine C.out.mono ?_
  rintro e w1 ⟨rfl, rfl⟩
  go_wp2
  go_ret
  exact ⟨rfl, rfl⟩

/-- The cells of a switch. -/
def swCells (pv : Value) (fb rb t vb k : Nat) : Array Value := #[pv, .pointer (some ⟨fb, 0, none⟩), .pointer (some ⟨rb, 0, none⟩), .pointer (some ⟨t, 0, none⟩), .map (some vb), .pointer (some ⟨k, 0, none⟩)]

/-- All that a new switch has but its ports. -/
structure NewAt (w : World) (fb rb hb t vb k m : Nat) (F : Nat → Prop) (W : World) : Prop where
  nf : W.heap[fb]? = some (.cells #[.func (.func 33) #[] #[], .slice none 0 0] 201 (0, 0))
  nr : W.heap[rb]? = some (.cells #[.pointer (some ⟨hb, 0, none⟩)] 211 (0, 0))
  nh : W.heap[hb]? = some (.cells #[.func (.func 101) #[] #[], .slice none 0 0] 284 (0, 0))
  nt : TabIs W t F []
  nv : W.heap[vb]? = some (.map #[] 0)
  nk : KnownAt W k m (.slice none 0 0) []
  lo : Below w.heap.size w W
  lf : w.heap.size ≤ fb
  lr : w.heap.size ≤ rb
  lh : w.heap.size ≤ hb
  lt : ∀ x, F x → w.heap.size ≤ x
  lv : w.heap.size ≤ vb
  lk : w.heap.size ≤ k
  lm : w.heap.size ≤ m
  tw : ∃ W0, TabIs W0 t F [] ∧ Below W0.heap.size W0 W ∧ W0.heap.size ≤ k ∧ W0.heap.size ≤ m
  lg : ∀ x, F x → fb < x
  k1 : W.cell? ⟨k, 1, none⟩ = none

/-- While the ports are made. -/
structure NewI (w : World) (fb rb hb t vb k m : Nat) (F : Nat → Prop) (Wb : World) (j : Nat) (W : World) : Prop where
  n : NewAt w fb rb hb t vb k m F Wb
  s : ∃ pv, W.heap[Wb.heap.size]? = some (.cells (swCells pv fb rb t vb k) 140 (0, 0)) ∧ W.ownsRow (Wb.heap.size + 1) 143 2 pv j (rowQ (List.replicate j (1, .map none)))
  lo : Below Wb.heap.size Wb W

theorem infoPort : (Tryz.prog.info? 143).map (fun i => (i.zero, i.size, i.bytes)) = some (some (.agg #[.int .i64 0, .map none]), 2, 16) := by kernel_rfl

set_option maxRecDepth 100000 in
set_option maxHeartbeats 2000000 in
theorem sNew_any (n : Nat) (w : World) (hn : 1 ≤ n) (hn8 : n ≤ 8) (hl : Laid w) :
    Calls Tryz.prog 19 #[.int .i64 n] w fun e w' => ∃ fb rb hb t vb k m F Wb, e = .returned (.tuple #[.pointer (some ⟨Wb.heap.size, 0, none⟩), .int .i64 0]) ∧ NewI w fb rb hb t vb k m F Wb n w' := by
  have CF := hide newFc_any
  have CR := hide rNew_any
  have CT := hide tnew_any
  have CM := hide mNew_any
  obtain ⟨i0, hi, hz0, hz1, hz2⟩ := info_parts infoPort
  have hmm := @run_makeMap Tryz.prog
  have a1 : ¬ (n : Int) < 1 := by omega
  have a2 : ¬ (8 : Int) < n := by omega
  have HL := hide hl
  clear hl
  go_enter Tryz.func19, Tryz.ntmps19
  go_wp2_with fail
  refine (CF.out _).mono ?_
  rintro e w1 ⟨rfl, rfl⟩
  go_wp2_with fail
  refine (CR.out _).mono ?_
  rintro e w1 ⟨rfl, rfl⟩
  go_wp2_with fail
  obtain ⟨W2, hW2⟩ : ∃ W2, W2 = ((w.alloc (.cells #[.func (.func 33) #[] #[], .slice none 0 0] 201)).alloc (.cells #[.func (.func 101) #[] #[], .slice none 0 0] 284)).alloc (.cells #[.pointer (some ⟨w.heap.size + 1, 0, none⟩)] 211) := ⟨_, rfl⟩
  have hB2 : Below w.heap.size w W2 := by rw [hW2]; exact (((Below.refl _ w).alloc (Nat.le_refl _) _).alloc (by simp) _).alloc (by simp; omega) _
  have hs2 : W2.heap.size = w.heap.size + 3 := by rw [hW2]; simp
  have bf : W2.heap[w.heap.size]? = some (.cells #[.func (.func 33) #[] #[], .slice none 0 0] 201 (0, 0)) := by
    rw [hW2]
    exact ((((Below.refl _ (w.alloc _)).alloc (Nat.le_refl _) _).alloc (by simp) _).block _ (by simp)).trans (World.alloc_heap_new w _)
  have bh : W2.heap[w.heap.size + 1]? = some (.cells #[.func (.func 101) #[] #[], .slice none 0 0] 284 (0, 0)) := by
    rw [hW2]
    have := World.alloc_heap_new (w.alloc (.cells #[.func (.func 33) #[] #[], .slice none 0 0] 201)) (.cells #[.func (.func 101) #[] #[], .slice none 0 0] 284)
    rw [World.size_alloc] at this
    exact (((Below.refl _ ((w.alloc _).alloc _)).alloc (Nat.le_refl _) _).block _ (by simp)).trans this
  have br : W2.heap[w.heap.size + 2]? = some (.cells #[.pointer (some ⟨w.heap.size + 1, 0, none⟩)] 211 (0, 0)) := by
    rw [hW2]
    have := World.alloc_heap_new ((w.alloc (.cells #[.func (.func 33) #[] #[], .slice none 0 0] 201)).alloc (.cells #[.func (.func 101) #[] #[], .slice none 0 0] 284)) (.cells #[.pointer (some ⟨w.heap.size + 1, 0, none⟩)] 211)
    rwa [World.size_alloc, World.size_alloc] at this
  rw [← hW2]
  refine (CT.out W2 (HL.out.below hB2 HL.out.pos)).mono ?_
  rintro e w3 ⟨t, F, rfl, hT, hF, hb3⟩
  have HW2 := hide hW2
  clear hW2 CT CF CR
  go_wp2_with fail
  refine (CM.out _).mono ?_
  rintro e w4 ⟨k, m, rfl, hk, hm, hK, hb4, hk1⟩
  have hs3 := hb3.size
  have hb34 : Below w3.heap.size w3 w4 := ((Below.refl _ w3).alloc (Nat.le_refl _) _).trans (hb4.mono (by simp))
  have hb24 : Below W2.heap.size W2 w4 := hb3.trans (hb34.mono hs3)
  simp only [World.size_alloc] at hk hm
  have HN : Hid (NewAt w w.heap.size (w.heap.size + 2) (w.heap.size + 1) t w3.heap.size k m F w4) := hide
    ⟨(hb24.block _ (by omega)).trans bf, (hb24.block _ (by omega)).trans br, (hb24.block _ (by omega)).trans bh, hT.still hb34, (hb4.block _ (by simp)).trans (World.alloc_heap_new w3 _), hK, hB2.trans (hb24.mono (by omega)), Nat.le_refl _, by omega, by omega, fun x hx => by have := hF x hx; omega, by omega, by omega, by omega, ⟨w3, hT, hb34, by omega, by omega⟩, (fun x hx => by have := hF x hx; omega), hk1⟩
  have HI : Hid (NewI w w.heap.size (w.heap.size + 2) (w.heap.size + 1) t w3.heap.size k m F w4 0 (w4.alloc (.cells (swCells (.slice none 0 0) w.heap.size (w.heap.size + 2) t w3.heap.size k) 140))) := hide
    ⟨HN.out, ⟨_, World.alloc_heap_new w4 _, World.ownsRow_nil _ _ _ _⟩, (Below.refl _ w4).alloc (Nat.le_refl _) _⟩
  clear CM HL hb24 hb34 hb4 hb3 hT hF hK hk1 bf bh br hB2 HN HW2
  go_wp2
  go_loopw [19] (fun i wr => ∃ j : Nat, j ≤ n ∧ i = .int .i64 j ∧ Hid (NewI w w.heap.size (w.heap.size + 2) (w.heap.size + 1) t w3.heap.size k m F w4 j wr)) (fun i _ => n - (intOf i).toNat)
  case atStart => exact ⟨0, Nat.zero_le _, rfl, HI⟩
  case round =>
    obtain ⟨j, hj, rfl, hI⟩ := hrel
    clear HI
    obtain ⟨pv, hS, hO⟩ := hI.out.s
    have s0 : wr.cell? ⟨w4.heap.size, 0, none⟩ = some pv := by simp [World.cell?, hS, swCells]
    have hsz := hI.out.lo.size
    have hslt : w4.heap.size < wr.heap.size := lt_of_heap hS
    by_cases hlt : j < n
    · have hji : (j : Int) < n := by omega
      have HS := hide hS
      have HO := hide hO
      clear hS hO
      go_wp2_with (at_builtin; refine wpList_append_own _ rfl _ _ 138 rfl (w4.heap.size + 1) 143 i0 _ 2 16 Tryz.underlying138 hi hz0 hz1 hz2 rfl (by decide) _ _ _ rfl (HO.out.alloc _) ⟨wr.heap.size, 0, none⟩ 1 1 [.int .i64 1, .map none] rfl rfl (World.news_of_block (cs := #[.int .i64 1, .map none]) (t := 143) (fr := (0, 0)) (World.alloc_heap_new wr _)) (by simp [Value.oneCell']) (by unfold maxLen; omega) (by omega) (by simp; omega) ?_; intro v' w2 hown' hgrow _; obtain ⟨g', cap', rfl⟩ := ownsRow_succ hown'; have hb2 : w2.heap[w4.heap.size]? = some (.cells (swCells pv w.heap.size (w.heap.size + 2) t w3.heap.size k) 140 (0, 0)) := (hgrow.block _ (by simp; omega) (fun e => by have := (ownsRow_lt HO.out e.symm).1; omega)).trans (((Below.refl _ wr).alloc (Nat.le_refl _) _).block _ hslt |>.trans HS.out); have c2 : w2.cell? ⟨w4.heap.size, 0, none⟩ = some pv := (by simp [World.cell?, hb2, swCells]); have f2 : w2.frozen? ⟨w4.heap.size, 0, none⟩ = false := (by simp [World.frozen?, hb2]))
      have hrow : rowQ (List.replicate j (1, .map none)) ++ [.int .i64 1, .map none] = rowQ (List.replicate (j + 1) (1, .map none)) := by rw [List.replicate_succ', rowQ_append]; rfl
      rw [hrow] at hown'
      have hlo : Below w4.heap.size w4 w2 := (hI.out.lo.alloc hsz _).grown hgrow (by simp; omega) (fun x hx => by have := (ownsRow_lt HO.out hx).1; omega)
      have HN : Hid (NewI w w.heap.size (w.heap.size + 2) (w.heap.size + 1) t w3.heap.size k m F w4 (j + 1) (w2.setCell ⟨w4.heap.size, 0, none⟩ (.slice (some ⟨g', 0, none⟩) (j + 1) cap'))) := hide
        ⟨hI.out.n, ⟨_, (heap_setCell_same _ _ 0 _ _ _ hb2).trans (by simp [swCells]), ownsRow_blk hown' fun b hb => heap_setCell_other _ _ _ _ (fun (e : b = w4.heap.size) => by have := (ownsRow_lt hown' hb).1; omega)⟩, hlo.setCell (Nat.le_refl _) _⟩
      clear hown' hgrow hlo hb2
      go_roundw
      case rel => exact ⟨j + 1, by omega, by go_num, HN⟩
      case measure => simp [intOf]; omega
    · obtain rfl : j = n := by omega
      go_wp2
      go_ret2
      exact ⟨_, _, _, _, _, _, _, _, _, rfl, hI.out⟩
end Go.Proofs.YtnjalelblbjfiaaGreatDoor

namespace Go.Proofs.YtnjalelblbjfiaaGreatDoor
open Go.RowKit Go.Maps

set_option maxRecDepth 100000 in
theorem sTick_more (s k m : Nat) (sv : Value) (K : List Mc) (sec : Int) (w : World) (h5 : w.cell? ⟨s, 5, none⟩ = some (.pointer (some ⟨k, 0, none⟩))) (h : KnownAt w k m sv K) (hn : K.length ≤ 199) (hsec : 0 ≤ sec ∧ sec ≤ 1000000) (hy : ∀ e ∈ K, Young e) :
    Calls Tryz.prog 82 #[.pointer (some ⟨s, 0, none⟩), .int .i64 sec] w fun e w' => e = .returned (.int .i64 0) ∧ ∃ m' sv', KnownAt w' k m' sv' (tickL sec K) ∧ w.heap.size ≤ m' ∧ (∀ b, sv'.ownBlock = some b → w.heap.size ≤ b) ∧ Chg (fun b => b = k) w w' ∧ w'.cell? ⟨k, 1, none⟩ = w.cell? ⟨k, 1, none⟩ := by
  have C := hide (mTick_any k m sv K sec w h hn hsec hy)
  have a1 : ¬ sec < 0 := by omega
  have a2 : ¬ (1000000 : Int) < sec := by omega
  clear h hy hsec
  go_enter Tryz.func82, Tryz.ntmps82
  go_wp2_with fail
  refine C.out.mono ?_
  rintro e w1 ⟨rfl, h1⟩
  have H1 := hide h1
  clear h1 C
  go_wp2
  go_ret
  exact ⟨rfl, H1.out⟩

set_option maxRecDepth 100000 in
theorem sTick_no (s : Nat) (sec : Int) (w : World) (hsec : ¬ (0 ≤ sec ∧ sec ≤ 1000000)) :
    Calls Tryz.prog 82 #[.pointer (some ⟨s, 0, none⟩), .int .i64 sec] w fun e w' => e = .returned (.int .i64 9) ∧ w' = w := by
  by_cases a1 : sec < 0
  · clear hsec
    go_enter Tryz.func82, Tryz.ntmps82
    go_wp2
    go_ret
    exact ⟨rfl, rfl⟩
  · have a2 : (1000000 : Int) < sec := by omega
    clear hsec
    go_enter Tryz.func82, Tryz.ntmps82
    go_wp2
    go_ret
    exact ⟨rfl, rfl⟩

set_option maxRecDepth 100000 in
theorem sMacs_any (s k m : Nat) (sv : Value) (K : List Mc) (w : World) (h5 : w.cell? ⟨s, 5, none⟩ = some (.pointer (some ⟨k, 0, none⟩))) (h : KnownAt w k m sv K) :
    Calls Tryz.prog 21 #[.pointer (some ⟨s, 0, none⟩)] w fun e w' => ∃ g cap, e = .returned (.slice (some ⟨g, 0, none⟩) K.length cap) ∧ w'.ownsRow w.heap.size 68 4 (.slice (some ⟨g, 0, none⟩) K.length cap) K.length (rowP K) ∧ Below w.heap.size w w' := by
  have C := hide (mAll_any k m sv K w h)
  clear h
  go_enter Tryz.func21, Tryz.ntmps21
  go_wp2_with fail
  refine C.out.mono ?_
  rintro e w1 ⟨g, cap, rfl, h1, h2⟩
  have H1 := hide h1
  have H2 := hide h2
  clear h1 h2 C
  go_wp2
  go_ret
  exact ⟨g, cap, rfl, H1.out, H2.out⟩
end Go.Proofs.YtnjalelblbjfiaaGreatDoor

namespace Go.Proofs.YtnjalelblbjfiaaGreatDoor
open Go.RowKit

theorem frame_plain {P : List Prt} {K K' : List Mc} {port r : Int} {d : ByteArray} {L : List (Int × ByteArray)} (h : FrameR P K id (fun _ => none) .inr port d r L K') (hp : 0 ≤ port ∧ port < P.length) (hr : fateRead d = -1) {f : Fr} (hf : readF d = some f) (hb : barredAt (pAt P port.toNat) f = false) :
    LearnK K ⟨(pIn P port d f).f.vlan, f.fr, port, 0⟩ K' ∧ L = fwdO P (pIn P port d f) (portOf (known K' (pIn P port d f).f.vlan f.to)) (known K' (pIn P port d f).f.vlan f.to).isSome P.length ∧ r = if L.length = 0 then 8 else 0 := by
  cases h with
  | unknown h => exact absurd hp h
  | bad _ h => exact absurd hr h
  | barred f' _ _ hf' hb' =>
    rw [hf] at hf'
    cases hf'
    rw [hb] at hb'
    cases hb'
  | judged f' K2 r2 L2 _ _ _ _ _ hj => cases hj
  | stopped f' K2 r2 _ _ _ _ _ _ ho => cases ho
  | out f' K2 q _ _ hf' _ hl _ ho =>
    rw [hf] at hf'
    cases hf'
    cases ho
    exact ⟨hl, rfl, rfl⟩

theorem fate_plain (to fr rest : List UInt8) (a b : UInt8) (ht : to.length = 6) (hf : fr.length = 6) (hk : ¬ (a = 129 ∧ b = 0)) (hl : rest.length ≤ 500) (hg : isGrp (ofL fr) = false) : fateRead (ofL (to ++ fr ++ [a, b] ++ rest)) = -1 := by
  unfold fateRead
  rw [if_neg (by rw [ofL_size]; simp; omega), read_plain to fr rest a b ht hf hk]
  show (if isGrp (ofL fr) = true then (2 : Int) else -1) = -1
  rw [hg]; rfl
theorem kind_plain (to fr rest : List UInt8) (a b : UInt8) (ht : to.length = 6) (hf : fr.length = 6) (hk : ¬ (a = 129 ∧ b = 0)) (hk2 : ¬ (a = 8 ∧ b = 0)) : ∀ f, readF (ofL (to ++ fr ++ [a, b] ++ rest)) = some f → (kind2 f.ty == 2) = false := by
  intro f h
  rw [read_plain to fr rest a b ht hf hk] at h
  cases h
  show (kind2 (ofL [a, b]) == 2) = false
  have h1 : ((⟨#[8, 0]⟩ : ByteArray).toList == [a, b]) = false := by
    rw [show (⟨#[8, 0]⟩ : ByteArray) = ofL [8, 0] from rfl, ofL_toList]
    simp only [beq_eq_false_iff_ne, ne_eq, List.cons.injEq, and_true]
    rintro ⟨rfl, rfl⟩
    exact hk2 ⟨rfl, rfl⟩
  unfold kind2 kindN
  rw [ofL_toList, h1]
  simp only [Bool.false_eq_true, if_false]
  split <;> rfl

/-- Four ports of one VLAN. -/
def P4 : List Prt := List.replicate 4 ⟨1, fun _ => false⟩
end Go.Proofs.YtnjalelblbjfiaaGreatDoor
