import Derived.Test.YtaejpejfmpbinaaGreatDoorP19
import Derived.Test.YtaejpejfmpbinaaGreatDoorP17
import Derived.Test.YtaejpejfmpbinaaGreatDoorP15
namespace Go.Proofs.YtaejpejfmpbinaaGreatDoor
open Go.RowKit Go.Maps

theorem take_contains {T : List Int} {k : Nat} (hk : k < T.length) (v : Int) : (T.take (k + 1)).contains v = (v == T[k] || (T.take k).contains v) := by
  rw [List.take_succ_eq_append_getElem hk, Bool.eq_iff_iff]
  simp only [List.contains_iff_mem, List.mem_append, List.mem_singleton, Bool.or_eq_true, beq_iff_eq]
  exact Or.comm
theorem PoI.put {w wr w1 : World} {nat : Int} {T : List Int} {Bm Bp k : Nat} {D : DataW Unit} (h : PoI w nat T Bm Bp k wr) (hD : Maps.IsMap D) (hv : ∀ v, (Lit.int .i64 v).wf = true → Maps.has D (.int .i64 v) = (T.take k).contains v) (hk : k < T.length) (hg : (isV T[k] && !(T[k] == nat || (T.take k).contains T[k])) = true)
    (h1 : w1.ownsMap (H := Unit) Tryz.prog 3 unitElem Bm (k + 1) (D.put (.int .i64 T[k]) (.agg []))) (h2 : wr.grownBy w1 (some Bm)) : PoI w nat T Bm Bp (k + 1) w1 := by
  have l1 : Bp < wr.heap.size := (Array.getElem?_eq_some_iff.1 h.bp).1
  have l2 : w.heap.size < wr.heap.size := (Array.getElem?_eq_some_iff.1 h.b0).1
  have n1 := h.hBm
  have n2 := h.hBp
  refine ⟨by rw [tagsTo_succ h.ok hk]; exact hg, ⟨_, h1, hD.put _ _, fun v hw => ?_⟩, (h2.block _ l1 (by simp; omega)).trans h.bp, (h2.block _ l2 (by simp; omega)).trans h.b0, h.lo.grown h2 h.lo.size (fun j hj => by cases hj; omega), n1, n2⟩
  rw [take_contains hk]
  by_cases e : v = T[k]
  · subst e
    rw [has_put_same hD (by simp [WideAt.IsKeyLit])]
    simp
  · rw [has_put_other (fun e' => e (by simpa using e')), hv v hw]
    have : (v == T[k]) = false := by simpa using e
    rw [this, Bool.false_or]

/-- What portOf answers. -/
def PoR (w : World) (nat : Int) (T : List Int) (e : Ending) (w' : World) : Prop :=
  Below w.heap.size w w' ∧ if portOk nat T then ∃ Bm, w.heap.size ≤ Bm ∧ e = .returned (.tuple #[.agg #[.int .i64 nat, .map (some Bm)], .bool true]) ∧ TagAt w' (.map (some Bm)) (tgOf T) else e = .returned (.tuple #[.agg #[.int .i64 0, .map none], .bool false])

set_option maxRecDepth 100000 in
set_option maxHeartbeats 2000000 in
theorem portOf_any (nat : Int) (T : List Int) (tv : Value) (w : World) (hT : NumsAt w tv T) (hw : ∀ t ∈ T, (Lit.int .i64 t).wf = true) (hl : T.length < 1000000000000) :
    Calls Tryz.prog 33 #[.int .i64 nat, tv] w (PoR w nat T) := by
  obtain ⟨a, cap, b, rfl, hc⟩ := hT
  have CV := hide isVLAN_any
  have hmm := @run_makeMap Tryz.prog
  have HC := hide hc
  have HW := hide hw
  have main : ∀ W : World, Below w.heap.size w W → W.heap[w.heap.size]? = some (.cells #[.int .i64 0, .map none] 81 (0, 0)) → (nat == 0 || isV nat) = true →
      PoI w nat T W.heap.size (W.heap.size + 1) 0 ((W.alloc (.map #[] 0)).alloc (.cells #[.int .i64 nat, .map (some W.heap.size)] 81)) := by
    intro W hB h0 _
    have l2 : w.heap.size < W.heap.size := (Array.getElem?_eq_some_iff.1 h0).1
    have bb : Below W.heap.size W ((W.alloc (.map #[] 0)).alloc (.cells #[.int .i64 nat, .map (some W.heap.size)] 81)) := ((Below.refl _ W).alloc (Nat.le_refl _) _).alloc (by simp) _
    refine ⟨tagsTo_zero _ _, ⟨.map [], (World.ownsMap_made W Tryz.prog 3 unitElem).alloc _, ?_, fun v _ => by simp [Maps.has]⟩, ?_, (bb.block _ l2).trans h0, hB.trans (bb.mono (by omega)), l2, by omega⟩
    · exact ⟨_, rfl⟩
    · have := World.alloc_heap_new (W.alloc (.map #[] 0)) (.cells #[.int .i64 nat, .map (some W.heap.size)] 81)
      rwa [World.size_alloc] at this
  have HM := hide main
  clear hc hw main
  by_cases hz : nat = 0
  · have hd : (nat != 0) = false := by simpa using hz
    have HP := hide (HM.out _ ((Below.refl _ w).alloc (Nat.le_refl _) (.cells #[.int .i64 0, .map none] 81)) (World.alloc_heap_new w _) (by simp [hz]))
    have PK : portOk nat T = tagsTo nat T T.length := by unfold portOk; simp [hz]
    have HPK := hide PK
    clear PK HM hz
    go_enter Tryz.func33, Tryz.ntmps33
    go_wp2
    generalize hW : w.alloc (.cells #[.int .i64 0, .map none] 81) = W at *
    have hWs : W.heap.size = w.heap.size + 1 := by rw [← hW]; simp
    try rw [← hWs]
    clear hW hWs
    go_loopw [22] (fun i wr => ∃ k : Nat, k ≤ T.length ∧ i = .int .i64 k ∧ Hid (PoI w nat T W.heap.size (W.heap.size + 1) k wr)) (fun i _ => T.length - (intOf i).toNat)
    case atStart => exact ⟨0, Nat.zero_le _, rfl, HP⟩
    case round =>
      obtain ⟨k, hk, rfl, hI⟩ := hrel
      clear HP
      by_cases hlt : k < T.length
      · obtain ⟨rfl, ck⟩ := HC.out k hlt
        have hblt : b < w.heap.size := block_lt_of_cell ck
        have ck1 : wr.cell? ⟨b, k, none⟩ = some (.int .i64 T[k]) := (hI.out.lo.cell (p := ⟨b, k, none⟩) hblt).trans ck
        have hki : (k : Int) < T.length := by omega
        have hwk := HW.out T[k] (List.getElem_mem hlt)
        have hbw : b < wr.heap.size := by have := hI.out.lo.size; omega
        have CV1 := hide (CV.out T[k] wr)
        cases hv1 : isV T[k] with
        | false =>
          have HNO : Hid (tagsTo nat T T.length = false) := hide (tagsTo_no hlt (by rw [hv1]; rfl))
          rw [hv1] at CV1
          generalize T[k] = tk at *
          clear CV HC HW ck hv1
          go_wp2_with fail
          refine CV1.out.mono ?_
          rintro e w2 ⟨rfl, hb2⟩
          have HI2 := hide (hI.out.below hb2)
          clear hb2 CV1 hI
          have c0 := HI2.out.b0
          have k0 : w2.cell? ⟨w.heap.size, 0, none⟩ = some (.int .i64 0) := by simp [World.cell?, c0]
          have k1 : w2.cell? ⟨w.heap.size, 1, none⟩ = some (.map none) := by simp [World.cell?, c0]
          have kf : ∀ j, w2.frozen? ⟨w.heap.size, j, none⟩ = false := fun j => by simp [World.frozen?, c0]
          have HB : Hid (Below w.heap.size w ((w2.setCell ⟨w.heap.size, 0, none⟩ (.int .i64 0)).setCell ⟨w.heap.size, 1, none⟩ (.map none))) := hide ((HI2.out.lo.setCell (by simp) _).setCell (by simp) _)
          have HZ : Hid (((w2.setCell ⟨w.heap.size, 0, none⟩ (.int .i64 0)).setCell ⟨w.heap.size, 1, none⟩ (.map none)).heap[w.heap.size]? = some (.cells #[.int .i64 0, .map none] 81 (0, 0))) := hide ((heap_setCell_same _ _ 1 _ _ _ (heap_setCell_same _ _ 0 _ _ _ c0)).trans (by simp))
          clear c0 HI2
          go_wp2
          refine bodyPost_ret (ret_po HZ.out rfl) rfl ?_
          exact ⟨HB.out, by rw [HPK.out, HNO.out]; rfl⟩
        | true =>
          rw [hv1] at CV1
          have CH := hide fun (W2 : World) (hI2 : PoI w nat T W.heap.size (W.heap.size + 1) k W2) => has_any nat (.map (some W.heap.size)) (fun v => (T.take k).contains v) T[k] W2 hI2.tag hwk
          cases hin : (T[k] == nat || (T.take k).contains T[k]) with
          | true =>
            have HNO : Hid (tagsTo nat T T.length = false) := hide (tagsTo_no hlt (by rw [hv1, hin]; rfl))
            simp only [hin] at CH
            generalize T[k] = tk at *
            clear CV HC HW ck hv1 hin
            go_wp2_with fail
            refine CV1.out.mono ?_
            rintro e w2 ⟨rfl, hb2⟩
            have hI2 := hI.out.below hb2
            have p0 : w2.cell? ⟨W.heap.size + 1, 0, none⟩ = some (.int .i64 nat) := by simp [World.cell?, hI2.bp]
            have p1 : w2.cell? ⟨W.heap.size + 1, 1, none⟩ = some (.map (some W.heap.size)) := by simp [World.cell?, hI2.bp]
            have CH2 := hide (CH.out w2 hI2)
            have HI0 := hide hI2
            clear hb2 CV1 CH hI hI2
            go_wp2_with fail
            refine CH2.out.mono ?_
            rintro e w3 ⟨rfl, hb3⟩
            have HI2 := hide (HI0.out.below hb3)
            clear HI0 hb3 CH2 p0 p1
            have c0 := HI2.out.b0
            have k0 : w3.cell? ⟨w.heap.size, 0, none⟩ = some (.int .i64 0) := by simp [World.cell?, c0]
            have k1 : w3.cell? ⟨w.heap.size, 1, none⟩ = some (.map none) := by simp [World.cell?, c0]
            have kf : ∀ j, w3.frozen? ⟨w.heap.size, j, none⟩ = false := fun j => by simp [World.frozen?, c0]
            have HB : Hid (Below w.heap.size w ((w3.setCell ⟨w.heap.size, 0, none⟩ (.int .i64 0)).setCell ⟨w.heap.size, 1, none⟩ (.map none))) := hide ((HI2.out.lo.setCell (by simp) _).setCell (by simp) _)
            have HZ : Hid (((w3.setCell ⟨w.heap.size, 0, none⟩ (.int .i64 0)).setCell ⟨w.heap.size, 1, none⟩ (.map none)).heap[w.heap.size]? = some (.cells #[.int .i64 0, .map none] 81 (0, 0))) := hide ((heap_setCell_same _ _ 1 _ _ _ (heap_setCell_same _ _ 0 _ _ _ c0)).trans (by simp))
            clear c0 HI2
            go_wp2
            refine bodyPost_ret (ret_po HZ.out rfl) rfl ?_
            exact ⟨HB.out, by rw [HPK.out, HNO.out]; rfl⟩
          | false =>
            have HGO : Hid ((isV T[k] && !(T[k] == nat || (T.take k).contains T[k])) = true) := hide (by rw [hv1, hin]; rfl)
            simp only [hin] at CH
            have hkey := keyOf_int_mk Tryz.underlying3 hwk
            clear CV HC HW ck hv1 hin
            go_wp2_with fail
            refine CV1.out.mono ?_
            rintro e w2 ⟨rfl, hb2⟩
            have hI2 := hI.out.below hb2
            have p0 : w2.cell? ⟨W.heap.size + 1, 0, none⟩ = some (.int .i64 nat) := by simp [World.cell?, hI2.bp]
            have p1 : w2.cell? ⟨W.heap.size + 1, 1, none⟩ = some (.map (some W.heap.size)) := by simp [World.cell?, hI2.bp]
            have CH2 := hide (CH.out w2 hI2)
            have HI0 := hide hI2
            clear hb2 CV1 CH hI hI2
            go_wp2_with fail
            refine CH2.out.mono ?_
            rintro e w3 ⟨rfl, hb3⟩
            have hI3 := HI0.out.below hb3
            have q1 : w3.cell? ⟨W.heap.size + 1, 1, none⟩ = some (.map (some W.heap.size)) := by simp [World.cell?, hI3.bp]
            obtain ⟨D, hown, hD, hv⟩ := hI3.mp
            have HI3 := hide hI3
            have HD := hide hD
            have HV := hide hv
            clear HI0 hb3 CH2 p0 p1 hI3 hD hv
            go_wp2_with (first | (at_mapUpdate; refine wpList_mapUpdate_own _ rfl _ _ _ 79 rfl 3 135 keyI underTag unitElem W.heap.size k D rfl hown (by unfold maxLen; omega) _ _ (.int .i64 T[k]) rfl rfl hkey (.agg []) [] unitElem_mk ?_; intro w4 hown4 hgrow4))
            have HN := hide (HI3.out.put HD.out HV.out hlt HGO.out hown4 hgrow4)
            clear hown4 hgrow4
            go_roundw
            case rel => exact ⟨k + 1, by omega, by go_num, HN⟩
            case measure => simp [intOf]; omega
      · obtain rfl : k = T.length := by omega
        have hT := hI.out.tag
        rw [List.take_of_length_le (Nat.le_refl _)] at hT
        replace hT : TagAt wr (.map (some W.heap.size)) (tgOf T) := hT
        have c0 := hI.out.b0
        have k0 : wr.cell? ⟨w.heap.size, 0, none⟩ = some (.int .i64 0) := by simp [World.cell?, c0]
        have k1 : wr.cell? ⟨w.heap.size, 1, none⟩ = some (.map none) := by simp [World.cell?, c0]
        have kf : ∀ j, wr.frozen? ⟨w.heap.size, j, none⟩ = false := fun j => by simp [World.frozen?, c0]
        have p0 : wr.cell? ⟨W.heap.size + 1, 0, none⟩ = some (.int .i64 nat) := by simp [World.cell?, hI.out.bp]
        have p1 : wr.cell? ⟨W.heap.size + 1, 1, none⟩ = some (.map (some W.heap.size)) := by simp [World.cell?, hI.out.bp]
        have HB : Hid (Below w.heap.size w ((wr.setCell ⟨w.heap.size, 0, none⟩ (.int .i64 nat)).setCell ⟨w.heap.size, 1, none⟩ (.map (some W.heap.size)))) := hide ((hI.out.lo.setCell (by simp) _).setCell (by simp) _)
        have HZ : Hid (((wr.setCell ⟨w.heap.size, 0, none⟩ (.int .i64 nat)).setCell ⟨w.heap.size, 1, none⟩ (.map (some W.heap.size))).heap[w.heap.size]? = some (.cells #[.int .i64 nat, .map (some W.heap.size)] 81 (0, 0))) := hide ((heap_setCell_same _ _ 1 _ _ _ (heap_setCell_same _ _ 0 _ _ _ c0)).trans (by simp))
        have HBM := hide hI.out.hBm
        have HOK := hide hI.out.ok
        have HT : Hid (TagAt ((wr.setCell ⟨w.heap.size, 0, none⟩ (.int .i64 nat)).setCell ⟨w.heap.size, 1, none⟩ (.map (some W.heap.size))) (.map (some W.heap.size)) (tgOf T)) := hide (hT.same fun x o ho hco => by
          have hx : x ≠ w.heap.size := by rintro rfl; rw [c0] at ho; cases ho; cases hco
          exact ((heap_setCell_other _ _ _ _ hx).trans (heap_setCell_other _ _ _ _ hx)).trans ho)
        clear c0 hT hI HC HW CV
        go_wp2
        refine bodyPost_ret (ret_po HZ.out rfl) rfl ?_
        refine ⟨HB.out, ?_⟩
        rw [HPK.out, HOK.out]
        exact ⟨_, Nat.le_of_lt HBM.out, rfl, HT.out⟩
  · have hd : (nat != 0) = true := by simpa using hz
    cases hv : isV nat with
    | false =>
      have HPK : Hid (portOk nat T = false) := hide (by unfold portOk; rw [hv]; simp [hz])
      go_enter Tryz.func33, Tryz.ntmps33
      go_wp2_with fail
      refine (CV.out _ _).mono ?_
      rintro e w1 ⟨rfl, hb⟩
      rw [hv]
      have c0 : w1.heap[w.heap.size]? = some (.cells #[.int .i64 0, .map none] 81 (0, 0)) := (hb.block _ (by simp)).trans (World.alloc_heap_new w _)
      have k0 : w1.cell? ⟨w.heap.size, 0, none⟩ = some (.int .i64 0) := by simp [World.cell?, c0]
      have k1 : w1.cell? ⟨w.heap.size, 1, none⟩ = some (.map none) := by simp [World.cell?, c0]
      have kf : ∀ j, w1.frozen? ⟨w.heap.size, j, none⟩ = false := fun j => by simp [World.frozen?, c0]
      have HB : Hid (Below w.heap.size w ((w1.setCell ⟨w.heap.size, 0, none⟩ (.int .i64 0)).setCell ⟨w.heap.size, 1, none⟩ (.map none))) := hide (((((Below.refl _ w).alloc (Nat.le_refl _) _).trans (hb.mono (by simp))).setCell (by simp) _).setCell (by simp) _)
      have HZ : Hid (((w1.setCell ⟨w.heap.size, 0, none⟩ (.int .i64 0)).setCell ⟨w.heap.size, 1, none⟩ (.map none)).heap[w.heap.size]? = some (.cells #[.int .i64 0, .map none] 81 (0, 0))) := hide ((heap_setCell_same _ _ 1 _ _ _ (heap_setCell_same _ _ 0 _ _ _ c0)).trans (by simp))
      clear c0 hb HM HC HW hmm
      go_wp2
      refine bodyPost_ret (ret_po HZ.out rfl) rfl ?_
      exact ⟨HB.out, by rw [HPK.out]; rfl⟩
    | true =>
      go_enter Tryz.func33, Tryz.ntmps33
      go_wp2_with fail
      refine (CV.out _ _).mono ?_
      rintro e W ⟨rfl, hb⟩
      rw [hv]
      have hB1 : Below w.heap.size w W := ((Below.refl _ w).alloc (Nat.le_refl _) _).trans (hb.mono (by simp))
      have HP := hide (HM.out _ hB1 ((hb.block _ (by simp)).trans (World.alloc_heap_new w _)) (by rw [hv]; simp))
      have PK : portOk nat T = tagsTo nat T T.length := by unfold portOk; rw [hv]; simp
      have HPK := hide PK
      clear PK HM hB1 hb
      go_wp2
      go_loopw [22] (fun i wr => ∃ k : Nat, k ≤ T.length ∧ i = .int .i64 k ∧ Hid (PoI w nat T W.heap.size (W.heap.size + 1) k wr)) (fun i _ => T.length - (intOf i).toNat)
      case atStart => exact ⟨0, Nat.zero_le _, rfl, HP⟩
      case round =>
        obtain ⟨k, hk, rfl, hI⟩ := hrel
        clear HP
        by_cases hlt : k < T.length
        · obtain ⟨rfl, ck⟩ := HC.out k hlt
          have hblt : b < w.heap.size := block_lt_of_cell ck
          have ck1 : wr.cell? ⟨b, k, none⟩ = some (.int .i64 T[k]) := (hI.out.lo.cell (p := ⟨b, k, none⟩) hblt).trans ck
          have hki : (k : Int) < T.length := by omega
          have hwk := HW.out T[k] (List.getElem_mem hlt)
          have hbw : b < wr.heap.size := by have := hI.out.lo.size; omega
          have CV1 := hide (CV.out T[k] wr)
          cases hv1 : isV T[k] with
          | false =>
            have HNO : Hid (tagsTo nat T T.length = false) := hide (tagsTo_no hlt (by rw [hv1]; rfl))
            rw [hv1] at CV1
            generalize T[k] = tk at *
            clear CV HC HW ck hv1
            go_wp2_with fail
            refine CV1.out.mono ?_
            rintro e w2 ⟨rfl, hb2⟩
            have HI2 := hide (hI.out.below hb2)
            clear hb2 CV1 hI
            have c0 := HI2.out.b0
            have k0 : w2.cell? ⟨w.heap.size, 0, none⟩ = some (.int .i64 0) := by simp [World.cell?, c0]
            have k1 : w2.cell? ⟨w.heap.size, 1, none⟩ = some (.map none) := by simp [World.cell?, c0]
            have kf : ∀ j, w2.frozen? ⟨w.heap.size, j, none⟩ = false := fun j => by simp [World.frozen?, c0]
            have HB : Hid (Below w.heap.size w ((w2.setCell ⟨w.heap.size, 0, none⟩ (.int .i64 0)).setCell ⟨w.heap.size, 1, none⟩ (.map none))) := hide ((HI2.out.lo.setCell (by simp) _).setCell (by simp) _)
            have HZ : Hid (((w2.setCell ⟨w.heap.size, 0, none⟩ (.int .i64 0)).setCell ⟨w.heap.size, 1, none⟩ (.map none)).heap[w.heap.size]? = some (.cells #[.int .i64 0, .map none] 81 (0, 0))) := hide ((heap_setCell_same _ _ 1 _ _ _ (heap_setCell_same _ _ 0 _ _ _ c0)).trans (by simp))
            clear c0 HI2
            go_wp2
            refine bodyPost_ret (ret_po HZ.out rfl) rfl ?_
            exact ⟨HB.out, by rw [HPK.out, HNO.out]; rfl⟩
          | true =>
            rw [hv1] at CV1
            have CH := hide fun (W2 : World) (hI2 : PoI w nat T W.heap.size (W.heap.size + 1) k W2) => has_any nat (.map (some W.heap.size)) (fun v => (T.take k).contains v) T[k] W2 hI2.tag hwk
            cases hin : (T[k] == nat || (T.take k).contains T[k]) with
            | true =>
              have HNO : Hid (tagsTo nat T T.length = false) := hide (tagsTo_no hlt (by rw [hv1, hin]; rfl))
              simp only [hin] at CH
              generalize T[k] = tk at *
              clear CV HC HW ck hv1 hin
              go_wp2_with fail
              refine CV1.out.mono ?_
              rintro e w2 ⟨rfl, hb2⟩
              have hI2 := hI.out.below hb2
              have p0 : w2.cell? ⟨W.heap.size + 1, 0, none⟩ = some (.int .i64 nat) := by simp [World.cell?, hI2.bp]
              have p1 : w2.cell? ⟨W.heap.size + 1, 1, none⟩ = some (.map (some W.heap.size)) := by simp [World.cell?, hI2.bp]
              have CH2 := hide (CH.out w2 hI2)
              have HI0 := hide hI2
              clear hb2 CV1 CH hI hI2
              go_wp2_with fail
              refine CH2.out.mono ?_
              rintro e w3 ⟨rfl, hb3⟩
              have HI2 := hide (HI0.out.below hb3)
              clear HI0 hb3 CH2 p0 p1
              have c0 := HI2.out.b0
              have k0 : w3.cell? ⟨w.heap.size, 0, none⟩ = some (.int .i64 0) := by simp [World.cell?, c0]
              have k1 : w3.cell? ⟨w.heap.size, 1, none⟩ = some (.map none) := by simp [World.cell?, c0]
              have kf : ∀ j, w3.frozen? ⟨w.heap.size, j, none⟩ = false := fun j => by simp [World.frozen?, c0]
              have HB : Hid (Below w.heap.size w ((w3.setCell ⟨w.heap.size, 0, none⟩ (.int .i64 0)).setCell ⟨w.heap.size, 1, none⟩ (.map none))) := hide ((HI2.out.lo.setCell (by simp) _).setCell (by simp) _)
              have HZ : Hid (((w3.setCell ⟨w.heap.size, 0, none⟩ (.int .i64 0)).setCell ⟨w.heap.size, 1, none⟩ (.map none)).heap[w.heap.size]? = some (.cells #[.int .i64 0, .map none] 81 (0, 0))) := hide ((heap_setCell_same _ _ 1 _ _ _ (heap_setCell_same _ _ 0 _ _ _ c0)).trans (by simp))
              clear c0 HI2
              go_wp2
              refine bodyPost_ret (ret_po HZ.out rfl) rfl ?_
              exact ⟨HB.out, by rw [HPK.out, HNO.out]; rfl⟩
            | false =>
              have HGO : Hid ((isV T[k] && !(T[k] == nat || (T.take k).contains T[k])) = true) := hide (by rw [hv1, hin]; rfl)
              simp only [hin] at CH
              have hkey := keyOf_int_mk Tryz.underlying3 hwk
              clear CV HC HW ck hv1 hin
              go_wp2_with fail
              refine CV1.out.mono ?_
              rintro e w2 ⟨rfl, hb2⟩
              have hI2 := hI.out.below hb2
              have p0 : w2.cell? ⟨W.heap.size + 1, 0, none⟩ = some (.int .i64 nat) := by simp [World.cell?, hI2.bp]
              have p1 : w2.cell? ⟨W.heap.size + 1, 1, none⟩ = some (.map (some W.heap.size)) := by simp [World.cell?, hI2.bp]
              have CH2 := hide (CH.out w2 hI2)
              have HI0 := hide hI2
              clear hb2 CV1 CH hI hI2
              go_wp2_with fail
              refine CH2.out.mono ?_
              rintro e w3 ⟨rfl, hb3⟩
              have hI3 := HI0.out.below hb3
              have q1 : w3.cell? ⟨W.heap.size + 1, 1, none⟩ = some (.map (some W.heap.size)) := by simp [World.cell?, hI3.bp]
              obtain ⟨D, hown, hD, hv⟩ := hI3.mp
              have HI3 := hide hI3
              have HD := hide hD
              have HV := hide hv
              clear HI0 hb3 CH2 p0 p1 hI3 hD hv
              go_wp2_with (first | (at_mapUpdate; refine wpList_mapUpdate_own _ rfl _ _ _ 79 rfl 3 135 keyI underTag unitElem W.heap.size k D rfl hown (by unfold maxLen; omega) _ _ (.int .i64 T[k]) rfl rfl hkey (.agg []) [] unitElem_mk ?_; intro w4 hown4 hgrow4))
              have HN := hide (HI3.out.put HD.out HV.out hlt HGO.out hown4 hgrow4)
              clear hown4 hgrow4
              go_roundw
              case rel => exact ⟨k + 1, by omega, by go_num, HN⟩
              case measure => simp [intOf]; omega
        · obtain rfl : k = T.length := by omega
          have hT := hI.out.tag
          rw [List.take_of_length_le (Nat.le_refl _)] at hT
          replace hT : TagAt wr (.map (some W.heap.size)) (tgOf T) := hT
          have c0 := hI.out.b0
          have k0 : wr.cell? ⟨w.heap.size, 0, none⟩ = some (.int .i64 0) := by simp [World.cell?, c0]
          have k1 : wr.cell? ⟨w.heap.size, 1, none⟩ = some (.map none) := by simp [World.cell?, c0]
          have kf : ∀ j, wr.frozen? ⟨w.heap.size, j, none⟩ = false := fun j => by simp [World.frozen?, c0]
          have p0 : wr.cell? ⟨W.heap.size + 1, 0, none⟩ = some (.int .i64 nat) := by simp [World.cell?, hI.out.bp]
          have p1 : wr.cell? ⟨W.heap.size + 1, 1, none⟩ = some (.map (some W.heap.size)) := by simp [World.cell?, hI.out.bp]
          have HB : Hid (Below w.heap.size w ((wr.setCell ⟨w.heap.size, 0, none⟩ (.int .i64 nat)).setCell ⟨w.heap.size, 1, none⟩ (.map (some W.heap.size)))) := hide ((hI.out.lo.setCell (by simp) _).setCell (by simp) _)
          have HZ : Hid (((wr.setCell ⟨w.heap.size, 0, none⟩ (.int .i64 nat)).setCell ⟨w.heap.size, 1, none⟩ (.map (some W.heap.size))).heap[w.heap.size]? = some (.cells #[.int .i64 nat, .map (some W.heap.size)] 81 (0, 0))) := hide ((heap_setCell_same _ _ 1 _ _ _ (heap_setCell_same _ _ 0 _ _ _ c0)).trans (by simp))
          have HBM := hide hI.out.hBm
          have HOK := hide hI.out.ok
          have HT : Hid (TagAt ((wr.setCell ⟨w.heap.size, 0, none⟩ (.int .i64 nat)).setCell ⟨w.heap.size, 1, none⟩ (.map (some W.heap.size))) (.map (some W.heap.size)) (tgOf T)) := hide (hT.same fun x o ho hco => by
            have hx : x ≠ w.heap.size := by rintro rfl; rw [c0] at ho; cases ho; cases hco
            exact ((heap_setCell_other _ _ _ _ hx).trans (heap_setCell_other _ _ _ _ hx)).trans ho)
          clear c0 hT hI HC HW CV
          go_wp2
          refine bodyPost_ret (ret_po HZ.out rfl) rfl ?_
          refine ⟨HB.out, ?_⟩
          rw [HPK.out, HOK.out]
          exact ⟨_, Nat.le_of_lt HBM.out, rfl, HT.out⟩
end Go.Proofs.YtaejpejfmpbinaaGreatDoor

namespace Go.Proofs.YtaejpejfmpbinaaGreatDoor
open Go.RowKit Go.Maps

/-- The cells of ports. -/
def rowQ (Q : List (Int × Value)) : List Value := Q.flatMap fun e => [.int .i64 e.1, e.2]
theorem rowQ_append (a b : List (Int × Value)) : rowQ (a ++ b) = rowQ a ++ rowQ b := List.flatMap_append
theorem rowQ_length (Q : List (Int × Value)) : (rowQ Q).length = Q.length * 2 := by
  induction Q with
  | nil => rfl
  | cons e t ih => simp [rowQ] at ih ⊢; omega
theorem rowQ_get : ∀ (Q : List (Int × Value)) (k : Nat) (hk : k < Q.length), (rowQ Q)[k * 2]? = some (.int .i64 Q[k].1) ∧ (rowQ Q)[k * 2 + 1]? = some Q[k].2
  | [], k, hk => absurd hk (by simp)
  | p :: t, 0, _ => ⟨rfl, rfl⟩
  | p :: t, k + 1, hk => by
    have ih := rowQ_get t k (by simpa using hk)
    have e1 : (k + 1) * 2 = k * 2 + 1 + 1 := by omega
    have e2 : (k + 1) * 2 + 1 = (k * 2 + 1) + 1 + 1 := by omega
    rw [e2, e1]
    exact ih
theorem rowQ_set : ∀ (Q : List (Int × Value)) (i : Nat) (_ : i < Q.length) (e : Int × Value), rowQ (Q.set i e) = ((rowQ Q).set (i * 2) (.int .i64 e.1)).set (i * 2 + 1) e.2
  | [], i, hi, _ => absurd hi (by simp)
  | p :: t, 0, _, e => by simp [rowQ]
  | p :: t, i + 1, hi, e => by
    have ih := rowQ_set t i (by simpa using hi) e
    have e1 : (i + 1) * 2 = i * 2 + 1 + 1 := by omega
    have e2 : (i + 1) * 2 + 1 = (i * 2 + 1) + 1 + 1 := by omega
    rw [e2, e1]
    show _ :: _ :: rowQ (t.set i e) = _
    rw [ih]
    rfl

/-- The ports of a switch, in an array of their own. -/
structure PortsO (w : World) (pv : Value) (P : List Prt) (Q : List (Int × Value)) : Prop where
  len : Q.length = P.length
  own : w.ownsRow 0 81 2 pv P.length (rowQ Q)
  each : ∀ j (h : j < P.length), Q[j].1 = P[j].nat ∧ TagAt w Q[j].2 P[j].tg

theorem PortsO.at {w : World} {pv : Value} {P : List Prt} {Q : List (Int × Value)} (h : PortsO w pv P Q) : PortsAt w pv P := by
  have hl := h.len
  rcases h.own.2 with ⟨hv, h0⟩ | ⟨g, cap, cur, hv, _⟩
  · exact ⟨none, 0, 0, by rw [hv, h0], fun j hj => by omega⟩
  · refine ⟨_, cap, g, hv, fun j hj => ⟨rfl, ?_⟩⟩
    have ho := h.own
    rw [hv] at ho
    have hq := rowQ_get Q j (by omega)
    have he := h.each j hj
    refine ⟨?_, Q[j].2, (ho.cellAt _ (by omega)).trans hq.2, he.2⟩
    rw [← he.1]
    exact (ho.cellAt _ (by omega)).trans hq.1

theorem PortsO.keep {w w' : World} {pv : Value} {P : List Prt} {Q : List (Int × Value)} (h : PortsO w pv P Q) (hp : ∀ b, pv.ownBlock = some b → w'.heap[b]? = w.heap[b]?) (hk : ∀ (b : Nat) (o : Obj), w.heap[b]? = some o → o.isCells = false → w'.heap[b]? = some o) : PortsO w' pv P Q :=
  ⟨h.len, ownsRow_blk h.own hp, fun j hj => ⟨(h.each j hj).1, (h.each j hj).2.same hk⟩⟩
theorem PortsO.below {w w' : World} {pv : Value} {P : List Prt} {Q : List (Int × Value)} (h : PortsO w pv P Q) (hb : Below w.heap.size w w') : PortsO w' pv P Q :=
  h.keep (fun b hb' => hb.block b (ownsRow_lt h.own hb').2) fun b _ ho _ => (hb.block b (lt_of_heap ho)).trans ho

theorem PortsO.set {w : World} {g cap : Nat} {P : List Prt} {Q : List (Int × Value)} (h : PortsO w (.slice (some ⟨g, 0, none⟩) P.length cap) P Q) {i : Nat} (hi : i < P.length) {x : Int} {mv : Value} {tg : Int → Bool} (ht : TagAt w mv tg) :
    PortsO ((w.setCell ⟨g, i * 2, none⟩ (.int .i64 x)).setCell ⟨g, i * 2 + 1, none⟩ mv) (.slice (some ⟨g, 0, none⟩) P.length cap) (P.set i ⟨x, tg⟩) (Q.set i (x, mv)) := by
  have hl := h.len
  have hcl : ∃ cs t fr, w.heap[g]? = some (.cells cs t fr) := by
    rcases h.own.2 with ⟨e, _⟩ | ⟨g', cap', cur, e, _, hg, _⟩
    · cases e
    · cases e; exact ⟨_, _, _, hg⟩
  have hk : ∀ (b : Nat) (o : Obj), w.heap[b]? = some o → o.isCells = false → ((w.setCell ⟨g, i * 2, none⟩ (.int .i64 x)).setCell ⟨g, i * 2 + 1, none⟩ mv).heap[b]? = some o := by
    intro b o ho hc
    have hne : b ≠ g := by
      rintro rfl
      obtain ⟨cs, t, fr, e⟩ := hcl
      rw [e] at ho; cases ho; cases hc
    exact ((heap_setCell_other _ _ _ _ hne).trans (heap_setCell_other _ _ _ _ hne)).trans ho
  refine ⟨by simp [hl], ?_, fun j hj => ?_⟩
  · rw [List.length_set, rowQ_set Q i (by omega)]
    exact ownsRow_set (ownsRow_set h.own (j := i * 2) (by omega) _) (j := i * 2 + 1) (by omega) _
  · rw [List.length_set] at hj
    rw [List.getElem_set, List.getElem_set]
    split
    · exact ⟨rfl, ht.same hk⟩
    · exact ⟨(h.each j hj).1, (h.each j hj).2.same hk⟩

/-- The maps of tags are those that were, or new. -/
def NewTags (w : World) (Q Q' : List (Int × Value)) : Prop := ∀ p : Int × Value, p ∈ Q' → p ∈ Q ∨ ∃ b, p.2 = .map (some b) ∧ w.heap.size ≤ b
theorem NewTags.same (w : World) (Q : List (Int × Value)) : NewTags w Q Q := fun _ h => .inl h
theorem NewTags.set {w : World} (Q : List (Int × Value)) (i : Nat) (x : Int) {b : Nat} (hb : w.heap.size ≤ b) : NewTags w Q (Q.set i (x, .map (some b))) := fun p hp => by
  rcases List.mem_or_eq_of_mem_set hp with h | h
  · exact .inl h
  · exact .inr ⟨b, by rw [h], hb⟩
/-- What Port answers. -/
def portRes (P : List Prt) (q nat : Int) (T : List Int) : Int := if decide (0 ≤ q) && decide (q < P.length) then (if portOk nat T then 0 else 2) else 1
/-- The ports behind it. -/
def portSet (P : List Prt) (q nat : Int) (T : List Int) : List Prt := if portRes P q nat T = 0 then P.set q.toNat ⟨nat, tgOf T⟩ else P

set_option maxRecDepth 100000 in
set_option maxHeartbeats 2000000 in
theorem sPort_any (s : Nat) (pv : Value) (P : List Prt) (Q : List (Int × Value)) (q nat : Int) (T : List Int) (tv : Value) (w : World) (h0 : w.cell? ⟨s, 0, none⟩ = some pv) (hp : PortsO w pv P Q) (hT : NumsAt w tv T) (hw : ∀ t ∈ T, (Lit.int .i64 t).wf = true) (hl : T.length < 1000000000000) :
    Calls Tryz.prog 13 #[.pointer (some ⟨s, 0, none⟩), .int .i64 q, .int .i64 nat, tv] w fun e w' => e = .returned (.int .i64 (portRes P q nat T)) ∧ (∃ Q', PortsO w' pv (portSet P q nat T) Q' ∧ NewTags w Q Q') ∧ Chg (fun b => pv.ownBlock = some b) w w' := by
  have CH := hide (hasPort_any s pv P q w h0 hp.at)
  have CP := hide (portOf_any nat T tv w hT hw hl)
  by_cases hq : 0 ≤ q ∧ q < P.length
  · have hd : (decide (0 ≤ q) && decide (q < P.length)) = true := by simp [hq.1, hq.2]
    obtain ⟨i, rfl⟩ : ∃ i : Nat, q = i := ⟨q.toNat, by omega⟩
    have hi : i < P.length := by omega
    rw [hd] at CH
    unfold PoR at CP
    have er : portRes P i nat T = if portOk nat T then 0 else 2 := by unfold portRes; rw [hd]; rfl
    cases hk : portOk nat T with
    | false =>
      simp only [hk] at CP
      rw [hk] at er
      have es : portSet P i nat T = P := by unfold portSet; rw [er]; rfl
      rw [er, es]
      have HP := hide hp
      clear hp hT hw er es hd hq
      go_enter Tryz.func13, Tryz.ntmps13
      go_wp2_with fail
      refine CH.out.mono ?_
      rintro e w1 ⟨rfl, rfl⟩
      go_wp2_with fail
      refine CP.out.mono ?_
      rintro e w2 ⟨hb2, rfl⟩
      go_wp2
      go_ret
      have hB : Below w1.heap.size w1 (w2.alloc (.cells #[.int .i64 0, .map none] 81)) := hb2.alloc hb2.size _
      exact ⟨rfl, ⟨Q, HP.out.below hB, NewTags.same _ _⟩, Chg.of_below hB⟩
    | true =>
      simp only [hk, if_true] at CP
      rw [hk] at er
      have es : portSet P i nat T = P.set i ⟨nat, tgOf T⟩ := by unfold portSet; rw [er]; simp
      rw [er, es]
      have hpv : ∃ g cap, pv = .slice (some ⟨g, 0, none⟩) P.length cap ∧ g < w.heap.size := by
        rcases hp.own.2 with ⟨e, h'⟩ | ⟨g, cap, cur, e, _, hg, _⟩
        · omega
        · exact ⟨g, cap, e, lt_of_heap hg⟩
      obtain ⟨g, cap, rfl, hglt⟩ := hpv
      have hslt := block_lt_of_cell h0
      have hii : (i : Int) < P.length := by omega
      have hi0 : (0 : Int) ≤ i := by omega
      have HP := hide hp
      clear hp hT hw er es hd hq
      go_enter Tryz.func13, Tryz.ntmps13
      go_wp2_with fail
      refine CH.out.mono ?_
      rintro e w1 ⟨rfl, rfl⟩
      go_wp2_with fail
      refine CP.out.mono ?_
      rintro e w2 ⟨hb2, Bm, hBm, rfl, hTag⟩
      obtain ⟨W, hW⟩ : ∃ W, W = w2.alloc (.cells #[.int .i64 nat, .map (some Bm)] 81) := ⟨_, rfl⟩
      have hB : Below w1.heap.size w1 W := by rw [hW]; exact hb2.alloc hb2.size _
      have hblk : W.heap[w2.heap.size]? = some (.cells #[.int .i64 nat, .map (some Bm)] 81 (0, 0)) := by rw [hW]; exact World.alloc_heap_new w2 _
      have b0 : W.cell? ⟨w2.heap.size, 0, none⟩ = some (.int .i64 nat) := by simp [World.cell?, hblk]
      have b1 : W.cell? ⟨w2.heap.size, 1, none⟩ = some (.map (some Bm)) := by simp [World.cell?, hblk]
      have hTW : TagAt W (.map (some Bm)) (tgOf T) := by rw [hW]; exact hTag.below ((Below.refl _ w2).alloc (Nat.le_refl _) _)
      have s0 := cell_later hB h0
      have PW := HP.out.below hB
      have hcs := PW.at
      obtain ⟨a', cap', b', e', hc'⟩ := hcs
      cases e'
      obtain ⟨eg, c0, mv, c1, _⟩ := hc' i hi
      cases eg
      have f0 := ownsRow_frozen PW.own (i * 2)
      have f1 := ownsRow_frozen PW.own (i * 2 + 1)
      have HS := hide (PW.set (x := nat) hi hTW)
      have hX : (fun b => (Value.slice (some ⟨g, 0, none⟩) P.length cap).ownBlock = some b) g := rfl
      have HC := hide (Chg.setCell (p := ⟨g, i * 2 + 1, none⟩) (Chg.setCell (p := ⟨g, i * 2, none⟩) (Chg.of_below (X := fun b => (Value.slice (some ⟨g, 0, none⟩) P.length cap).ownBlock = some b) hB) (.inl hX) (.int .i64 nat)) (.inl hX) (.map (some Bm)))
      have hgn : ¬ g = w2.heap.size := by have := hb2.size; omega
      have hgn2 : ¬ w2.heap.size = g := by have := hb2.size; omega
      have hgW : g < W.heap.size := by have := hB.size; omega
      have HW := hide hW
      have HBm := hide hBm
      clear hW hblk hTW hB hb2 PW hc' CP CH hTag
      go_wp2
      rw [← HW.out]
      go_region
      go_wp2
      go_ret
      exact ⟨rfl, ⟨_, HS.out.below ((Below.refl _ _).drew), NewTags.set _ _ _ HBm.out⟩, HC.out.drew.mono fun _ _ hx => by simpa [Value.ownBlock] using hx⟩
  · have hd : (decide (0 ≤ q) && decide (q < P.length)) = false := by
      rw [← Bool.not_eq_true, Bool.and_eq_true, decide_eq_true_eq, decide_eq_true_eq]; exact hq
    rw [hd] at CH
    have er : portRes P q nat T = 1 := by unfold portRes; rw [hd]; rfl
    have es : portSet P q nat T = P := by unfold portSet; rw [er]; rfl
    rw [er, es]
    have HP := hide hp
    clear hp hT hw er es hd hq CP
    go_enter Tryz.func13, Tryz.ntmps13
    go_wp2_with fail
    refine CH.out.mono ?_
    rintro e w1 ⟨rfl, rfl⟩
    go_wp2
    go_ret
    exact ⟨rfl, ⟨Q, HP.out, NewTags.same _ _⟩, Chg.of_below (Below.refl _ _)⟩
end Go.Proofs.YtaejpejfmpbinaaGreatDoor

namespace Go.Proofs.YtaejpejfmpbinaaGreatDoor
open Go.RowKit

theorem HeadR.of_row {w : World} {sv : Value} {L : List Ent} (h : w.ownsRow 0 224 3 sv L.length (rowR L)) (h0 : 0 < L.length) : HeadR w sv := by
  obtain ⟨a, cap, g, rfl, hc⟩ := rowR_cells h
  obtain ⟨rfl, c0, c1, c2⟩ := hc 0 h0
  intro g' hg'
  obtain rfl : g = g' := by simpa [Value.ownBlock] using hg'
  exact ⟨_, _, _, c0, c1, c2⟩

/-- What a map's block holds behind a store of its entries. -/
theorem mapR_stored {w w2 : World} {m : Nat} {sv sv' : Value} {L' : List Ent} (h0 : w2.cell? ⟨m, 0, none⟩ = some (.func (.func 94) #[] #[])) (h1 : w2.cell? ⟨m, 1, none⟩ = some sv) (hf : ∀ j, w2.frozen? ⟨m, j, none⟩ = false) (ho : w2.ownsRow 0 224 3 sv' L'.length (rowR L')) (hne : ∀ g, sv'.ownBlock = some g → m ≠ g) (hl : L'.length ≤ 200)
    (hw : w = w2.setCell ⟨m, 1, none⟩ sv') : MapR w m sv' L' := by
  subst hw
  refine ⟨?_, ?_, ownsRow_same ho fun g hg => Below.heap_setCell _ _ _ _ (hne g hg).symm, fun j => ?_, hl⟩
  · rw [World.cell?_setCell_other _ _ _ _ (by simp)]; exact h0
  · exact World.cell?_setCell_same _ _ _ h1
  · rw [World.frozen?_setCell]; exact hf j

theorem HeadR.ne {w : World} {sv : Value} {m g : Nat} {fn : Fn} {f c : Array Value} (h : HeadR w sv) (hg : sv.ownBlock = some g) (hm : w.cell? ⟨m, 0, none⟩ = some (.func fn f c)) : m ≠ g := by
  rintro rfl
  obtain ⟨n, n', p, h0, _⟩ := h m hg
  rw [hm] at h0; cases h0
theorem HeadR.lt {w : World} {sv : Value} {g : Nat} (h : HeadR w sv) (hg : sv.ownBlock = some g) : g < w.heap.size := by
  obtain ⟨n, n', p, h0, _⟩ := h g hg
  exact block_lt_of_cell h0
theorem HeadI.lt {w : World} {sv : Value} {g : Nat} (h : HeadI w sv) (hg : sv.ownBlock = some g) : g < w.heap.size := by
  obtain ⟨n, p, h0, _⟩ := h g hg
  exact block_lt_of_cell h0
theorem HeadR.chg {w w' : World} {sv : Value} {X : Nat → Prop} (h : HeadR w sv) (hb : Chg X w w') (hX : ∀ g, sv.ownBlock = some g → ¬ X g) : HeadR w' sv := by
  intro g hg
  obtain ⟨n, n', p, h0, h1, h2⟩ := h g hg
  exact ⟨n, n', p, hb.block.cell (hX g hg) h0, hb.block.cell (hX g hg) h1, hb.block.cell (hX g hg) h2⟩
theorem HeadI.chg {w w' : World} {sv : Value} {X : Nat → Prop} (h : HeadI w sv) (hb : Chg X w w') (hX : ∀ g, sv.ownBlock = some g → ¬ X g) : HeadI w' sv := by
  intro g hg
  obtain ⟨n, p, h0, h1⟩ := h g hg
  exact ⟨n, p, hb.block.cell (hX g hg) h0, hb.block.cell (hX g hg) h1⟩
theorem MapR.chg {w w' : World} {m : Nat} {sv : Value} {L : List Ent} {X : Nat → Prop} (h : MapR w m sv L) (hh : HeadR w sv) (hb : Chg X w w') (hm : ¬ X m) (hX : ∀ g, sv.ownBlock = some g → ¬ X g) : MapR w' m sv L := by
  obtain ⟨h0, h1, h2, h3, h4⟩ := h
  exact ⟨hb.block.cell hm h0, hb.block.cell hm h1, ownsRow_same h2 fun g hg => hb.block g (hh.lt hg) (hX g hg), fun j => (World.frozen?_of_block (a := ⟨m, j, none⟩) (hb.block m (block_lt_of_cell h0) hm)).trans (h3 j), h4⟩
theorem MapI.chg {w w' : World} {m : Nat} {sv : Value} {L : List Ent} {X : Nat → Prop} (h : MapI w m sv L) (hh : HeadI w sv) (hb : Chg X w w') (hm : ¬ X m) (hX : ∀ g, sv.ownBlock = some g → ¬ X g) : MapI w' m sv L := by
  obtain ⟨h0, h1, h2, h3, h4⟩ := h
  exact ⟨hb.block.cell hm h0, hb.block.cell hm h1, ownsRow_same h2 fun g hg => hb.block g (hh.lt hg) (hX g hg), fun j => (World.frozen?_of_block (a := ⟨m, j, none⟩) (hb.block m (block_lt_of_cell h0) hm)).trans (h3 j), h4⟩

/-- What Put leaves. -/
def PutR (m : Nat) (sv : Value) (L : List Ent) (e0 : Ent) (w w3 : World) : Prop :=
  ∃ sv' L', MapR w3 m sv' L' ∧ Sorted L' ∧ HeadR w3 sv' ∧ (∀ x, x ∈ L' ↔ x = e0 ∨ x ∈ L) ∧ L'.length = L.length + 1 ∧ (∀ b, sv'.ownBlock = some b → sv.ownBlock = some b ∨ w.heap.size ≤ b) ∧ Chg (fun b => b = m ∨ sv.ownBlock = some b) w w3

theorem putR_ins (m : Nat) (a : Option Addr) (cap i : Nat) (L : List Ent) (e0 : Ent) (w w1 W : World) (hM : MapR w m (.slice a L.length cap) L) (hs : Sorted L) (hh : HeadR w (.slice a L.length cap)) (hno : ∀ x ∈ L, ¬ (x.2.pr = e0.2.pr ∧ x.2.id = e0.2.id)) (hn : L.length ≤ 199) (hi : i ≤ L.length)
    (hL : ∀ j, j < i → cAt L e0.2.pr e0.2.id j < 0) (hR : ∀ j, i ≤ j → j < L.length → 0 ≤ cAt L e0.2.pr e0.2.id j) (hb : Below w.heap.size w w1) (BW : Below w1.heap.size w1 W) (hWn : W.heap[w1.heap.size]? = some (.cells #[.int .i64 e0.2.pr, .int .i64 e0.2.id, .pointer (some ⟨e0.1, 0, none⟩)] 224 (0, 0))) :
    Calls Tryz.prog 128 #[.slice a L.length cap, .int .i64 i, .slice (some ⟨w1.heap.size, 0, none⟩) 1 1] W fun e w2 => ∃ g2 cap2, e = .returned (.slice (some ⟨g2, 0, none⟩) (L.length + 1) cap2) ∧ w2.cell? ⟨m, 1, none⟩ = some (.slice a L.length cap) ∧ w2.frozen? ⟨m, 1, none⟩ = false ∧ (∀ b j v, w.heap.size ≤ b → w1.cell? ⟨b, j, none⟩ = some v → w2.cell? ⟨b, j, none⟩ = some v) ∧ PutR m (.slice a L.length cap) L e0 w (w2.setCell ⟨m, 1, none⟩ (.slice (some ⟨g2, 0, none⟩) (L.length + 1) cap2)) := by
  obtain ⟨h0, h1, h2, h3, h4⟩ := hM
  have hmlt : m < w.heap.size := block_lt_of_cell h0
  have hne : ∀ b, (Value.slice a L.length cap).ownBlock = some b → m ≠ b := fun b hb => hh.ne hb h0
  have hsz := hb.size
  have hm1 : m < w1.heap.size := by omega
  have hWs := BW.size
  have oW : W.ownsRow 0 224 3 (.slice a L.length cap) L.length (rowR L) := ownsRow_same h2 fun b hb' => (BW.block b (by have := hh.lt hb'; omega)).trans (hb.block b (hh.lt hb'))
  refine (insR_any (.slice a L.length cap) L.length i (rowR L) w1.heap.size 224 3 [.int .i64 e0.2.pr, .int .i64 e0.2.id, .pointer (some ⟨e0.1, 0, none⟩)] W oW rowR_one hi hn rfl
    (fun j u hj => cell_in_row hWn hj) (by simp [Value.oneCell']) (fun hb' => by have : w1.heap.size < w.heap.size := hh.lt hb'; omega) (by simp [World.shape?, hWn]) (fun j => by simp [World.frozen?, hWn])).mono ?_
  rintro e w2 ⟨g2, cap2, rfl, hown2, hat2, hch2⟩
  have hb2 : w2.heap[m]? = w.heap[m]? := (hch2.block m (by omega) fun h => hne m h rfl).trans ((BW.block m hm1).trans (hb.block m hmlt))
  have hc2 : ∀ j, w2.cell? ⟨m, j, none⟩ = w.cell? ⟨m, j, none⟩ := fun j => World.cell?_of_block (a := ⟨m, j, none⟩) hb2
  have hf2 : ∀ j, w2.frozen? ⟨m, j, none⟩ = false := fun j => (World.frozen?_of_block (a := ⟨m, j, none⟩) hb2).trans (h3 j)
  have hlen : (L.take i ++ e0 :: L.drop i).length = L.length + 1 := length_ins e0 hi
  have hrow : (rowR L).take (i * 3) ++ [.int .i64 e0.2.pr, .int .i64 e0.2.id, .pointer (some ⟨e0.1, 0, none⟩)] ++ (rowR L).drop (i * 3) = rowR (L.take i ++ e0 :: L.drop i) := by
    rw [rowR_take, rowR_drop, rowR_append]; simp [rowR]
  rw [hrow] at hown2
  have hgm : ∀ g, (Value.slice (some ⟨g2, 0, none⟩) (L.length + 1) cap2).ownBlock = some g → m ≠ g := fun g hg => by
    obtain rfl : g2 = g := by simpa [Value.ownBlock] using hg
    rcases hat2 with h | h
    · exact hne _ h
    · omega
  refine ⟨g2, cap2, rfl, (hc2 1).trans h1, hf2 1, fun b j v hb' hc => ?_, ?_⟩
  · have hlt : b < w1.heap.size := block_lt_of_cell hc
    exact (World.cell?_of_block (a := ⟨b, j, none⟩) ((hch2.block b (by omega) fun h => by have := hh.lt h; omega).trans (BW.block b hlt))).trans hc
  · have hM : MapR (w2.setCell ⟨m, 1, none⟩ (.slice (some ⟨g2, 0, none⟩) (L.length + 1) cap2)) m (.slice (some ⟨g2, 0, none⟩) (L.length + 1) cap2) (L.take i ++ e0 :: L.drop i) := mapR_stored ((hc2 0).trans h0) ((hc2 1).trans h1) hf2 (by rw [hlen]; exact hown2) hgm (by omega) rfl
    refine ⟨_, _, hM, ?_, HeadR.of_row hM.2.2.1 (by omega), mem_ins i e0, hlen, ?_, ?_⟩
    · refine pw_ins i e0 hs (fun x hx => ?_) (fun x hx => ?_)
      · obtain ⟨j, hj, rfl⟩ := List.getElem_of_mem hx
        rw [List.length_take] at hj
        rw [List.getElem_take]
        have := hL j (by omega)
        unfold cAt at this
        rw [prAt_eq (by omega), idAt_eq (by omega)] at this
        simpa only [Rl.before, decide_eq_true_eq] using this
      · have hne := hno x (List.mem_of_mem_drop hx)
        obtain ⟨j, hj, rfl⟩ := List.getElem_of_mem hx
        rw [List.length_drop] at hj
        rw [List.getElem_drop] at hne ⊢
        have := hR (i + j) (by omega) (by omega)
        unfold cAt at this
        rw [prAt_eq (by omega), idAt_eq (by omega)] at this
        have h2 : ¬ (L[i + j].2.before e0.2 = true) := by simp only [Rl.before, decide_eq_true_eq]; omega
        rw [Rl.before_iff] at h2 ⊢
        omega
    · intro b hb
      obtain rfl : g2 = b := by simpa [Value.ownBlock] using hb
      rcases hat2 with h | h
      · exact .inl h
      · exact .inr (by omega)
    · refine Chg.setCell ?_ (.inl (.inl rfl)) _
      exact ((Chg.of_below hb).trans ((Chg.of_below BW).trans (hch2.mono fun x _ hx => .inr hx)))

set_option maxRecDepth 100000 in
set_option maxHeartbeats 1000000 in
theorem putR_any (m : Nat) (sv : Value) (L : List Ent) (e0 : Ent) (w : World) (hm : MapR w m sv L) (hs : Sorted L) (hh : HeadR w sv) (hno : ∀ x ∈ L, ¬ (x.2.pr = e0.2.pr ∧ x.2.id = e0.2.id)) (hn : L.length ≤ 199) :
    Calls Tryz.prog 85 #[.pointer (some ⟨m, 0, none⟩), .agg #[.int .i64 e0.2.pr, .int .i64 e0.2.id], .pointer (some ⟨e0.1, 0, none⟩)] w fun e w' => e = .returned (.tuple #[]) ∧ PutR m sv L e0 w w' := by
  have hmlt : m < w.heap.size := block_lt_of_cell hm.1
  obtain ⟨w0, hw0⟩ : ∃ w0, w0 = w.alloc (.cells #[.int .i64 e0.2.pr, .int .i64 e0.2.id] 160) := ⟨_, rfl⟩
  have hb0 : Below w.heap.size w w0 := by rw [hw0]; exact (Below.refl _ w).alloc (Nat.le_refl _) _
  have hs0 : w0.heap.size = w.heap.size + 1 := by rw [hw0]; exact alloc_size _ _
  have hm0 : MapR w0 m sv L := hm.chg hh (Chg.of_below (X := fun _ => False) hb0) (fun h => h) fun _ _ h => h
  have b0 : w0.heap[w.heap.size]? = some (.cells #[.int .i64 e0.2.pr, .int .i64 e0.2.id] 160 (0, 0)) := by rw [hw0]; exact alloc_new _ _
  have c0 : w0.cell? ⟨w.heap.size, 0, none⟩ = some (.int .i64 e0.2.pr) := cell_in_row b0 rfl
  have c1 : w0.cell? ⟨w.heap.size, 1, none⟩ = some (.int .i64 e0.2.id) := cell_in_row b0 rfl
  have CP := hide (placeR_any m sv L e0.2.pr e0.2.id w0 hm0 hs)
  obtain ⟨a, cap, g, rfl, hc⟩ := rowR_cells hm.2.2.1
  have CI := hide fun i (hi : i ≤ L.length) hL hR w1 hb W => putR_ins m a cap i L e0 w w1 W hm hs hh hno hn hi hL hR hb
  have h1 := hm0.2.1
  have HB0 := hide hb0
  have HW0 := hide hw0
  clear hm hm0 hs hh hc hb0 b0
  go_enter Tryz.func85, Tryz.ntmps85
  go_wp2_with fail
  rw [← HW0.out]
  refine CP.out.mono ?_
  rintro e w1 ⟨i, hi, hL, hR, rfl, hb⟩
  have hx : (decide (i < L.length) && (cAt L e0.2.pr e0.2.id i == 0)) = false := by
    rw [← Bool.not_eq_true, Bool.and_eq_true, decide_eq_true_eq, beq_iff_eq]
    rintro ⟨h, hc⟩
    unfold cAt at hc
    rw [cmpR_zero, prAt_eq h, idAt_eq h] at hc
    exact hno _ (List.getElem_mem h) hc
  have k1 := cell_later hb h1
  have kb0 := cell_later hb c0
  have kb1 := cell_later hb c1
  have CJ := hide (CI.out i hi hL hR w1 (HB0.out.trans (hb.mono (by omega))))
  have hsz := hb.size
  clear CP hL hR hb h1 c0 c1 CI hno HW0 HB0
  have hmlt1 : m < w1.heap.size := by omega
  have hbx : w.heap.size < w1.heap.size := by omega
  have hmx : ¬ m = w.heap.size := by omega
  go_wp2_with fail
  go_region_with
    (first | (go_at_call 128; refine (CJ.out _ ?_ ?_).mono ?_; (first | exact ((Below.refl _ w1).alloc (Nat.le_refl _) _).drew | exact ((Below.refl _ w1).drew).alloc (Nat.le_refl _) _); (exact alloc_new w1 _); rintro e w2 ⟨g2, cap2, rfl, m1, mf, mb, hp⟩; have j0 := mb _ _ _ (Nat.le_refl _) kb0; have j1 := mb _ _ _ (Nat.le_refl _) kb1; have HP := hide hp; clear hp mb))
  all_goals go_end0
  all_goals exact ⟨rfl, HP.out⟩

end Go.Proofs.YtaejpejfmpbinaaGreatDoor

namespace Go.Proofs.YtaejpejfmpbinaaGreatDoor
open Go.RowKit

theorem ownBlock_slice {g n c : Nat} : (Value.slice (some ⟨g, 0, none⟩) n c).ownBlock = some g := rfl

/-- What Delete leaves. -/
def DelI (m : Nat) (sv : Value) (L : List Ent) (p : Ent → Bool) (w w3 : World) : Prop :=
  ∃ sv', MapI w3 m sv' (L.filter p) ∧ HeadI w3 sv' ∧ sv'.ownBlock = sv.ownBlock ∧ Chg (fun b => b = m ∨ sv.ownBlock = some b) w w3
def DelR (m : Nat) (sv : Value) (L : List Ent) (p : Ent → Bool) (w w3 : World) : Prop :=
  ∃ sv', MapR w3 m sv' (L.filter p) ∧ HeadR w3 sv' ∧ sv'.ownBlock = sv.ownBlock ∧ Chg (fun b => b = m ∨ sv.ownBlock = some b) w w3

/-- Where an entry with this ID stands, the cut is the filter. -/
theorem cutI {L : List Ent} {x : Int} {i : Nat} (hs : SortedI L) (h : i < L.length) (hx : idAt L i = x) : L.take i ++ L.drop (i + 1) = L.filter fun e => e.2.id != x := by
  rw [idAt_eq h] at hx
  refine filter_cut _ h (by simp [hx]) fun j hj hne => ?_
  rw [bne_iff_ne]
  intro hjx
  rcases Nat.lt_or_gt_of_ne hne with hlt | hlt
  · have := List.pairwise_iff_getElem.1 hs j i hj h hlt; omega
  · have := List.pairwise_iff_getElem.1 hs i j h hj hlt; omega
theorem cutR {L : List Ent} {p q : Int} {i : Nat} (hs : Sorted L) (h : i < L.length) (hx : cAt L p q i = 0) : L.take i ++ L.drop (i + 1) = L.filter fun e => !(e.2.pr == p && e.2.id == q) := by
  unfold cAt at hx
  rw [cmpR_zero, prAt_eq h, idAt_eq h] at hx
  refine filter_cut _ h (by simp [hx.1, hx.2]) fun j hj hne => ?_
  have hb : L[j].2.pr ≠ p ∨ L[j].2.id ≠ q := by
    rcases Nat.lt_or_gt_of_ne hne with hlt | hlt
    · have := List.pairwise_iff_getElem.1 hs j i hj h hlt; rw [Rl.before_iff] at this; omega
    · have := List.pairwise_iff_getElem.1 hs i j h hj hlt; rw [Rl.before_iff] at this; omega
  rcases hb with h | h <;> simp [h]

end Go.Proofs.YtaejpejfmpbinaaGreatDoor
