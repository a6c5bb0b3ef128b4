import Derived.Test.YtnjalelblbjfiaaGreatDoorP20
import Derived.BigRegion
import Derived.Laws.ResultCell
import Derived.Test.YtnjalelblbjfiaaGreatDoorP23
import Derived.Test.YtnjalelblbjfiaaGreatDoorP19
namespace Go.Proofs.YtnjalelblbjfiaaGreatDoor
open Go.RowKit

/-- The table of types as it is laid at start-up. -/
def Means (w : World) : Prop := w.cell? ⟨1, 0, none⟩ = some (.string ⟨#[129, 0]⟩) ∧ w.cell? ⟨1, 1, none⟩ = some (.int .i64 1) ∧ w.cell? ⟨1, 2, none⟩ = some (.string ⟨#[8, 0]⟩) ∧ w.cell? ⟨1, 3, none⟩ = some (.int .i64 2)
theorem Means.below {w w' : World} (h : Means w) (hb : Below w.heap.size w w') : Means w' := ⟨cell_later hb h.1, cell_later hb h.2.1, cell_later hb h.2.2.1, cell_later hb h.2.2.2⟩
/-- Two bytes' kind. -/
def kind2 (b : ByteArray) : Int := kindN ⟨#[129, 0]⟩ ⟨#[8, 0]⟩ b
theorem kind_any (b : ByteArray) (w : World) (h : Means w) : Calls Tryz.prog 168 #[.string b] w fun e w' => e = .returned (.int .i64 (kind2 b)) ∧ Below w.heap.size w w' :=
  kindOf_any b _ _ w h.1 h.2.1 h.2.2.1 h.2.2.2

/-- The number of a tag's two bytes. -/
def tagNum (b : ByteArray) : Nat := if h : b.size = 2 then (b[0]'(by omega)).toNat * 256 + (b[1]'(by omega)).toNat else 0
/-- A frame read. -/
def readF (d : ByteArray) : Option Fr :=
  if d.size < 14 then none
  else if kind2 (d.extract 12 14) = 1 then
    (if d.size < 18 then none else some ⟨d.extract 0 6, d.extract 6 12, true, ((tagNum (d.extract 14 16) % 4096 : Nat) : Int), ((tagNum (d.extract 14 16) / 4096 : Nat) : Int), d.extract 16 18, d.extract 18 d.size⟩)
  else some ⟨d.extract 0 6, d.extract 6 12, false, 0, 0, d.extract 12 14, d.extract 14 d.size⟩
def zeroFr : Fr := ⟨⟨#[]⟩, ⟨#[]⟩, false, 0, 0, ⟨#[]⟩, ⟨#[]⟩⟩

theorem ret_fr {tmps : Array Value} {W : World} {b : Nat} {cs : Array Value} (hb : W.heap[b]? = some (.cells cs 146 (0, 0))) (hs : cs.size = 7) (hp : tmps.getD 2 undef = .pointer (some ⟨b, 0, none⟩)) :
    (results Tryz.f104 tmps).run Tryz.prog W = .ok (.tuple #[.agg cs, tmps.getD 3 undef]) W := by
  rw [results_cell_tmp (fn := Tryz.f104) (p := 2) (u := 3) (ty := 146) rfl, hp]
  have hi : (Tryz.prog.info? 146).map (·.size) = some cs.size := by rw [hs]; kernel_rfl
  simp [asAddr, run_loadVar_row W b 146 146 cs (0, 0) _ hb Tryz.underlying146 rfl hi, Result.andThen]

theorem heapDrewN (w : World) (n : Nat) : (w.drewN n).heap = w.heap := by simp
theorem row7_set {W : World} {b : Nat} {t : TypeId} {x0 x1 x2 x3 x4 x5 x6 v0 v1 v2 v3 v4 v5 v6 : Value} (h : W.heap[b]? = some (.cells #[x0, x1, x2, x3, x4, x5, x6] t (0, 0))) :
    (((((((W.setCell ⟨b, 0, none⟩ v0).setCell ⟨b, 1, none⟩ v1).setCell ⟨b, 2, none⟩ v2).setCell ⟨b, 3, none⟩ v3).setCell ⟨b, 4, none⟩ v4).setCell ⟨b, 5, none⟩ v5).setCell ⟨b, 6, none⟩ v6).heap[b]? = some (.cells #[v0, v1, v2, v3, v4, v5, v6] t (0, 0)) := by
  have h0 := heap_setCell_same W b 0 _ _ v0 h
  have h1 := heap_setCell_same _ b 1 _ _ v1 h0
  have h2 := heap_setCell_same _ b 2 _ _ v2 h1
  have h3 := heap_setCell_same _ b 3 _ _ v3 h2
  have h4 := heap_setCell_same _ b 4 _ _ v4 h3
  have h5 := heap_setCell_same _ b 5 _ _ v5 h4
  have h6 := heap_setCell_same _ b 6 _ _ v6 h5
  simpa using h6
theorem row7_low {W : World} {b B : Nat} {w : World} {v0 v1 v2 v3 v4 v5 v6 : Value} (h : Below B w W) (hB : B ≤ b) :
    Below B w (((((((W.setCell ⟨b, 0, none⟩ v0).setCell ⟨b, 1, none⟩ v1).setCell ⟨b, 2, none⟩ v2).setCell ⟨b, 3, none⟩ v3).setCell ⟨b, 4, none⟩ v4).setCell ⟨b, 5, none⟩ v5).setCell ⟨b, 6, none⟩ v6) :=
  ((((((h.setCell hB _).setCell hB _).setCell hB _).setCell hB _).setCell hB _).setCell hB _).setCell hB _

set_option maxRecDepth 100000 in
set_option maxHeartbeats 1000000 in
theorem fRead_any (d : ByteArray) (w : World) (hm : Means w) (hl : d.size ≤ 600) :
    Calls Tryz.prog 104 #[.string d] w fun e w' => e = .returned (.tuple #[.agg (frCells ((readF d).getD zeroFr)), .bool (readF d).isSome]) ∧ Below w.heap.size w w' := by
  by_cases h1 : d.size < 14
  · have hr : readF d = none := by unfold readF; rw [if_pos h1]
    rw [hr]
    have hi : (d.size : Int) < 14 := by omega
    go_enter Tryz.func104, Tryz.ntmps104
    go_wp2
    refine bodyPost_ret (ret_fr (b := w.heap.size) (cs := frCells zeroFr) (allocN w _) rfl rfl) rfl ?_
    exact ⟨rfl, (by repeat (first | exact Below.refl _ _ | assumption | refine Below.drewN ?_ | refine Below.drew ?_ | refine Below.setCell ?_ (by first | exact Nat.le_refl _ | omega | (simp; done) | (simp; omega)) _ | refine Below.alloc ?_ (by first | exact Nat.le_refl _ | omega | (simp; done) | (simp; omega)) _))⟩
  · have hi : ¬ (d.size : Int) < 14 := by omega
    have k6 : (6 : Int) ≤ d.size := by omega
    have k12 : (12 : Int) ≤ d.size := by omega
    have k14 : (14 : Int) ≤ d.size := by omega
    obtain ⟨rf, hrf⟩ : ∃ rf, rf = readF d := ⟨_, rfl⟩
    rw [← hrf]
    have HRF := hide hrf
    have HM := hide hm
    have H1 := hide h1
    clear hrf hm h1
    go_enter Tryz.func104, Tryz.ntmps104
    go_wp2
    go_region
    generalize hW1 : World.drew _ = W1
    have b0 : W1.heap[w.heap.size]? = some (.cells (frCells zeroFr) 146 (0, 0)) := by rw [← hW1]; exact (((Below.refl _ (w.alloc _)).alloc (Nat.le_refl _) _).block _ (by simp)).trans (allocN _ _)
    have b1 : W1.heap[w.heap.size + 1]? = some (.cells #[.string (d.extract 0 6), .string (d.extract 6 12), .bool false, .int .i64 0, .int .i64 0, .string ⟨#[]⟩, .string ⟨#[]⟩] 146 (0, 0)) := by rw [← hW1]; rw [← allocS w]; exact allocN _ _
    have hB1 : Below w.heap.size w W1 := by rw [← hW1]; exact (((Below.refl _ w).alloc (Nat.le_refl _) _).alloc (by simp) _).drew
    have hs1 : W1.heap.size = w.heap.size + 2 := by rw [← hW1]; simp
    clear hW1
    have CK := hide (kind_any (d.extract 12 14) W1 (HM.out.below hB1))
    go_wp2_with fail
    refine CK.out.mono ?_
    rintro e w2 ⟨rfl, hb2⟩
    have B0 := (hb2.block _ (by omega)).trans b0
    have B1 := (hb2.block _ (by omega)).trans b1
    have hB2 : Below w.heap.size w w2 := hB1.trans (hb2.mono hB1.size)
    have hs2 := hb2.size
    have z0 : w.heap.size < w2.heap.size := by omega
    have z1 : w.heap.size + 1 < w2.heap.size := by omega
    clear CK b0 b1 hb2 hB1 hs1 hs2
    have e7 : w.heap.size ≠ w.heap.size + 1 := by omega
    have zero_end : ∀ (W : World) (f : Fr), W.heap[w.heap.size]? = some (.cells (frCells zeroFr) 146 (0, 0)) → Below w.heap.size w W →
      (((((((W.setCell ⟨w.heap.size, 0, none⟩ (.string f.to)).setCell ⟨w.heap.size, 1, none⟩ (.string f.fr)).setCell ⟨w.heap.size, 2, none⟩ (.bool f.tagged)).setCell ⟨w.heap.size, 3, none⟩ (.int .i64 f.vlan)).setCell ⟨w.heap.size, 4, none⟩ (.int .i64 f.mark)).setCell ⟨w.heap.size, 5, none⟩ (.string f.ty)).setCell ⟨w.heap.size, 6, none⟩ (.string f.rest)).heap[w.heap.size]? = some (.cells (frCells f) 146 (0, 0)) := fun W f h _ => row7_set h
    by_cases hkd : kind2 (d.extract 12 14) = 1
    · have hd : (kind2 (d.extract 12 14) == 1) = true := by simpa using hkd
      by_cases h18 : d.size < 18
      · obtain rfl : rf = none := by rw [HRF.out]; unfold readF; rw [if_neg H1.out, if_pos hkd, if_pos h18]
        have hi8 : (d.size : Int) < 18 := by omega
        have c0 : w2.cell? ⟨w.heap.size, 0, none⟩ = some (.string ⟨#[]⟩) := cellRow B0 rfl
        have c1 : w2.cell? ⟨w.heap.size, 1, none⟩ = some (.string ⟨#[]⟩) := cellRow B0 rfl
        have c2 : w2.cell? ⟨w.heap.size, 2, none⟩ = some (.bool false) := cellRow B0 rfl
        have c3 : w2.cell? ⟨w.heap.size, 3, none⟩ = some (.int .i64 0) := cellRow B0 rfl
        have c4 : w2.cell? ⟨w.heap.size, 4, none⟩ = some (.int .i64 0) := cellRow B0 rfl
        have c5 : w2.cell? ⟨w.heap.size, 5, none⟩ = some (.string ⟨#[]⟩) := cellRow B0 rfl
        have c6 : w2.cell? ⟨w.heap.size, 6, none⟩ = some (.string ⟨#[]⟩) := cellRow B0 rfl
        have f0 : ∀ j, w2.frozen? ⟨w.heap.size, j, none⟩ = false := fun j => frzRow B0 j
        have ZE := hide (zero_end w2 zeroFr B0 hB2)
        have HB2 := hide hB2
        clear zero_end hkd h18 B0 B1 HRF hB2
        go_wp2
        refine bodyPost_ret (ret_fr ZE.out rfl rfl) rfl ?_
        exact ⟨rfl, row7_low HB2.out (Nat.le_refl _)⟩
      · obtain rfl : rf = some ⟨d.extract 0 6, d.extract 6 12, true, ((tagNum (d.extract 14 16) % 4096 : Nat) : Int), ((tagNum (d.extract 14 16) / 4096 : Nat) : Int), d.extract 16 18, d.extract 18 d.size⟩ := by rw [HRF.out]; unfold readF; rw [if_neg H1.out, if_pos hkd, if_neg h18]
        have hi8 : ¬ (d.size : Int) < 18 := by omega
        have k16 : (16 : Int) ≤ d.size := by omega
        have k18 : (18 : Int) ≤ d.size := by omega
        have hz2 : (d.extract 14 16).size = 2 := by rw [ByteArray.size_extract]; omega
        have hr1 : tagRaw (d.extract 14 16) hz2 = ((tagNum (d.extract 14 16) : Nat) : Int) := by rw [tagRaw_eq, tagNum, dif_pos hz2]
        have hr2 : tagNum (d.extract 14 16) < 65536 := by
          rw [tagNum, dif_pos hz2]
          have := ((d.extract 14 16)[0]'(by omega)).toNat_lt
          have := ((d.extract 14 16)[1]'(by omega)).toNat_lt
          omega
        have hr3 : bits BinOp.and IntKind.i64 (tagRaw (d.extract 14 16) hz2) 4095 = ((tagNum (d.extract 14 16) % 4096 : Nat) : Int) := by rw [hr1, and_low _ hr2]
        have hr4 : tagRaw (d.extract 14 16) hz2 / 4096 = ((tagNum (d.extract 14 16) / 4096 : Nat) : Int) := by rw [hr1]; omega
        have CR := readTag_any (w.heap.size + 1) (d.extract 14 16) w2 hz2 false 0 0 (cellRow B1 rfl) (cellRow B1 rfl) (cellRow B1 rfl) (fun j => frzRow B1 j)
        rw [hr3, hr4] at CR
        have HCR := hide CR
        clear CR hr1 hr2 hr3 hr4 hkd h18 H1
        go_wp2_with fail
        refine HCR.out.mono ?_
        rintro e w3 ⟨rfl, n, hw3⟩
        have BX0 : w3.heap[w.heap.size]? = some (.cells (frCells zeroFr) 146 (0, 0)) := by
          rw [hw3, heapDrewN]
          exact (((heap_setCell_other _ _ _ _ e7).trans (heap_setCell_other _ _ _ _ e7)).trans (heap_setCell_other _ _ _ _ e7)).trans B0
        have BX1 : w3.heap[w.heap.size + 1]? = some (.cells #[.string (d.extract 0 6), .string (d.extract 6 12), .bool true, .int .i64 ((tagNum (d.extract 14 16) % 4096 : Nat) : Int), .int .i64 ((tagNum (d.extract 14 16) / 4096 : Nat) : Int), .string ⟨#[]⟩, .string ⟨#[]⟩] 146 (0, 0)) := by
          rw [hw3, heapDrewN]
          exact (heap_setCell_same _ _ 4 _ _ _ (heap_setCell_same _ _ 3 _ _ _ (heap_setCell_same _ _ 2 _ _ _ B1))).trans (by simp)
        have HBX : Below w.heap.size w w3 := by rw [hw3]; exact below_drewN (((hB2.setCell (by simp) _).setCell (by simp) _).setCell (by simp) _) n
        have zx0 : w.heap.size < w3.heap.size := by rw [hw3, heapDrewN]; simpa using z0
        have zx1 : w.heap.size + 1 < w3.heap.size := by rw [hw3, heapDrewN]; simpa using z1
        clear hw3 HCR z0 z1
        have x5 : w3.cell? ⟨w.heap.size + 1, 5, none⟩ = some (.string ⟨#[]⟩) := cellRow BX1 rfl
        have x6 : w3.cell? ⟨w.heap.size + 1, 6, none⟩ = some (.string ⟨#[]⟩) := cellRow BX1 rfl
        have fx : ∀ j, w3.frozen? ⟨w.heap.size + 1, j, none⟩ = false := fun j => frzRow BX1 j
        have fx5 := fx 5
        have fx6 := fx 6
        obtain ⟨Y, hY⟩ : ∃ Y, Y = ((w3.setCell ⟨w.heap.size + 1, 5, none⟩ (.string (d.extract 16 18))).setCell ⟨w.heap.size + 1, 6, none⟩ (.string (d.extract 18 d.size))).drew := ⟨_, rfl⟩
        have Y0 : Y.heap[w.heap.size]? = some (.cells (frCells zeroFr) 146 (0, 0)) := by rw [hY]; exact ((heap_setCell_other _ _ _ _ e7).trans (heap_setCell_other _ _ _ _ e7)).trans BX0
        have Y1 : Y.heap[w.heap.size + 1]? = some (.cells (frCells ⟨d.extract 0 6, d.extract 6 12, true, ((tagNum (d.extract 14 16) % 4096 : Nat) : Int), ((tagNum (d.extract 14 16) / 4096 : Nat) : Int), d.extract 16 18, d.extract 18 d.size⟩) 146 (0, 0)) := by rw [hY]; exact (heap_setCell_same _ _ 6 _ _ _ (heap_setCell_same _ _ 5 _ _ _ BX1)).trans (by simp [frCells])
        have hBY : Below w.heap.size w Y := by rw [hY]; exact ((HBX.setCell (by simp) _).setCell (by simp) _).drew
        have c0 : Y.cell? ⟨w.heap.size, 0, none⟩ = some (.string ⟨#[]⟩) := cellRow Y0 rfl
        have c1 : Y.cell? ⟨w.heap.size, 1, none⟩ = some (.string ⟨#[]⟩) := cellRow Y0 rfl
        have c2 : Y.cell? ⟨w.heap.size, 2, none⟩ = some (.bool false) := cellRow Y0 rfl
        have c3 : Y.cell? ⟨w.heap.size, 3, none⟩ = some (.int .i64 0) := cellRow Y0 rfl
        have c4 : Y.cell? ⟨w.heap.size, 4, none⟩ = some (.int .i64 0) := cellRow Y0 rfl
        have c5 : Y.cell? ⟨w.heap.size, 5, none⟩ = some (.string ⟨#[]⟩) := cellRow Y0 rfl
        have c6 : Y.cell? ⟨w.heap.size, 6, none⟩ = some (.string ⟨#[]⟩) := cellRow Y0 rfl
        have y0 : Y.cell? ⟨w.heap.size + 1, 0, none⟩ = some (.string (d.extract 0 6)) := cellRow Y1 rfl
        have y1 : Y.cell? ⟨w.heap.size + 1, 1, none⟩ = some (.string (d.extract 6 12)) := cellRow Y1 rfl
        have y2 : Y.cell? ⟨w.heap.size + 1, 2, none⟩ = some (.bool true) := cellRow Y1 rfl
        have y3 : Y.cell? ⟨w.heap.size + 1, 3, none⟩ = some (.int .i64 ((tagNum (d.extract 14 16) % 4096 : Nat) : Int)) := cellRow Y1 rfl
        have y4 : Y.cell? ⟨w.heap.size + 1, 4, none⟩ = some (.int .i64 ((tagNum (d.extract 14 16) / 4096 : Nat) : Int)) := cellRow Y1 rfl
        have y5 : Y.cell? ⟨w.heap.size + 1, 5, none⟩ = some (.string (d.extract 16 18)) := cellRow Y1 rfl
        have y6 : Y.cell? ⟨w.heap.size + 1, 6, none⟩ = some (.string (d.extract 18 d.size)) := cellRow Y1 rfl
        have f0 : ∀ j, Y.frozen? ⟨w.heap.size, j, none⟩ = false := fun j => frzRow Y0 j
        have ZE := hide (zero_end Y ⟨d.extract 0 6, d.extract 6 12, true, ((tagNum (d.extract 14 16) % 4096 : Nat) : Int), ((tagNum (d.extract 14 16) / 4096 : Nat) : Int), d.extract 16 18, d.extract 18 d.size⟩ Y0 hBY)
        have HBY := hide hBY
        have HY := hide hY
        clear zero_end Y0 Y1 hBY hY HRF hB2 B0 B1 fx
        clear BX0 BX1 HBX
        go_wp2
        go_region
        rw [← HY.out]
        go_wp2
        refine bodyPost_ret (ret_fr ZE.out rfl rfl) rfl ?_
        exact ⟨rfl, row7_low HBY.out (Nat.le_refl _)⟩
    · have hd : (kind2 (d.extract 12 14) == 1) = false := by simpa using hkd
      obtain rfl : rf = some ⟨d.extract 0 6, d.extract 6 12, false, 0, 0, d.extract 12 14, d.extract 14 d.size⟩ := by rw [HRF.out]; unfold readF; rw [if_neg H1.out, if_neg hkd]
      clear hkd H1
      have x5 : w2.cell? ⟨w.heap.size + 1, 5, none⟩ = some (.string ⟨#[]⟩) := cellRow B1 rfl
      have x6 : w2.cell? ⟨w.heap.size + 1, 6, none⟩ = some (.string ⟨#[]⟩) := cellRow B1 rfl
      have fx : ∀ j, w2.frozen? ⟨w.heap.size + 1, j, none⟩ = false := fun j => frzRow B1 j
      have fx5 := fx 5
      have fx6 := fx 6
      obtain ⟨Y, hY⟩ : ∃ Y, Y = ((w2.setCell ⟨w.heap.size + 1, 5, none⟩ (.string (d.extract 12 14))).setCell ⟨w.heap.size + 1, 6, none⟩ (.string (d.extract 14 d.size))).drew := ⟨_, rfl⟩
      have Y0 : Y.heap[w.heap.size]? = some (.cells (frCells zeroFr) 146 (0, 0)) := by rw [hY]; exact ((heap_setCell_other _ _ _ _ e7).trans (heap_setCell_other _ _ _ _ e7)).trans B0
      have Y1 : Y.heap[w.heap.size + 1]? = some (.cells (frCells ⟨d.extract 0 6, d.extract 6 12, false, 0, 0, d.extract 12 14, d.extract 14 d.size⟩) 146 (0, 0)) := by rw [hY]; exact (heap_setCell_same _ _ 6 _ _ _ (heap_setCell_same _ _ 5 _ _ _ B1)).trans (by simp [frCells])
      have hBY : Below w.heap.size w Y := by rw [hY]; exact ((hB2.setCell (by simp) _).setCell (by simp) _).drew
      have c0 : Y.cell? ⟨w.heap.size, 0, none⟩ = some (.string ⟨#[]⟩) := cellRow Y0 rfl
      have c1 : Y.cell? ⟨w.heap.size, 1, none⟩ = some (.string ⟨#[]⟩) := cellRow Y0 rfl
      have c2 : Y.cell? ⟨w.heap.size, 2, none⟩ = some (.bool false) := cellRow Y0 rfl
      have c3 : Y.cell? ⟨w.heap.size, 3, none⟩ = some (.int .i64 0) := cellRow Y0 rfl
      have c4 : Y.cell? ⟨w.heap.size, 4, none⟩ = some (.int .i64 0) := cellRow Y0 rfl
      have c5 : Y.cell? ⟨w.heap.size, 5, none⟩ = some (.string ⟨#[]⟩) := cellRow Y0 rfl
      have c6 : Y.cell? ⟨w.heap.size, 6, none⟩ = some (.string ⟨#[]⟩) := cellRow Y0 rfl
      have y0 : Y.cell? ⟨w.heap.size + 1, 0, none⟩ = some (.string (d.extract 0 6)) := cellRow Y1 rfl
      have y1 : Y.cell? ⟨w.heap.size + 1, 1, none⟩ = some (.string (d.extract 6 12)) := cellRow Y1 rfl
      have y2 : Y.cell? ⟨w.heap.size + 1, 2, none⟩ = some (.bool false) := cellRow Y1 rfl
      have y3 : Y.cell? ⟨w.heap.size + 1, 3, none⟩ = some (.int .i64 0) := cellRow Y1 rfl
      have y4 : Y.cell? ⟨w.heap.size + 1, 4, none⟩ = some (.int .i64 0) := cellRow Y1 rfl
      have y5 : Y.cell? ⟨w.heap.size + 1, 5, none⟩ = some (.string (d.extract 12 14)) := cellRow Y1 rfl
      have y6 : Y.cell? ⟨w.heap.size + 1, 6, none⟩ = some (.string (d.extract 14 d.size)) := cellRow Y1 rfl
      have f0 : ∀ j, Y.frozen? ⟨w.heap.size, j, none⟩ = false := fun j => frzRow Y0 j
      have ZE := hide (zero_end Y ⟨d.extract 0 6, d.extract 6 12, false, 0, 0, d.extract 12 14, d.extract 14 d.size⟩ Y0 hBY)
      have HBY := hide hBY
      have HY := hide hY
      clear zero_end Y0 Y1 hBY hY HRF hB2 B0 B1 fx
      go_wp2
      go_region
      rw [← HY.out]
      go_wp2
      refine bodyPost_ret (ret_fr ZE.out rfl rfl) rfl ?_
      exact ⟨rfl, row7_low HBY.out (Nat.le_refl _)⟩
end Go.Proofs.YtnjalelblbjfiaaGreatDoor

namespace Go.Proofs.YtnjalelblbjfiaaGreatDoor
open Go.RowKit
open Go.Sort (grow)

/-- What comes of taking a frame apart. -/
def fateRead (d : ByteArray) : Int := if 600 < d.size then 10 else match readF d with | none => 1 | some f => if isGrp f.fr then 2 else -1

theorem PgAt.setFr {w : World} {g : Nat} {p : Pg} {ov : Value} (h : PgAt w g p ov) (f : Fr) :
    PgAt (((((((w.setCell ⟨g, 2, none⟩ (.string f.to)).setCell ⟨g, 3, none⟩ (.string f.fr)).setCell ⟨g, 4, none⟩ (.bool f.tagged)).setCell ⟨g, 5, none⟩ (.int .i64 f.vlan)).setCell ⟨g, 6, none⟩ (.int .i64 f.mark)).setCell ⟨g, 7, none⟩ (.string f.ty)).setCell ⟨g, 8, none⟩ (.string f.rest)) g { p with f := f } ov := by
  unfold PgAt at *
  have h2 := heap_setCell_same w g 2 _ _ (.string f.to) h
  have h3 := heap_setCell_same _ g 3 _ _ (.string f.fr) h2
  have h4 := heap_setCell_same _ g 4 _ _ (.bool f.tagged) h3
  have h5 := heap_setCell_same _ g 5 _ _ (.int .i64 f.vlan) h4
  have h6 := heap_setCell_same _ g 6 _ _ (.int .i64 f.mark) h5
  have h7 := heap_setCell_same _ g 7 _ _ (.string f.ty) h6
  have h8 := heap_setCell_same _ g 8 _ _ (.string f.rest) h7
  rw [h8]
  simp [pgCells]

set_option maxRecDepth 100000 in
set_option maxHeartbeats 1000000 in
theorem pgRead_any (g : Nat) (p : Pg) (ov : Value) (w : World) (hg : PgAt w g p ov) (hm : Means w) :
    Calls Tryz.prog 57 #[.pointer (some ⟨g, 0, none⟩)] w fun e w' => e = .returned (.int .i64 (fateRead p.data)) ∧ (fateRead p.data = -1 → ∃ f, readF p.data = some f ∧ PgAt w' g { p with f := f } ov) ∧ (fateRead p.data ≠ -1 → PgAt w' g p ov) ∧ OnlyG g w w' := by
  have g1 : w.cell? ⟨g, 1, none⟩ = some (.string p.data) := hg.cell rfl
  obtain ⟨fr, hfr⟩ : ∃ fr, fr = fateRead p.data := ⟨_, rfl⟩
  rw [← hfr]
  have HG0 := hide hg
  by_cases hs : 600 < p.data.size
  · have hi : (600 : Int) < p.data.size := by omega
    obtain rfl : fr = 10 := by rw [hfr, fateRead, if_pos hs]
    clear hfr
    go_enter Tryz.func57, Tryz.ntmps57
    go_wp2
    go_ret
    exact ⟨rfl, fun h => absurd h (by decide), fun _ => HG0.out, OnlyG.of_below (Below.refl _ _)⟩
  · have hi : ¬ (600 : Int) < p.data.size := by omega
    have CR := fRead_any p.data w hm (by omega)
    rw [fateRead, if_neg hs] at hfr
    cases hrf : readF p.data with
    | none =>
      rw [hrf] at CR hfr
      simp only [frCells, zeroFr, Option.getD_none, Option.isSome_none] at CR
      obtain rfl : fr = 1 := hfr
      have HC := hide CR
      clear CR hs hm
      go_enter Tryz.func57, Tryz.ntmps57
      go_wp2_with fail
      refine HC.out.mono ?_
      rintro e w1 ⟨rfl, hb1⟩
      go_wp2
      go_ret
      exact ⟨rfl, fun h => absurd h (by decide), fun _ => HG0.out.below (hb1.alloc hb1.size _), OnlyG.of_below (hb1.alloc hb1.size _)⟩
    | some f =>
      rw [hrf] at CR hfr
      simp only [frCells, Option.getD_some, Option.isSome_some] at CR
      replace hfr : fr = if isGrp f.fr then 2 else -1 := hfr
      have HC := hide CR
      have HFR := hide hfr
      have HG := hide hg
      have hglt := hg.lt
      have CI := hide fun (W : World) => isGroup_any f.fr W
      clear hfr CR hs hm hg
      generalize isGrp f.fr = gr at *
      go_enter Tryz.func57, Tryz.ntmps57
      go_wp2_with fail
      refine HC.out.mono ?_
      rintro e w1 ⟨rfl, hb1⟩
      have HB1 := hide hb1
      have hz1 := hb1.size
      have hg1 : g < w1.heap.size := by omega
      have hne : ¬ g = w1.heap.size := by omega
      have hne2 : ¬ w1.heap.size = g := by omega
      obtain ⟨W, hW⟩ : ∃ W, W = w1.alloc (.cells (frCells f) 146) := ⟨_, rfl⟩
      have hBW : Below w.heap.size w W := by rw [hW]; exact hb1.alloc hz1 _
      have hblk : W.heap[w1.heap.size]? = some (.cells (frCells f) 146 (0, 0)) := by rw [hW]; exact allocN _ _
      have f0 : W.cell? ⟨w1.heap.size, 0, none⟩ = some (.string f.to) := cellRow hblk rfl
      have f1 : W.cell? ⟨w1.heap.size, 1, none⟩ = some (.string f.fr) := cellRow hblk rfl
      have f2 : W.cell? ⟨w1.heap.size, 2, none⟩ = some (.bool f.tagged) := cellRow hblk rfl
      have f3 : W.cell? ⟨w1.heap.size, 3, none⟩ = some (.int .i64 f.vlan) := cellRow hblk rfl
      have f4 : W.cell? ⟨w1.heap.size, 4, none⟩ = some (.int .i64 f.mark) := cellRow hblk rfl
      have f5 : W.cell? ⟨w1.heap.size, 5, none⟩ = some (.string f.ty) := cellRow hblk rfl
      have f6 : W.cell? ⟨w1.heap.size, 6, none⟩ = some (.string f.rest) := cellRow hblk rfl
      have PW := HG.out.below hBW
      have fz : ∀ i, W.frozen? ⟨g, i, none⟩ = false := fun i => PW.frozen i
      have t2 : W.cell? ⟨g, 2, none⟩ = some (.string p.f.to) := PW.cell rfl
      have t3 : W.cell? ⟨g, 3, none⟩ = some (.string p.f.fr) := PW.cell rfl
      have t4 : W.cell? ⟨g, 4, none⟩ = some (.bool p.f.tagged) := PW.cell rfl
      have t5 : W.cell? ⟨g, 5, none⟩ = some (.int .i64 p.f.vlan) := PW.cell rfl
      have t6 : W.cell? ⟨g, 6, none⟩ = some (.int .i64 p.f.mark) := PW.cell rfl
      have t7 : W.cell? ⟨g, 7, none⟩ = some (.string p.f.ty) := PW.cell rfl
      have t8 : W.cell? ⟨g, 8, none⟩ = some (.string p.f.rest) := PW.cell rfl
      have HPF := hide (PW.setFr f)
      have HOW := hide (OnlyG.of_below (g := g) hBW)
      have HBW := hide hBW
      simp only [frCells] at hW
      have HW := hide hW
      clear hb1 hW hBW hblk PW HC g1
      go_wp2_with fail
      refine (CI.out _).mono ?_
      rintro e w2 ⟨rfl, hw2⟩
      rw [hw2, ← HW.out]
      clear hw2 CI
      cases gr with
      | true =>
        go_wp2
        go_ret
        exact ⟨by rw [HFR.out]; rfl, fun h => by rw [HFR.out] at h; exact absurd h (by decide), fun _ => HG.out.below HBW.out, HOW.out⟩
      | false =>
        go_wp2
        go_ret
        exact ⟨by rw [HFR.out]; rfl, fun _ => ⟨f, rfl, HPF.out⟩, fun h => by rw [HFR.out] at h; exact absurd rfl h, ((((((HOW.out.set 2 _).set 3 _).set 4 _).set 5 _).set 6 _).set 7 _).set 8 _⟩

theorem learnQ_from {k m : Nat} {sv : Value} {K : List Mc} {e0 : Mc} {w W w3 : World} (hB : Below w.heap.size w W) (h : LearnQ k m sv K e0 W w3) : LearnQ k m sv K e0 w w3 := by
  obtain ⟨sv', K', h1, h2, h3, h4⟩ := h
  exact ⟨sv', K', h1, h2, fun b hb => (h3 b hb).imp id fun h' => Nat.le_trans hB.size h', (Chg.of_below hB).trans h4⟩

theorem LearnQ.cell {k m : Nat} {sv : Value} {K : List Mc} {e0 : Mc} {w w3 : World} (h : LearnQ k m sv K e0 w w3) {b i : Nat} {v : Value} (hx : ¬ (b = m ∨ sv.ownBlock = some b)) (hc : w.cell? ⟨b, i, none⟩ = some v) : w3.cell? ⟨b, i, none⟩ = some v := by
  obtain ⟨_, _, _, _, _, h4⟩ := h
  exact h4.block.cell hx hc

set_option maxRecDepth 100000 in
set_option maxHeartbeats 1000000 in
theorem learnS_any (s g k m : Nat) (sv : Value) (K : List Mc) (p : Pg) (ov : Value) (w : World) (h5 : w.cell? ⟨s, 5, none⟩ = some (.pointer (some ⟨k, 0, none⟩))) (hK : KnownAt w k m sv K) (hg : PgAt w g p ov) (hl : p.f.fr.size ≤ 1000) (hn : K.length ≤ 64) (hs : ¬ (s = m ∨ sv.ownBlock = some s)) (hgx : ¬ (g = m ∨ sv.ownBlock = some g)) :
    Calls Tryz.prog 59 #[.pointer (some ⟨s, 0, none⟩), .pointer (some ⟨g, 0, none⟩)] w fun e w' => e = .returned (.int .i64 (-1)) ∧ LearnQ k m sv K ⟨p.f.vlan, p.f.fr, p.port, 0⟩ w w' := by
  have CL := hide fun (W : World) (hb : Below w.heap.size w W) => learn_any k m sv K p.f.vlan p.f.fr p.port W (hK.below hb) (by omega) hn
  have g0 : w.cell? ⟨g, 0, none⟩ = some (.int .i64 p.port) := hg.cell rfl
  have g3 : w.cell? ⟨g, 3, none⟩ = some (.string p.f.fr) := hg.cell rfl
  have g5 : w.cell? ⟨g, 5, none⟩ = some (.int .i64 p.f.vlan) := hg.cell rfl
  have HS := hide hs
  have HGX := hide hgx
  clear hK hg hs hgx
  go_enter Tryz.func59, Tryz.ntmps59
  go_wp2
  go_region_held3 (fun w' => w'.cell? ⟨s, 5, none⟩ = some (.pointer (some ⟨k, 0, none⟩)) ∧ w'.cell? ⟨g, 0, none⟩ = some (.int .i64 p.port) ∧ w'.cell? ⟨g, 3, none⟩ = some (.string p.f.fr) ∧ w'.cell? ⟨g, 5, none⟩ = some (.int .i64 p.f.vlan)) (first | go_keep | trivial)
    (first | (go_at_call 107; refine (CL.out _ ?_).mono ?_; (exact (by repeat (first | exact Below.refl _ _ | assumption | refine Below.drewN ?_ | refine Below.drew ?_ | refine Below.setCell ?_ (by first | exact Nat.le_refl _ | omega | (simp; done) | (simp; omega)) _ | refine Below.alloc ?_ (by first | exact Nat.le_refl _ | omega | (simp; done) | (simp; omega)) _))); rintro e w3 ⟨rfl, hp⟩; have HL := hide (learnQ_from (w := w) (by repeat (first | exact Below.refl _ _ | assumption | refine Below.drewN ?_ | refine Below.drew ?_ | refine Below.setCell ?_ (by first | exact Nat.le_refl _ | omega | (simp; done) | (simp; omega)) _ | refine Below.alloc ?_ (by first | exact Nat.le_refl _ | omega | (simp; done) | (simp; omega)) _)) hp); have k5 := HL.out.cell HS.out h5; have k0 := HL.out.cell HGX.out g0; have k3 := HL.out.cell HGX.out g3; have k4 := HL.out.cell HGX.out g5; clear hp))
  all_goals go_wp2
  all_goals go_ret
  all_goals exact ⟨rfl, by first | exact HL.out | exact HL.out.drew⟩

set_option maxRecDepth 100000 in
theorem isIPv4_any (g : Nat) (p : Pg) (ov : Value) (w : World) (hg : PgAt w g p ov) (hm : Means w) :
    Calls Tryz.prog 108 #[.pointer (some ⟨g, 0, none⟩)] w fun e w' => e = .returned (.bool (kind2 p.f.ty == 2)) ∧ Below w.heap.size w w' := by
  have g7 : w.cell? ⟨g, 7, none⟩ = some (.string p.f.ty) := hg.cell rfl
  have C := hide (kind_any p.f.ty w hm)
  clear hg hm
  go_enter Tryz.func108, Tryz.ntmps108
  go_wp2_with fail
  refine C.out.mono ?_
  rintro e w1 ⟨rfl, hb⟩
  go_wp2
  go_ret
  exact ⟨rfl, hb⟩

set_option maxRecDepth 100000 in
theorem unpackN_any (g : Nat) (p : Pg) (ov : Value) (w : World) (hg : PgAt w g p ov) (hm : Means w) (hk : (kind2 p.f.ty == 2) = false) :
    Calls Tryz.prog 60 #[.pointer (some ⟨g, 0, none⟩)] w fun e w' => e = .returned (.int .i64 (-1)) ∧ Below w.heap.size w w' := by
  have C := isIPv4_any g p ov w hg hm
  rw [hk] at C
  have HC := hide C
  clear C hg hm
  go_enter Tryz.func60, Tryz.ntmps60
  go_wp2_with fail
  refine HC.out.mono ?_
  rintro e w1 ⟨rfl, hb⟩
  go_wp2
  go_ret
  exact ⟨rfl, hb⟩

set_option maxRecDepth 100000 in
theorem judgeN_any (s g : Nat) (p : Pg) (ov : Value) (w : World) (hg : PgAt w g p ov) (hr : p.right = false) :
    Calls Tryz.prog 61 #[.pointer (some ⟨s, 0, none⟩), .pointer (some ⟨g, 0, none⟩)] w fun e w' => e = .returned (.int .i64 (-1)) ∧ w' = w := by
  have g12 : w.cell? ⟨g, 12, none⟩ = some (.bool false) := by rw [← hr]; exact hg.cell rfl
  clear hg hr
  go_enter Tryz.func61, Tryz.ntmps61
  go_wp2
  go_ret
  exact ⟨rfl, rfl⟩

set_option maxRecDepth 100000 in
theorem routeN_any (s g : Nat) (p : Pg) (ov : Value) (w : World) (hg : PgAt w g p ov) (hm : Means w) (hk : (kind2 p.f.ty == 2) = false) :
    Calls Tryz.prog 62 #[.pointer (some ⟨s, 0, none⟩), .pointer (some ⟨g, 0, none⟩)] w fun e w' => e = .returned (.int .i64 (-1)) ∧ Below w.heap.size w w' := by
  have C := isIPv4_any g p ov w hg hm
  rw [hk] at C
  have HC := hide C
  clear C hg hm
  go_enter Tryz.func62, Tryz.ntmps62
  go_wp2_with fail
  refine HC.out.mono ?_
  rintro e w1 ⟨rfl, hb⟩
  go_wp2
  go_ret
  exact ⟨rfl, hb⟩
end Go.Proofs.YtnjalelblbjfiaaGreatDoor

namespace Go.Proofs.YtnjalelblbjfiaaGreatDoor
open Go.RowKit

/-- A stage: it ends the way, or lets it go on. -/
def StageOk (f : Nat) (args : Array Value) (I I' : World → Prop) (Out : Int → World → Prop) : Prop :=
  ∀ W, I W → Calls Tryz.prog f args W fun e W' => ∃ r : Int, e = .returned (.int .i64 r) ∧ ((r = -1 ∧ I' W') ∨ (r ≠ -1 ∧ Out r W'))
/-- The stages as they are handed on. -/
def stageCells (s : Nat) : Array Value := #[.func (.func 56) #[.pointer (some ⟨s, 0, none⟩)] #[], .func (.func 57) #[] #[], .func (.func 58) #[.pointer (some ⟨s, 0, none⟩)] #[], .func (.func 59) #[.pointer (some ⟨s, 0, none⟩)] #[], .func (.func 60) #[] #[], .func (.func 61) #[.pointer (some ⟨s, 0, none⟩)] #[], .func (.func 62) #[.pointer (some ⟨s, 0, none⟩)] #[], .func (.func 63) #[.pointer (some ⟨s, 0, none⟩)] #[]]

set_option maxRecDepth 100000 in
set_option maxHeartbeats 2000000 in
theorem pass_any (s g sb : Nat) (I : Nat → World → Prop) (Out : Int → World → Prop) (w : World) (hI : I 0 w)
    (hst : ∀ i W, I i W → W.heap[sb]? = some (.cells (stageCells s) 217 (0, 0)))
    (H0 : StageOk 56 #[.pointer (some ⟨s, 0, none⟩), .pointer (some ⟨g, 0, none⟩)] (I 0) (I 1) Out)
    (H1 : StageOk 57 #[.pointer (some ⟨g, 0, none⟩)] (I 1) (I 2) Out)
    (H2 : StageOk 58 #[.pointer (some ⟨s, 0, none⟩), .pointer (some ⟨g, 0, none⟩)] (I 2) (I 3) Out)
    (H3 : StageOk 59 #[.pointer (some ⟨s, 0, none⟩), .pointer (some ⟨g, 0, none⟩)] (I 3) (I 4) Out)
    (H4 : StageOk 60 #[.pointer (some ⟨g, 0, none⟩)] (I 4) (I 5) Out)
    (H5 : StageOk 61 #[.pointer (some ⟨s, 0, none⟩), .pointer (some ⟨g, 0, none⟩)] (I 5) (I 6) Out)
    (H6 : StageOk 62 #[.pointer (some ⟨s, 0, none⟩), .pointer (some ⟨g, 0, none⟩)] (I 6) (I 7) Out)
    (H7 : StageOk 63 #[.pointer (some ⟨s, 0, none⟩), .pointer (some ⟨g, 0, none⟩)] (I 7) (I 8) Out)
    (H8 : ∀ W, I 8 W → Calls Tryz.prog 103 #[.pointer (some ⟨g, 0, none⟩)] W fun e W' => ∃ r : Int, e = .returned (.int .i64 r) ∧ Out r W') :
    Calls Tryz.prog 55 #[.pointer (some ⟨g, 0, none⟩), .slice (some ⟨sb, 0, none⟩) 8 8] w fun e w' => ∃ r : Int, e = .returned (.int .i64 r) ∧ Out r w' := by
  go_enter Tryz.func55, Tryz.ntmps55
  go_wp2
  go_loopw [10] (fun i wr => ∃ k : Nat, k ≤ 8 ∧ i = .int .i64 k ∧ Hid (I k wr)) (fun i _ => 8 - (intOf i).toNat)
  case atStart => exact ⟨0, by omega, rfl, hide hI⟩
  case round =>
    obtain ⟨k, hk, rfl, hIk⟩ := hrel
    match k, hk, hIk with
    | 0, _, hIk =>
      have hc : wr.cell? ⟨sb, 0, none⟩ = some (.func (.func 56) #[.pointer (some ⟨s, 0, none⟩)] #[]) := by simp [World.cell?, hst _ _ hIk.out, stageCells]
      have C := hide (H0 wr hIk.out)
      clear hst H0 H1 H2 H3 H4 H5 H6 H7 H8
      go_wp2_with fail
      refine C.out.mono ?_
      rintro e W' ⟨r, rfl, ⟨rfl, h1⟩ | ⟨hr, h2⟩⟩
      · have K1 := hide h1
        clear h1 C
        go_wp2
        go_roundw
        case rel => exact ⟨1, by omega, rfl, K1⟩
        case measure => simp [intOf]
      · have K1 := hide h2
        clear h2 C
        go_wp2
        go_ret
        exact ⟨r, rfl, K1.out⟩
    | 1, _, hIk =>
      have hc : wr.cell? ⟨sb, 1, none⟩ = some (.func (.func 57) #[] #[]) := by simp [World.cell?, hst _ _ hIk.out, stageCells]
      have C := hide (H1 wr hIk.out)
      clear hst H0 H1 H2 H3 H4 H5 H6 H7 H8
      go_wp2_with fail
      refine C.out.mono ?_
      rintro e W' ⟨r, rfl, ⟨rfl, h1⟩ | ⟨hr, h2⟩⟩
      · have K1 := hide h1
        clear h1 C
        go_wp2
        go_roundw
        case rel => exact ⟨2, by omega, rfl, K1⟩
        case measure => simp [intOf]
      · have K1 := hide h2
        clear h2 C
        go_wp2
        go_ret
        exact ⟨r, rfl, K1.out⟩
    | 2, _, hIk =>
      have hc : wr.cell? ⟨sb, 2, none⟩ = some (.func (.func 58) #[.pointer (some ⟨s, 0, none⟩)] #[]) := by simp [World.cell?, hst _ _ hIk.out, stageCells]
      have C := hide (H2 wr hIk.out)
      clear hst H0 H1 H2 H3 H4 H5 H6 H7 H8
      go_wp2_with fail
      refine C.out.mono ?_
      rintro e W' ⟨r, rfl, ⟨rfl, h1⟩ | ⟨hr, h2⟩⟩
      · have K1 := hide h1
        clear h1 C
        go_wp2
        go_roundw
        case rel => exact ⟨3, by omega, rfl, K1⟩
        case measure => simp [intOf]
      · have K1 := hide h2
        clear h2 C
        go_wp2
        go_ret
        exact ⟨r, rfl, K1.out⟩
    | 3, _, hIk =>
      have hc : wr.cell? ⟨sb, 3, none⟩ = some (.func (.func 59) #[.pointer (some ⟨s, 0, none⟩)] #[]) := by simp [World.cell?, hst _ _ hIk.out, stageCells]
      have C := hide (H3 wr hIk.out)
      clear hst H0 H1 H2 H3 H4 H5 H6 H7 H8
      go_wp2_with fail
      refine C.out.mono ?_
      rintro e W' ⟨r, rfl, ⟨rfl, h1⟩ | ⟨hr, h2⟩⟩
      · have K1 := hide h1
        clear h1 C
        go_wp2
        go_roundw
        case rel => exact ⟨4, by omega, rfl, K1⟩
        case measure => simp [intOf]
      · have K1 := hide h2
        clear h2 C
        go_wp2
        go_ret
        exact ⟨r, rfl, K1.out⟩
    | 4, _, hIk =>
      have hc : wr.cell? ⟨sb, 4, none⟩ = some (.func (.func 60) #[] #[]) := by simp [World.cell?, hst _ _ hIk.out, stageCells]
      have C := hide (H4 wr hIk.out)
      clear hst H0 H1 H2 H3 H4 H5 H6 H7 H8
      go_wp2_with fail
      refine C.out.mono ?_
      rintro e W' ⟨r, rfl, ⟨rfl, h1⟩ | ⟨hr, h2⟩⟩
      · have K1 := hide h1
        clear h1 C
        go_wp2
        go_roundw
        case rel => exact ⟨5, by omega, rfl, K1⟩
        case measure => simp [intOf]
      · have K1 := hide h2
        clear h2 C
        go_wp2
        go_ret
        exact ⟨r, rfl, K1.out⟩
    | 5, _, hIk =>
      have hc : wr.cell? ⟨sb, 5, none⟩ = some (.func (.func 61) #[.pointer (some ⟨s, 0, none⟩)] #[]) := by simp [World.cell?, hst _ _ hIk.out, stageCells]
      have C := hide (H5 wr hIk.out)
      clear hst H0 H1 H2 H3 H4 H5 H6 H7 H8
      go_wp2_with fail
      refine C.out.mono ?_
      rintro e W' ⟨r, rfl, ⟨rfl, h1⟩ | ⟨hr, h2⟩⟩
      · have K1 := hide h1
        clear h1 C
        go_wp2
        go_roundw
        case rel => exact ⟨6, by omega, rfl, K1⟩
        case measure => simp [intOf]
      · have K1 := hide h2
        clear h2 C
        go_wp2
        go_ret
        exact ⟨r, rfl, K1.out⟩
    | 6, _, hIk =>
      have hc : wr.cell? ⟨sb, 6, none⟩ = some (.func (.func 62) #[.pointer (some ⟨s, 0, none⟩)] #[]) := by simp [World.cell?, hst _ _ hIk.out, stageCells]
      have C := hide (H6 wr hIk.out)
      clear hst H0 H1 H2 H3 H4 H5 H6 H7 H8
      go_wp2_with fail
      refine C.out.mono ?_
      rintro e W' ⟨r, rfl, ⟨rfl, h1⟩ | ⟨hr, h2⟩⟩
      · have K1 := hide h1
        clear h1 C
        go_wp2
        go_roundw
        case rel => exact ⟨7, by omega, rfl, K1⟩
        case measure => simp [intOf]
      · have K1 := hide h2
        clear h2 C
        go_wp2
        go_ret
        exact ⟨r, rfl, K1.out⟩
    | 7, _, hIk =>
      have hc : wr.cell? ⟨sb, 7, none⟩ = some (.func (.func 63) #[.pointer (some ⟨s, 0, none⟩)] #[]) := by simp [World.cell?, hst _ _ hIk.out, stageCells]
      have C := hide (H7 wr hIk.out)
      clear hst H0 H1 H2 H3 H4 H5 H6 H7 H8
      go_wp2_with fail
      refine C.out.mono ?_
      rintro e W' ⟨r, rfl, ⟨rfl, h1⟩ | ⟨hr, h2⟩⟩
      · have K1 := hide h1
        clear h1 C
        go_wp2
        go_roundw
        case rel => exact ⟨8, by omega, rfl, K1⟩
        case measure => simp [intOf]
      · have K1 := hide h2
        clear h2 C
        go_wp2
        go_ret
        exact ⟨r, rfl, K1.out⟩
    | 8, _, hIk =>
      have C := hide (H8 wr hIk.out)
      clear hst H0 H1 H2 H3 H4 H5 H6 H7 H8
      go_wp2_with fail
      refine C.out.mono ?_
      rintro e W' ⟨r, rfl, h2⟩
      have K1 := hide h2
      clear h2 C
      go_wp2
      go_ret
      exact ⟨r, rfl, K1.out⟩
end Go.Proofs.YtnjalelblbjfiaaGreatDoor

namespace Go.Proofs.YtnjalelblbjfiaaGreatDoor
open Go.RowKit
open Go.Sort (grow)

theorem MapQ.head1 {w : World} {m : Nat} {sv : Value} {K : List Mc} (h : MapQ w m sv K) {g : Nat} (hg : sv.ownBlock = some g) : ∃ v, w.cell? ⟨g, 1, none⟩ = some (.string v) := by
  have h0 : 0 < K.length := by
    rcases Nat.eq_zero_or_pos K.length with e | e
    · rw [h.2 (List.eq_nil_of_length_eq_zero e)] at hg
      cases hg
    · exact e
  obtain ⟨a, cap, g', rfl, hc⟩ := rowP_cells h.1.2.2.1
  obtain ⟨rfl, _, c1, _⟩ := hc 0 h0
  obtain rfl : g' = g := by simpa [Value.ownBlock] using hg
  rw [Nat.zero_mul] at c1
  exact ⟨_, c1⟩

theorem KnownAt.keep {w w' : World} {k m : Nat} {sv : Value} {K : List Mc} (h : KnownAt w k m sv K) (hk : ∀ b, b < w.heap.size → (b = k ∨ b = m ∨ sv.ownBlock = some b) → w'.heap[b]? = w.heap[b]?) : KnownAt w' k m sv K := by
  obtain ⟨h1, h2, ⟨⟨c0, c1, c2, c3, c4⟩, h4⟩, h5⟩ := h
  have bk := hk k (block_lt_of_cell h1) (.inl rfl)
  have bm := hk m (block_lt_of_cell c0) (.inr (.inl rfl))
  refine ⟨(World.cell?_of_block (a := ⟨k, 0, none⟩) bk).trans h1, fun j => (World.frozen?_of_block (a := ⟨k, j, none⟩) bk).trans (h2 j), ⟨⟨(World.cell?_of_block (a := ⟨m, 0, none⟩) bm).trans c0, (World.cell?_of_block (a := ⟨m, 1, none⟩) bm).trans c1, ?_, fun j => (World.frozen?_of_block (a := ⟨m, j, none⟩) bm).trans (c3 j), c4⟩, h4⟩, h5⟩
  exact ownsRow_blk c2 fun b hb => hk b (ownsRow_lt c2 hb).2 (.inr (.inr hb))

/-- The blocks that a call on what is known may turn. -/
def KX (m : Nat) (sv : Value) : Nat → Prop := fun b => b = m ∨ sv.ownBlock = some b

/-- The ports of a switch and what it knows, in memory. -/
structure SwP (w : World) (s : Nat) (pv : Value) (P : List Prt) (k m : Nat) (sv : Value) (K : List Mc) : Prop where
  h0 : w.cell? ⟨s, 0, none⟩ = some pv
  hp : PortsAt w pv P
  h5 : w.cell? ⟨s, 5, none⟩ = some (.pointer (some ⟨k, 0, none⟩))
  hK : KnownAt w k m sv K
  hm : Means w

theorem SwP.not_s {w : World} {s k m : Nat} {pv sv : Value} {P : List Prt} {K : List Mc} (h : SwP w s pv P k m sv K) : ¬ KX m sv s := by
  obtain ⟨a, cap, b, e, hc⟩ := h.hp
  rintro (e1 | e1)
  · subst e1
    have := h.h0
    rw [h.hK.2.2.1.1.1, e] at this
    cases this
  · obtain ⟨v, hv⟩ := (h.hK.2.2.1.head e1).1
    have := h.h0
    rw [hv, e] at this
    cases this

theorem SwP.kept {w W : World} {s k m : Nat} {pv sv : Value} {P : List Prt} {K : List Mc} (h : SwP w s pv P k m sv K) (hc : Chg (KX m sv) w W) :
    W.cell? ⟨s, 0, none⟩ = some pv ∧ PortsAt W pv P ∧ W.cell? ⟨s, 5, none⟩ = some (.pointer (some ⟨k, 0, none⟩)) ∧ Means W := by
  have hns := h.not_s
  have hm1 : ¬ KX m sv 1 := by
    rintro (e1 | e1)
    · subst e1
      have := h.hm.1
      rw [h.hK.2.2.1.1.1] at this
      cases this
    · obtain ⟨v, hv⟩ := (h.hK.2.2.1.head e1).1
      have := h.hm.1
      rw [hv] at this
      cases this
  refine ⟨hc.block.cell hns h.h0, ?_, hc.block.cell hns h.h5, hc.block.cell hm1 h.hm.1, hc.block.cell hm1 h.hm.2.1, hc.block.cell hm1 h.hm.2.2.1, hc.block.cell hm1 h.hm.2.2.2⟩
  obtain ⟨a, cap, b, e, hcs⟩ := h.hp
  refine ⟨a, cap, b, e, fun j hj => ?_⟩
  obtain ⟨q0, q1, mv, q2, q3⟩ := hcs j hj
  have hb : ¬ KX m sv b := by
    obtain ⟨_, c0, mv0, k2, k3⟩ := hcs 0 (by omega)
    rintro (e1 | e1)
    · subst e1
      rw [Nat.zero_mul, h.hK.2.2.1.1.1] at c0
      cases c0
    · obtain ⟨v, hv⟩ := h.hK.2.2.1.head1 e1
      rw [Nat.zero_mul, hv] at k2
      rcases k3 with ⟨rfl, _⟩ | ⟨_, _, _, rfl, _⟩ <;> cases k2
  refine ⟨q0, hc.block.cell hb q1, mv, hc.block.cell hb q2, q3.same fun x o ho hco => ?_⟩
  have hx : ¬ KX m sv x := by
    rintro (e1 | e1)
    · subst e1
      have := h.hK.2.2.1.1.1
      rw [noCell ho hco] at this
      cases this
    · obtain ⟨v, hv⟩ := h.hK.2.2.1.head1 e1
      rw [noCell ho hco] at hv
      cases hv
  rw [hc.block x (lt_of_heap ho) hx, ho]

/-- What is known when a MAC has been learned. -/
def LearnK (K : List Mc) (e0 : Mc) (K' : List Mc) : Prop :=
  SortedP K' ∧ if (known K e0.vlan e0.mac).isSome || decide (K.length < 64) then (∀ q, q ∈ K' ↔ q = e0 ∨ (q ∈ K ∧ cmpM q e0.vlan e0.mac ≠ 0)) ∧ K'.length = (if (known K e0.vlan e0.mac).isSome then K.length else K.length + 1) else K' = K
theorem LearnK.length {K K' : List Mc} {e0 : Mc} (h : LearnK K e0 K') (hn : K.length ≤ 64) : K'.length ≤ 64 := by
  obtain ⟨_, h⟩ := h
  split at h
  · rename_i hc
    rw [h.2]
    split
    · exact hn
    · rename_i h1
      simp [h1] at hc
      omega
  · rw [h]; exact hn

/-- A frame on its way in memory, and the stages beside it. -/
structure Mid (w : World) (s k m : Nat) (sv : Value) (p : Pg) (K : List Mc) (W : World) : Prop where
  pg : PgAt W w.heap.size p (.slice none 0 0)
  st : W.heap[w.heap.size + 1]? = some (.cells (stageCells s) 217 (0, 0))
  kn : ∃ sv', KnownAt W k m sv' K ∧ ∀ b, sv'.ownBlock = some b → sv.ownBlock = some b ∨ w.heap.size + 1 < b
  ch : Chg (KX m sv) w W

theorem mid_keep {w : World} {s k m : Nat} {sv pv : Value} {P : List Prt} {K0 : List Mc} (h : SwP w s pv P k m sv K0) {K : List Mc} {W W' : World}
    (kn : ∃ sv', KnownAt W k m sv' K ∧ ∀ b, sv'.ownBlock = some b → sv.ownBlock = some b ∨ w.heap.size + 1 < b) (ho : OnlyG w.heap.size W W') :
    ∃ sv', KnownAt W' k m sv' K ∧ ∀ b, sv'.ownBlock = some b → sv.ownBlock = some b ∨ w.heap.size + 1 < b := by
  obtain ⟨sv', h1, h2⟩ := kn
  refine ⟨sv', h1.keep fun b hb hx => ho.2.2.2.2 b hb ?_, h2⟩
  rintro rfl
  rcases hx with e | e | e
  · have : k < w.heap.size := block_lt_of_cell h.hK.1
    omega
  · have : m < w.heap.size := block_lt_of_cell h.hK.2.2.1.1.1
    omega
  · rcases h2 _ e with e' | e'
    · have := (h.hK.2.2.1.head e').2.1; omega
    · omega

theorem Mid.only {w : World} {s k m : Nat} {sv pv : Value} {P : List Prt} {K0 : List Mc} (h : SwP w s pv P k m sv K0) {p q : Pg} {K : List Mc} {W W' : World} (hM : Mid w s k m sv p K W) (ho : OnlyG w.heap.size W W') (hg : PgAt W' w.heap.size q (.slice none 0 0)) : Mid w s k m sv q K W' := by
  refine ⟨hg, (ho.2.2.2.2 _ (lt_of_heap hM.st) (by omega)).trans hM.st, mid_keep h hM.kn ho, ?_⟩
  have hs := hM.ch.size
  exact ⟨ho.1.trans hM.ch.os, ho.2.1.trans hM.ch.tape, ho.2.2.1.trans hM.ch.output, Nat.le_trans hs ho.2.2.2.1, fun b hb hx => (ho.2.2.2.2 b (by omega) (by omega)).trans (hM.ch.block b hb hx)⟩
theorem Chg.only {X : Nat → Prop} {w W W' : World} (hc : Chg X w W) (ho : OnlyG w.heap.size W W') : Chg X w W' :=
  ⟨ho.1.trans hc.os, ho.2.1.trans hc.tape, ho.2.2.1.trans hc.output, Nat.le_trans hc.size ho.2.2.2.1, fun b hb hx => (ho.2.2.2.2 b (by have := hc.size; omega) (by omega)).trans (hc.block b hb hx)⟩

/-- A frame that has come in, its VLAN found. -/
def pIn (P : List Prt) (port : Int) (d : ByteArray) (f : Fr) : Pg := ⟨port, d, { f with vlan := vlanAt (pAt P port.toNat) f }, ⟨#[]⟩, 0, 0, false, false⟩

/-- What becomes of a frame. -/
inductive FrameR (P : List Prt) (K : List Mc) (unp : Pg → Pg) (jud : Pg → Option (Int × List (Int × ByteArray))) (rou : Pg → Int ⊕ Pg) (port : Int) (d : ByteArray) : Int → List (Int × ByteArray) → List Mc → Prop
  | unknown (h : ¬ (0 ≤ port ∧ port < P.length)) : FrameR P K unp jud rou port d 9 [] K
  | bad (h : 0 ≤ port ∧ port < P.length) (hr : fateRead d ≠ -1) : FrameR P K unp jud rou port d (fateRead d) [] K
  | barred (f : Fr) (h : 0 ≤ port ∧ port < P.length) (hr : fateRead d = -1) (hf : readF d = some f) (hb : barredAt (pAt P port.toNat) f = true) : FrameR P K unp jud rou port d 3 [] K
  | judged (f : Fr) (K' : List Mc) (r : Int) (L : List (Int × ByteArray)) (h : 0 ≤ port ∧ port < P.length) (hr : fateRead d = -1) (hf : readF d = some f) (hb : barredAt (pAt P port.toNat) f = false) (hl : LearnK K ⟨(pIn P port d f).f.vlan, f.fr, port, 0⟩ K') (hj : jud (unp (pIn P port d f)) = some (r, L)) : FrameR P K unp jud rou port d r L K'
  | stopped (f : Fr) (K' : List Mc) (r : Int) (h : 0 ≤ port ∧ port < P.length) (hr : fateRead d = -1) (hf : readF d = some f) (hb : barredAt (pAt P port.toNat) f = false) (hl : LearnK K ⟨(pIn P port d f).f.vlan, f.fr, port, 0⟩ K') (hj : jud (unp (pIn P port d f)) = none) (ho : rou (unp (pIn P port d f)) = .inl r) : FrameR P K unp jud rou port d r [] K'
  | out (f : Fr) (K' : List Mc) (q : Pg) (h : 0 ≤ port ∧ port < P.length) (hr : fateRead d = -1) (hf : readF d = some f) (hb : barredAt (pAt P port.toNat) f = false) (hl : LearnK K ⟨(pIn P port d f).f.vlan, f.fr, port, 0⟩ K') (hj : jud (unp (pIn P port d f)) = none) (ho : rou (unp (pIn P port d f)) = .inr q) :
      FrameR P K unp jud rou port d (if (fwdO P q (portOf (known K' q.f.vlan q.f.to)) (known K' q.f.vlan q.f.to).isSome P.length).length = 0 then 8 else 0) (fwdO P q (portOf (known K' q.f.vlan q.f.to)) (known K' q.f.vlan q.f.to).isSome P.length) K'

/-- What a call of Frame leaves. -/
def FrameOut (w : World) (k m : Nat) (sv : Value) (R : Int → List (Int × ByteArray) → List Mc → Prop) (r : Int) (W : World) : Prop :=
  ∃ L K' p ov sv', R r L K' ∧ PgAt W w.heap.size p ov ∧ W.ownsRow w.heap.size 66 2 ov L.length (rowO L) ∧ KnownAt W k m sv' K' ∧ (∀ b, sv'.ownBlock = some b → sv.ownBlock = some b ∨ w.heap.size ≤ b) ∧ (∀ b, ov.ownBlock = some b → sv'.ownBlock ≠ some b ∧ b ≠ m) ∧ Chg (KX m sv) w W

theorem FrameOut.none {w W : World} {k m : Nat} {sv : Value} {R : Int → List (Int × ByteArray) → List Mc → Prop} {r : Int} {K' : List Mc} {p : Pg} (hR : R r [] K') (hg : PgAt W w.heap.size p (.slice none 0 0)) (hk : ∃ sv', KnownAt W k m sv' K' ∧ ∀ b, sv'.ownBlock = some b → sv.ownBlock = some b ∨ w.heap.size + 1 < b) (hc : Chg (KX m sv) w W) : FrameOut w k m sv R r W := by
  obtain ⟨sv', h1, h2⟩ := hk
  exact ⟨[], K', p, _, sv', hR, hg, ⟨rfl, .inl ⟨rfl, rfl⟩⟩, h1, fun b hb => (h2 b hb).imp id (by omega), (fun b hb => by cases hb), hc⟩
end Go.Proofs.YtnjalelblbjfiaaGreatDoor
