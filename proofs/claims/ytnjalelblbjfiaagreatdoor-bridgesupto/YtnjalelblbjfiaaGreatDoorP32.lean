import Derived.Test.YtnjalelblbjfiaaGreatDoorP31
import Derived.Deep.RegionHeld3
import Derived.Shelf.RegionOpenPlain
import Derived.Test.YtnjalelblbjfiaaGreatDoorP23
namespace Go.Proofs.YtnjalelblbjfiaaGreatDoor
open Go.RowKit
open Go.Sort (grow)
attribute [local go_sem] Oper.semAt_some cell?_regrown
attribute [local go_sem ↓ high] append_fold

/-- What goes out, as it lies there. -/
def outRec (e : Int × ByteArray) : List Value := [.int .i64 e.1, .string e.2]
theorem outRec_length (e : Int × ByteArray) : (outRec e).length = 2 := rfl
theorem outRec_one (e : Int × ByteArray) : ∀ u ∈ outRec e, u.oneCell' = true := by simp [outRec, Value.oneCell']
theorem underOuts : Tryz.prog.underlying 59 = some (.slice 66) := by kernel_rfl
theorem append_out {w : World} {B : Nat} {v : Value} {L : List (Int × ByteArray)} {j : Int} {o : ByteArray} (h : RecOwn outRec B w 66 2 v L) (hB : B ≤ w.heap.size) (hn : L.length ≤ 1000) : ∃ g cap w', (Builtin.append_ #[59, 59] 59 #[v, .slice (some ⟨w.heap.size, 0, none⟩) 1 1]).run Tryz.prog (w.alloc (.cells #[.int .i64 j, .string o] 66)) = .ok (.slice (some ⟨g, 0, none⟩) (L.length + 1) cap) w' ∧ RecOwn outRec B w' 66 2 (.slice (some ⟨g, 0, none⟩) (L.length + 1) cap) (L ++ [(j, o)]) ∧ Chg (fun b => v.ownBlock = some b) w w' := by
  obtain ⟨i0, hi, hz0, hz1, hz2⟩ := info_parts infoOut
  have hb : Below w.heap.size w (w.alloc (.cells #[.int .i64 j, .string o] 66)) := (Below.refl _ w).alloc (Nat.le_refl _) _
  obtain ⟨g, cap, w', hap, hr, hc, _⟩ := (h.below hb).append (P := Tryz.prog) (tl := 59) (c := 1) outRec_length outRec_one underOuts hi hz0 hz1 hz2 rfl (by decide) [(j, o)] (by simp) (a := ⟨w.heap.size, 0, none⟩) (fun q u hu => by rw [Addr.add_mid]; exact range_new w #[.int .i64 j, .string o] 66 q u hu) (by unfold maxLen; simp; omega) (by simp; omega) (by simp; omega)
  exact ⟨g, cap, w', hap, hr, (Chg.of_below hb).trans hc⟩
/-- What goes out at ports. -/
def outL (P : List Prt) (f : Fr) (T : List Int) : List (Int × ByteArray) := T.map fun t => (t, outF (pAt P t.toNat) f)
set_option maxRecDepth 100000 in
set_option maxHeartbeats 2000000 in
theorem xout_any (y : Nat) (x : XSt) (f : Fr) (T : List Int) (v : Value) (w : World) (h : XSw w y x) (hT : NumsAt w v T) (hr : ∀ t ∈ T, 0 ≤ t ∧ t < x.Q.length) (hl : T.length ≤ 100) (hQ : x.Q.length ≤ 8) (hv : 0 ≤ f.vlan ∧ f.vlan < 4096) (hk : 0 ≤ f.mark ∧ f.mark < 16) (hs : f.to.size + f.fr.size + f.ty.size + f.rest.size ≤ 10000) :
    Calls Tryz.prog 136 #[.pointer (some ⟨y, 0, none⟩), .agg (xfCells f), v] w fun e w' => ∃ lv, e = .returned (.tuple #[lv, .int .i64 (if T = [] then 8 else 0)]) ∧ RecOwn outRec w.heap.size w' 66 2 lv (outL x.P f T) ∧ Below w.heap.size w w' := by
  obtain ⟨ta, tcap, tb, rfl, hTc⟩ := hT
  by_cases h0 : T = []
  · subst h0
    have HF := hide (RecOwn.nil outRec w.heap.size (w.alloc (.cells (xfCells f) 248)) 66 2)
    have HB := hide (show Below w.heap.size w (w.alloc (.cells (xfCells f) 248)) from (Below.refl _ w).alloc (Nat.le_refl _) _)
    simp only [xfCells] at HF HB ⊢
    simp only [List.length_nil] at *
    clear h hTc hr hl
    go_enter Tryz.func136, Tryz.ntmps136
    go_wp2
    go_ret2
    exact ⟨_, rfl, HF.out, HB.out⟩
  · have hl0 : 0 < T.length := List.length_pos_iff.2 h0
    have hl1 : ((T.length : Int) == 0) = false := by rw [beq_eq_false_iff_ne]; omega
    rw [if_neg h0]
    obtain ⟨pa, pcap, pg, hpv, hpr⟩ := h.ports
    obtain ⟨W1, hW1⟩ : ∃ W1, W1 = w.alloc (.cells (xfCells f) 248) := ⟨_, rfl⟩
    obtain ⟨bf, hbf⟩ : ∃ bf, bf = w.heap.size := ⟨_, rfl⟩
    have hb1 : Below w.heap.size w W1 := by rw [hW1]; exact (Below.refl _ w).alloc (Nat.le_refl _) _
    have hfr : W1.heap[bf]? = some (.cells (xfCells f) 248 (0, 0)) := by rw [hW1, hbf]; exact allocN _ _
    have c0 := h.c0
    rw [hpv] at c0
    have HC0 := hide c0
    have HPR := hide hpr
    have HT := hide hTc
    have HR := hide hr
    have HB1 := hide hb1
    have HFR := hide hfr
    have HW1 := hide hW1
    have HBF := hide hbf
    obtain ⟨n, hn⟩ : ∃ n, n = x.Q.length := ⟨_, rfl⟩
    have HN := hide hn
    have CW := hide fun (tag : Bool) (W : World) => xwritten_any f tag W hv hk hs
    rw [← hn] at HC0 hQ
    have HQ := hide hQ
    have HL := hide hl
    clear h hTc hr hb1 hfr hW1 hbf hpr hpv c0 hn hv hk hs h0
    have hli : (T.length : Int) ≤ 100 := by omega
    obtain ⟨ft, ff, fg, fv, fk, fy, fz⟩ := f
    simp only [xfCells] at *
    have HW2 : Hid (W1 = w.alloc (.cells #[.string ft, .string ff, .int .i64 fv, .int .i64 fk, .bool fg, .string fy, .string fz] 248)) := HW1
    go_enter Tryz.func136, Tryz.ntmps136
    go_wp2_with fail
    rw [← HW2.out, ← HBF.out]
    go_loopw [8, 9] (fun lv i wr => ∃ k : Nat, k ≤ T.length ∧ i = .int .i64 k ∧ RecOwn outRec bf wr 66 2 lv (outL x.P ⟨ft, ff, fg, fv, fk, fy, fz⟩ (T.take k)) ∧ Below w.heap.size w wr ∧ wr.heap[bf]? = some (.cells #[.string ft, .string ff, .int .i64 fv, .int .i64 fk, .bool fg, .string fy, .string fz] 248 (0, 0))) (fun _ i _ => T.length - (intOf i).toNat)
    case atStart => exact ⟨0, by omega, rfl, RecOwn.nil _ _ _ _ _, HB1.out, HFR.out⟩
    case round =>
      obtain ⟨k, hk, rfl, hown, hb, hrg⟩ := hrel
      obtain ⟨la, lcap, lg, hlv, -⟩ := hown.row outRec_length
      subst hlv
      obtain ⟨m, hm⟩ : ∃ m, m = (outL x.P ⟨ft, ff, fg, fv, fk, fy, fz⟩ (T.take k)).length := ⟨_, rfl⟩
      rw [← hm] at hown ⊢
      by_cases hkl : k < T.length
      · have hki : (k : Int) < T.length := by omega
        obtain ⟨t, ht⟩ : ∃ t : Nat, T[k] = t := ⟨T[k].toNat, by have := (HR.out _ (List.getElem_mem hkl)).1; omega⟩
        have htn : t < x.Q.length := by have := (HR.out _ (List.getElem_mem hkl)).2; omega
        obtain ⟨rfl, hcell⟩ := HT.out k hkl
        rw [ht] at hcell
        have tc := cell_later hb hcell
        obtain ⟨rfl, pc, -⟩ := HPR.out t htn
        obtain ⟨nt, hnt⟩ : ∃ nt, nt = x.Q[t].nat := ⟨_, rfl⟩
        have pc1 := cell_later hb pc
        rw [← hnt] at pc1
        have yc := cell_later hb HC0.out
        have htn' : (t : Int) < n := by rw [HN.out]; omega
        have e0 : wr.cell? ⟨bf, 0, none⟩ = some (.string ft) := cellRow hrg rfl
        have e1 : wr.cell? ⟨bf, 1, none⟩ = some (.string ff) := cellRow hrg rfl
        have e2 : wr.cell? ⟨bf, 2, none⟩ = some (.int .i64 fv) := cellRow hrg rfl
        have e3 : wr.cell? ⟨bf, 3, none⟩ = some (.int .i64 fk) := cellRow hrg rfl
        have e4 : wr.cell? ⟨bf, 4, none⟩ = some (.bool fg) := cellRow hrg rfl
        have e5 : wr.cell? ⟨bf, 5, none⟩ = some (.string fy) := cellRow hrg rfl
        have e6 : wr.cell? ⟨bf, 6, none⟩ = some (.string fz) := cellRow hrg rfl
        have lb : bf < wr.heap.size := block_lt_of_cell e0
        have lt : tb < wr.heap.size := block_lt_of_cell tc
        have lp : pg < wr.heap.size := block_lt_of_cell pc1
        have ly : y < wr.heap.size := block_lt_of_cell yc
        have hQi : (n : Int) ≤ 8 := by have := HQ.out; omega
        have HSTEP : Hid (outL x.P ⟨ft, ff, fg, fv, fk, fy, fz⟩ (T.take (k + 1)) = outL x.P ⟨ft, ff, fg, fv, fk, fy, fz⟩ (T.take k) ++ [((t : Int), bytesF ⟨ft, ff, nt != fv, fv, fk, fy, fz⟩)]) := hide (by
          rw [List.take_add_one, List.getElem?_eq_getElem hkl, ht]
          unfold outL
          rw [List.map_append]
          congr 1
          show [((t : Int), outF (pAt x.P (t : Int).toNat) ⟨ft, ff, fg, fv, fk, fy, fz⟩)] = _
          rw [Int.toNat_natCast, x.pAt_eq htn]
          unfold outF
          show [((t : Int), bytesF ⟨ft, ff, fv != x.Q[t].nat, fv, fk, fy, fz⟩)] = _
          rw [← hnt, bne_comm])
        have HOWN := hide hown
        have HB := hide hb
        have HRG := hide hrg
        have hll : (outL x.P ⟨ft, ff, fg, fv, fk, fy, fz⟩ (T.take k)).length ≤ 1000 := by unfold outL; rw [List.length_map, List.length_take]; omega
        have HLL := hide hll
        have HBW := hide (show bf ≤ wr.heap.size by omega)
        obtain ⟨o, hoe⟩ : ∃ o, o = bytesF ⟨ft, ff, nt != fv, fv, fk, fy, fz⟩ := ⟨_, rfl⟩
        rw [← hoe] at HSTEP
        have C1 : Hid (Calls Tryz.prog 188 #[.agg #[.string ft, .string ff, .int .i64 fv, .int .i64 fk, .bool fg, .string fy, .string fz], .bool (nt != fv)] wr.drew fun e w' => e = .returned (.string o) ∧ Below wr.drew.heap.size wr.drew w') := hide (by rw [hoe]; exact CW.out (nt != fv) wr.drew)
        have htz : (0 : Int) ≤ t := by omega
        have nb : (Value.slice la m lcap).ownBlock ≠ some bf := own_block hown.1 hrg (by decide)
        have nbig : ∀ b, b < bf → (Value.slice la m lcap).ownBlock ≠ some b := fun b hb' e => by have := hown.base e; omega
        have hyb : y < bf := by rw [HBF.out]; exact block_lt_of_cell HC0.out
        have htb : tb < bf := by rw [HBF.out]; exact block_lt_of_cell hcell
        have hpb : pg < bf := by rw [HBF.out]; exact block_lt_of_cell pc
        have AFTER : Hid (∀ w1, Below wr.drew.heap.size wr.drew w1 → ∃ g3 cp3 w3, (appN #[59, 59] 59 #[.slice la m lcap, .slice (some ⟨w1.heap.size, 0, none⟩) 1 1]).run Tryz.prog (w1.alloc (.cells #[.int .i64 t, .string o] 66)) = .ok (.slice (some ⟨g3, 0, none⟩) (m + 1) cp3) w3 ∧ (w1.cell? ⟨y, 0, none⟩ = some (.slice (some ⟨pg, 0, none⟩) n pcap) ∧ w1.cell? ⟨tb, k, none⟩ = some (.int .i64 t) ∧ w1.cell? ⟨pg, t * 2, none⟩ = some (.int .i64 nt) ∧ w1.cell? ⟨bf, 0, none⟩ = some (.string ft) ∧ w1.cell? ⟨bf, 1, none⟩ = some (.string ff) ∧ w1.cell? ⟨bf, 2, none⟩ = some (.int .i64 fv) ∧ w1.cell? ⟨bf, 3, none⟩ = some (.int .i64 fk) ∧ w1.cell? ⟨bf, 4, none⟩ = some (.bool fg) ∧ w1.cell? ⟨bf, 5, none⟩ = some (.string fy) ∧ w1.cell? ⟨bf, 6, none⟩ = some (.string fz)) ∧ (w3.cell? ⟨y, 0, none⟩ = some (.slice (some ⟨pg, 0, none⟩) n pcap) ∧ w3.cell? ⟨tb, k, none⟩ = some (.int .i64 t) ∧ w3.cell? ⟨pg, t * 2, none⟩ = some (.int .i64 nt) ∧ w3.cell? ⟨bf, 0, none⟩ = some (.string ft) ∧ w3.cell? ⟨bf, 1, none⟩ = some (.string ff) ∧ w3.cell? ⟨bf, 2, none⟩ = some (.int .i64 fv) ∧ w3.cell? ⟨bf, 3, none⟩ = some (.int .i64 fk) ∧ w3.cell? ⟨bf, 4, none⟩ = some (.bool fg) ∧ w3.cell? ⟨bf, 5, none⟩ = some (.string fy) ∧ w3.cell? ⟨bf, 6, none⟩ = some (.string fz)) ∧ bf < w1.heap.size ∧ Hid (RecOwn outRec bf w3 66 2 (.slice (some ⟨g3, 0, none⟩) (m + 1) cp3) (outL x.P ⟨ft, ff, fg, fv, fk, fy, fz⟩ (T.take (k + 1))) ∧ Below w.heap.size w w3 ∧ w3.heap[bf]? = some (.cells #[.string ft, .string ff, .int .i64 fv, .int .i64 fk, .bool fg, .string fy, .string fz] 248 (0, 0)))) := hide fun w1 hb1 => by
          have hB1 : Below wr.heap.size wr w1 := ((Below.refl _ wr).drew).trans hb1
          obtain ⟨g3, cp3, w3, hap, hown3, hch3⟩ := append_out (j := (t : Int)) (o := o) (hown.below hB1) (Nat.le_trans HBW.out hB1.size) hll
          rw [← hm] at hap hown3
          have b1 := (hB1.block bf lb).trans hrg
          have y1 := cell_later hB1 yc
          have t1 := cell_later hB1 tc
          have p1 := cell_later hB1 pc1
          have b3 := (hch3.block bf (by have := hB1.size; omega) nb).trans b1
          have h01 : Below w.heap.size w w1 := hb.trans (hB1.mono hb.size)
          rw [HSTEP.out]
          refine ⟨g3, cp3, w3, appN_run hap, ⟨y1, t1, p1, cellRow b1 rfl, cellRow b1 rfl, cellRow b1 rfl, cellRow b1 rfl, cellRow b1 rfl, cellRow b1 rfl, cellRow b1 rfl⟩, ⟨hch3.block.cell (nbig y hyb) y1, hch3.block.cell (nbig tb htb) t1, hch3.block.cell (nbig pg hpb) p1, cellRow b3 rfl, cellRow b3 rfl, cellRow b3 rfl, cellRow b3 rfl, cellRow b3 rfl, cellRow b3 rfl, cellRow b3 rfl⟩, by have := hB1.size; omega, hide ⟨hown3, h01.trans (hch3.below h01.size fun b hb' => ?_), b3⟩⟩
          have := hown.base hb'
          rw [HBF.out] at this
          exact this
        clear hown hb hrg hcell pc hnt hll ht htn hoe hm
        go_wp2_with fail
        go_region_held3 (fun W => W.cell? ⟨y, 0, none⟩ = some (.slice (some ⟨pg, 0, none⟩) n pcap) ∧ W.cell? ⟨tb, k, none⟩ = some (.int .i64 t) ∧ W.cell? ⟨pg, t * 2, none⟩ = some (.int .i64 nt) ∧ W.cell? ⟨bf, 0, none⟩ = some (.string ft) ∧ W.cell? ⟨bf, 1, none⟩ = some (.string ff) ∧ W.cell? ⟨bf, 2, none⟩ = some (.int .i64 fv) ∧ W.cell? ⟨bf, 3, none⟩ = some (.int .i64 fk) ∧ W.cell? ⟨bf, 4, none⟩ = some (.bool fg) ∧ W.cell? ⟨bf, 5, none⟩ = some (.string fy) ∧ W.cell? ⟨bf, 6, none⟩ = some (.string fz)) (go_keep)
          (first | (go_at_call 188; refine C1.out.mono ?_; rintro e w1 ⟨rfl, hb1⟩; obtain ⟨g3, cp3, w3, hap3, ⟨z0, z1, z2, z3, z4, z5, z6, z7, z8, z9⟩, ⟨u0, u1, u2, u3, u4, u5, u6, u7, u8, u9⟩, lb1, HEND⟩ := AFTER.out w1 hb1; clear hb1))
        go_wp2_with fail
        go_roundw
        case rel =>
          exact ⟨k + 1, by omega, by go_num, HEND.out.1, HEND.out.2.1, HEND.out.2.2⟩
        case measure => simp [intOf]; omega
      · have hki : ¬ (k : Int) < T.length := by omega
        have hke : T.take k = T := List.take_of_length_le (by omega)
        rw [hke, HBF.out] at hown
        have HF := hide hown
        have HB := hide hb
        clear hown hb hrg hm hke
        go_wp2
        go_ret2
        exact ⟨_, rfl, HF.out, HB.out⟩
end Go.Proofs.YtnjalelblbjfiaaGreatDoor

namespace Go.Proofs.YtnjalelblbjfiaaGreatDoor
open Go.RowKit

/-- The ports at which a frame goes out when nobody is known. -/
def fwdPs (P : List Prt) (port : Int) (routed : Bool) (v : Int) (n : Nat) : List Int := ((List.range n).filter fun j => hasV (pAt P j) v && (((j : Int) != port) || routed)).map fun (j : Nat) => (j : Int)
theorem flat_filter {α β : Type} (c : α → Bool) (g : α → β) : ∀ l : List α, (l.flatMap fun j => if c j then [g j] else []) = (l.filter c).map g
  | [] => rfl
  | a :: l => by
    rw [List.flatMap_cons, flat_filter c g l]
    cases h : c a <;> simp [h]
theorem flat_at {β : Type} (c : Nat → Bool) (g : Nat → β) (k : Nat) : ∀ n, ((List.range n).flatMap fun j => if decide (j = k) && c j then [g j] else []) = if decide (k < n) && c k then [g k] else []
  | 0 => by simp
  | n + 1 => by
    rw [List.range_succ, List.flatMap_append, flat_at c g k n, List.flatMap_singleton]
    by_cases h : n = k
    · subst h
      cases hc : c n <;> simp
    · by_cases h2 : k < n
      · have h3 : k < n + 1 := by omega
        simp [h, h2, h3]
      · have h3 : ¬ k < n + 1 := by omega
        simp [h, h2, h3]
theorem fwd_all (P : List Prt) (q : Pg) (bh : Int) (n : Nat) : fwdO P q bh false n = outL P q.f (fwdPs P q.port q.routed q.f.vlan n) := by
  unfold fwdO outL fwdPs
  rw [List.map_map]
  have e : (fun j : Nat => if goesTo q bh false j && hasV (pAt P j) q.f.vlan then [((j : Int), outF (pAt P j) q.f)] else []) = fun j : Nat => if (hasV (pAt P j) q.f.vlan && (((j : Int) != q.port) || q.routed)) then [((j : Int), outF (pAt P j) q.f)] else [] := by
    funext j
    unfold goesTo
    rw [Bool.not_false, Bool.or_true, Bool.and_true, Bool.and_comm]
  rw [e]
  exact flat_filter _ _ _
theorem fwd_one (P : List Prt) (q : Pg) (k n : Nat) (hk : k < n) : fwdO P q k true n = if (((k : Int) != q.port) || q.routed) && hasV (pAt P k) q.f.vlan then outL P q.f [(k : Int)] else [] := by
  unfold fwdO
  have e : (fun j : Nat => if goesTo q k true j && hasV (pAt P j) q.f.vlan then [((j : Int), outF (pAt P j) q.f)] else []) = fun j : Nat => if decide (j = k) && ((((j : Int) != q.port) || q.routed) && hasV (pAt P j) q.f.vlan) then [((j : Int), outF (pAt P j) q.f)] else [] := by
    funext j
    unfold goesTo
    have : ((j : Int) == (k : Int) || !true) = decide (j = k) := by
      rw [Bool.not_true, Bool.or_false, Bool.eq_iff_iff, beq_iff_eq, decide_eq_true_iff]
      omega
    rw [this, ← Bool.and_assoc, Bool.and_comm (decide (j = k))]
  rw [e, flat_at (fun j => (((j : Int) != q.port) || q.routed) && hasV (pAt P j) q.f.vlan) _ k n]
  have : decide (k < n) = true := decide_eq_true hk
  rw [this, Bool.true_and]
  rfl
theorem fwdPs_range (P : List Prt) (port : Int) (routed : Bool) (v : Int) (n : Nat) : ∀ t ∈ fwdPs P port routed v n, 0 ≤ t ∧ t < n := fun t ht => by
  obtain ⟨j, hj, rfl⟩ := List.mem_map.1 ht
  have := List.mem_range.1 (List.mem_filter.1 hj).1
  omega
theorem fwdPs_length (P : List Prt) (port : Int) (routed : Bool) (v : Int) (n : Nat) : (fwdPs P port routed v n).length ≤ n := by
  unfold fwdPs
  rw [List.length_map]
  exact Nat.le_trans (List.length_filter_le _ _) (by simp)
theorem fwdPs_succ (P : List Prt) (port : Int) (routed : Bool) (v : Int) (n : Nat) : fwdPs P port routed v (n + 1) = if hasV (pAt P n) v && (((n : Int) != port) || routed) then fwdPs P port routed v n ++ [(n : Int)] else fwdPs P port routed v n := by
  unfold fwdPs
  rw [List.range_succ, List.filter_append, List.map_append]
  cases h : (hasV (pAt P n) v && (((n : Int) != port) || routed)) <;> simp [h]
/-- Numbers in an array of their own. -/
def intRec (t : Int) : List Value := [.int .i64 t]
theorem intRec_length (t : Int) : (intRec t).length = 1 := rfl
theorem intRec_one (t : Int) : ∀ u ∈ intRec t, u.oneCell' = true := by simp [intRec, Value.oneCell']
theorem RecOwn.nums {B : Nat} {w : World} {v : Value} {T : List Int} (h : RecOwn intRec B w 3 1 v T) : NumsAt w v T := by
  obtain ⟨a, cap, g, e, hr⟩ := h.row intRec_length
  refine ⟨a, cap, g, e, fun j hj => ?_⟩
  obtain ⟨ha, hc⟩ := hr j hj
  have := hc 0 _ rfl
  rw [Nat.mul_one, Nat.add_zero] at this
  exact ⟨ha, this⟩
theorem append_int {w : World} {B : Nat} {v : Value} {L : List Int} {j : Int} (h : RecOwn intRec B w 3 1 v L) (hB : B ≤ w.heap.size) (hn : L.length ≤ 1000000000) : ∃ g cap w', (Builtin.append_ #[32, 32] 32 #[v, .slice (some ⟨w.heap.size, 0, none⟩) 1 1]).run Tryz.prog (w.alloc (.cells #[.int .i64 j] 3)) = .ok (.slice (some ⟨g, 0, none⟩) (L.length + 1) cap) w' ∧ RecOwn intRec B w' 3 1 (.slice (some ⟨g, 0, none⟩) (L.length + 1) cap) (L ++ [j]) ∧ Chg (fun b => v.ownBlock = some b) w w' := by
  obtain ⟨i0, hi, hz0, hz1, hz2⟩ := info_parts infoInt
  have hb : Below w.heap.size w (w.alloc (.cells #[.int .i64 j] 3)) := (Below.refl _ w).alloc (Nat.le_refl _) _
  obtain ⟨g, cap, w', hap, hr, hc, _⟩ := (h.below hb).append (P := Tryz.prog) (tl := 32) (c := 1) intRec_length intRec_one underInts hi hz0 hz1 hz2 rfl (by decide) [j] (by simp) (a := ⟨w.heap.size, 0, none⟩) (fun q u hu => by rw [Addr.add_mid]; exact range_new w #[.int .i64 j] 3 q u hu) (by unfold maxLen; simp; omega) (by simp; omega) (by simp; omega)
  exact ⟨g, cap, w', hap, hr, (Chg.of_below hb).trans hc⟩
end Go.Proofs.YtnjalelblbjfiaaGreatDoor

namespace Go.Proofs.YtnjalelblbjfiaaGreatDoor
open Go.RowKit
attribute [local go_sem] Oper.semAt_some
attribute [local go_sem ↓ high] append_fold

/-- What the document's switch lets out of a frame in the end. -/
def carL (x : XSt) (q : Pg) : List (Int × ByteArray) := fwdO x.P q (portOf (known x.K q.f.vlan q.f.to)) (known x.K q.f.vlan q.f.to).isSome x.Q.length
def CarryEnd (x : XSt) (q : Pg) (w : World) (e : Ending) (W : World) : Prop := ∃ lv, e = .returned (.tuple #[lv, .int .i64 (if (carL x q).length = 0 then 8 else 0)]) ∧ RecOwn outRec w.heap.size W 66 2 lv (carL x q) ∧ Below w.heap.size w W
theorem RecOwn.lower {α : Type} {f : α → List Value} {B B' : Nat} {w : World} {t : TypeId} {s : Nat} {v : Value} {l : List α} (h : RecOwn f B w t s v l) (hB : B' ≤ B) : RecOwn f B' w t s v l := ⟨ownsRow_baseV h.1 hB, h.2⟩
theorem carry_all {x : XSt} {q : Pg} {w W : World} {lv : Value} {B : Nat} (hn : known x.K q.f.vlan q.f.to = none) (hr : RecOwn outRec B W 66 2 lv (outL x.P q.f (fwdPs x.P q.port q.routed q.f.vlan x.Q.length))) (hb : Below w.heap.size w W) (hB : w.heap.size ≤ B) : CarryEnd x q w (.returned (.tuple #[lv, .int .i64 (if fwdPs x.P q.port q.routed q.f.vlan x.Q.length = [] then 8 else 0)])) W := by
  have e : carL x q = outL x.P q.f (fwdPs x.P q.port q.routed q.f.vlan x.Q.length) := by
    unfold carL
    rw [hn]
    exact fwd_all _ _ _ _
  refine ⟨lv, ?_, by rw [e]; exact hr.lower hB, hb⟩
  rw [e]
  have : (outL x.P q.f (fwdPs x.P q.port q.routed q.f.vlan x.Q.length)).length = 0 ↔ fwdPs x.P q.port q.routed q.f.vlan x.Q.length = [] := by
    unfold outL
    rw [List.length_map, List.length_eq_zero_iff]
  simp only [this]
set_option maxRecDepth 100000 in
set_option maxHeartbeats 4000000 in
theorem xcarry_any (y : Nat) (x : XSt) (q : Pg) (w : World) (h : XSw w y x) (hT : ∀ q ∈ x.Q, q.T.length < 1000000000000) (hQ : x.Q.length ≤ 8) (hK : x.K.length ≤ 64) (hKp : ∀ e ∈ x.K, (0 ≤ e.port ∧ e.port < x.Q.length) ∧ isGrp e.mac = false) (ht : 0 < q.f.to.size) (hv : 0 ≤ q.f.vlan ∧ q.f.vlan < 4096) (hk : 0 ≤ q.f.mark ∧ q.f.mark < 16) (hs : q.f.to.size + q.f.fr.size + q.f.ty.size + q.f.rest.size ≤ 10000) :
    Calls Tryz.prog 139 #[.pointer (some ⟨y, 0, none⟩), .agg (xfCells q.f), .int .i64 q.port, .bool q.routed] w (CarryEnd x q w) := by
  obtain ⟨port, dat, ⟨ft, ff, fg, fv, fk, fy, fz⟩, pb, ph, pt, right, routed⟩ := q
  simp only at ht hv hk hs ⊢
  obtain ⟨W1, hW1⟩ : ∃ W1, W1 = w.alloc (.cells #[.string ft, .string ff, .int .i64 fv, .int .i64 fk, .bool fg, .string fy, .string fz] 248) := ⟨_, rfl⟩
  obtain ⟨bf, hbf⟩ : ∃ bf, bf = w.heap.size := ⟨_, rfl⟩
  have hb1 : Below w.heap.size w W1 := by rw [hW1]; exact (Below.refl _ w).alloc (Nat.le_refl _) _
  have hfr : W1.heap[bf]? = some (.cells #[.string ft, .string ff, .int .i64 fv, .int .i64 fk, .bool fg, .string fy, .string fz] 248 (0, 0)) := by rw [hW1, hbf]; exact allocN _ _
  obtain ⟨pa, pcap, pg, hpv, hpr⟩ := h.ports
  have c0 := h.c0
  rw [hpv] at c0
  have HC0 := hide c0
  have HX := hide h
  have HTT := hide hT
  have HQ8 := hide hQ
  have HB1 := hide hb1
  have HFR := hide hfr
  have HW1 := hide hW1
  have HBF := hide hbf
  have HV0 : Hid (0 ≤ (Fr.mk ft ff fg fv fk fy fz).vlan ∧ (Fr.mk ft ff fg fv fk fy fz).vlan < 4096) := hide hv
  have HK0 : Hid (0 ≤ (Fr.mk ft ff fg fv fk fy fz).mark ∧ (Fr.mk ft ff fg fv fk fy fz).mark < 16) := hide hk
  have HS0 : Hid ((Fr.mk ft ff fg fv fk fy fz).to.size + (Fr.mk ft ff fg fv fk fy fz).fr.size + (Fr.mk ft ff fg fv fk fy fz).ty.size + (Fr.mk ft ff fg fv fk fy fz).rest.size ≤ 10000) := hide hs
  have FIN : Hid (known x.K fv ft = none → ∀ (lv : Value) {B : Nat} (W : World) (rr : Int), rr = (if fwdPs x.P port routed fv x.Q.length = [] then 8 else 0) → RecOwn outRec B W 66 2 lv (outL x.P ⟨ft, ff, fg, fv, fk, fy, fz⟩ (fwdPs x.P port routed fv x.Q.length)) → Below w.heap.size w W → w.heap.size ≤ B → CarryEnd x ⟨port, dat, ⟨ft, ff, fg, fv, fk, fy, fz⟩, pb, ph, pt, right, routed⟩ w (.returned (.tuple #[lv, .int .i64 rr])) W) := hide fun hn lv B W rr hrr hr hb hB => hrr ▸ carry_all (q := ⟨port, dat, ⟨ft, ff, fg, fv, fk, fy, fz⟩, pb, ph, pt, right, routed⟩) hn hr hb hB
  have CG := hide (xgroup_any ft W1 ht)
  have CWH := hide (xwhere_any y x fv ft W1 (h.below hb1) (by omega))
  have hq8 : (x.Q.length : Int) ≤ 8 := by omega
  have hyl := h.lt
  have ly1 : y < W1.heap.size := by have := hb1.size; omega
  have lb1 : bf < W1.heap.size := (Array.getElem?_eq_some_iff.1 hfr).1
  have i0 : W1.cell? ⟨bf, 0, none⟩ = some (.string ft) := cellRow hfr rfl
  have i1 : W1.cell? ⟨bf, 1, none⟩ = some (.string ff) := cellRow hfr rfl
  have i2 : W1.cell? ⟨bf, 2, none⟩ = some (.int .i64 fv) := cellRow hfr rfl
  have i3 : W1.cell? ⟨bf, 3, none⟩ = some (.int .i64 fk) := cellRow hfr rfl
  have i4 : W1.cell? ⟨bf, 4, none⟩ = some (.bool fg) := cellRow hfr rfl
  have i5 : W1.cell? ⟨bf, 5, none⟩ = some (.string fy) := cellRow hfr rfl
  have i6 : W1.cell? ⟨bf, 6, none⟩ = some (.string fz) := cellRow hfr rfl
  have yc1 := cell_later hb1 c0
  have HKP := hide hKp
  have hGK : isGrp ft = true → known x.K fv ft = none := fun hg => by
    cases hkn : known x.K fv ft with
    | none => rfl
    | some e =>
      have hm := List.mem_of_find?_eq_some hkn
      have hpe := List.find?_some hkn
      simp only [Bool.and_eq_true, beq_iff_eq] at hpe
      have : e.mac = ft := ba_ext hpe.2
      rw [← this, (hKp e hm).2] at hg
      cases hg
  have HGK := hide hGK
  clear h hpr hpv c0 hb1 hfr hW1 hbf hT hK hv hk hs hKp hGK
  simp only [xfCells]
  go_enter Tryz.func139, Tryz.ntmps139
  go_wp2_with fail
  rw [← HW1.out, ← HBF.out]
  refine CG.out.mono ?_
  rintro e W ⟨rfl, hww⟩
  rw [hww]
  clear hww W CG
  cases hgr : isGrp ft with
  | true =>
    have HGR := hide hgr
    clear hgr
    go_wp2_with fail
    go_loopw [13, 14] (fun pv2 i wr => ∃ k : Nat, k ≤ x.Q.length ∧ i = .int .i64 k ∧ RecOwn intRec bf wr 3 1 pv2 (fwdPs x.P port routed fv k) ∧ Below w.heap.size w wr ∧ wr.heap[bf]? = some (.cells #[.string ft, .string ff, .int .i64 fv, .int .i64 fk, .bool fg, .string fy, .string fz] 248 (0, 0))) (fun _ i _ => x.Q.length - (intOf i).toNat)
    case atStart => exact ⟨0, by omega, rfl, RecOwn.nil _ _ _ _ _, HB1.out, HFR.out⟩
    case round =>
      obtain ⟨k, hk, rfl, hown, hb, hrg⟩ := hrel
      obtain ⟨la, lcap, lg, hlv, -⟩ := hown.row intRec_length
      subst hlv
      obtain ⟨m, hm⟩ : ∃ m, m = (fwdPs x.P port routed fv k).length := ⟨_, rfl⟩
      rw [← hm] at hown ⊢
      have yc := cell_later hb HC0.out
      have ly : y < wr.heap.size := block_lt_of_cell yc
      have e2 : wr.cell? ⟨bf, 2, none⟩ = some (.int .i64 fv) := cellRow hrg rfl
      have lb : bf < wr.heap.size := block_lt_of_cell e2
      by_cases hkl : k < x.Q.length
      · have hki : (k : Int) < x.Q.length := by omega
        have CO := hide (xof_any y k x fv wr (HX.out.below hb) hkl HTT.out HQ8.out)
        have HOWN := hide hown
        have HB := hide hb
        have HRG := hide hrg
        have HM := hide hm
        clear hown hb hrg hm
        go_wp2_with fail
        refine CO.out.mono ?_
        rintro e w2 ⟨rfl, hb2⟩
        have hb02 : Below w.heap.size w w2 := HB.out.trans (hb2.mono HB.out.size)
        have hrg2 := (hb2.block bf lb).trans HRG.out
        have hown2 := HOWN.out.below hb2
        have HB2 := hide hb02
        have HR2 := hide hrg2
        have HO2 := hide hown2
        cases hv : hasV (pAt x.P k) fv with
        | false =>
          have HV : Hid (fwdPs x.P port routed fv (k + 1) = fwdPs x.P port routed fv k) := hide (by rw [fwdPs_succ, hv]; rfl)
          clear hv hb2 hb02 hrg2 hown2 CO
          go_wp2_with fail
          go_roundw
          case rel => exact ⟨k + 1, by omega, by go_num, by rw [HV.out]; exact HO2.out, HB2.out, HR2.out⟩
          case measure => simp [intOf]; omega
        | true =>
          cases hp : ((k : Int) != port) with
          | false =>
            cases routed with
            | false =>
              have HV : Hid (fwdPs x.P port false fv (k + 1) = fwdPs x.P port false fv k) := hide (by rw [fwdPs_succ, hv, hp]; rfl)
              clear hv hb2 hb02 hrg2 hown2 CO
              go_wp2_with fail
              go_roundw
              case rel => exact ⟨k + 1, by omega, by go_num, by rw [HV.out]; exact HO2.out, HB2.out, HR2.out⟩
              case measure => simp [intOf]; omega
            | true =>
              have HV : Hid (fwdPs x.P port true fv (k + 1) = fwdPs x.P port true fv k ++ [(k : Int)]) := hide (by rw [fwdPs_succ, hv, hp]; rfl)
              clear hv hb2 hb02 hrg2 hown2 CO
              obtain ⟨g3, cp3, w3, hap, hown3, hch3⟩ := append_int (j := (k : Int)) HO2.out (by have := HB2.out.size; rw [HBF.out]; exact this) (by have := fwdPs_length x.P port true fv k; have := HQ8.out; omega)
              rw [← HM.out] at hap hown3
              have hap3 := appN_run hap
              have nb : (Value.slice la m lcap).ownBlock ≠ some bf := own_block HO2.out.1 HR2.out (by decide)
              have hrg3 := (hch3.block bf (Array.getElem?_eq_some_iff.1 HR2.out).1 nb).trans HR2.out
              have hb03 : Below w.heap.size w w3 := HB2.out.trans (hch3.below HB2.out.size fun b hb' => by have := HO2.out.base hb'; rw [HBF.out] at this; exact this)
              have HO3 := hide hown3
              have HR3 := hide hrg3
              have HB3 := hide hb03
              clear hap hown3 hch3 nb hrg3 hb03
              go_wp2_with fail
              go_roundw
              case rel => exact ⟨k + 1, by omega, by go_num, by rw [HV.out]; exact HO3.out, HB3.out, HR3.out⟩
              case measure => simp [intOf]; omega
          | true =>
            have HV : Hid (fwdPs x.P port routed fv (k + 1) = fwdPs x.P port routed fv k ++ [(k : Int)]) := hide (by rw [fwdPs_succ, hv, hp]; rfl)
            clear hv hb2 hb02 hrg2 hown2 CO
            obtain ⟨g3, cp3, w3, hap, hown3, hch3⟩ := append_int (j := (k : Int)) HO2.out (by have := HB2.out.size; rw [HBF.out]; exact this) (by have := fwdPs_length x.P port routed fv k; have := HQ8.out; omega)
            rw [← HM.out] at hap hown3
            have hap3 := appN_run hap
            have nb : (Value.slice la m lcap).ownBlock ≠ some bf := own_block HO2.out.1 HR2.out (by decide)
            have hrg3 := (hch3.block bf (Array.getElem?_eq_some_iff.1 HR2.out).1 nb).trans HR2.out
            have hb03 : Below w.heap.size w w3 := HB2.out.trans (hch3.below HB2.out.size fun b hb' => by have := HO2.out.base hb'; rw [HBF.out] at this; exact this)
            have HO3 := hide hown3
            have HR3 := hide hrg3
            have HB3 := hide hb03
            clear hap hown3 hch3 nb hrg3 hb03
            go_wp2_with fail
            go_roundw
            case rel => exact ⟨k + 1, by omega, by go_num, by rw [HV.out]; exact HO3.out, HB3.out, HR3.out⟩
            case measure => simp [intOf]; omega
      · have hki : ¬ (k : Int) < x.Q.length := by omega
        have hke : k = x.Q.length := by omega
        subst hke
        have hT := hown.nums
        have CX := hide (xout_any y x ⟨ft, ff, fg, fv, fk, fy, fz⟩ (fwdPs x.P port routed fv x.Q.length) (.slice la m lcap) wr (HX.out.below hb) hT (fwdPs_range _ _ _ _ _) (by have := fwdPs_length x.P port routed fv x.Q.length; have := HQ8.out; omega) HQ8.out HV0.out HK0.out HS0.out)
        have e0 : wr.cell? ⟨bf, 0, none⟩ = some (.string ft) := cellRow hrg rfl
        have e1 : wr.cell? ⟨bf, 1, none⟩ = some (.string ff) := cellRow hrg rfl
        have e3 : wr.cell? ⟨bf, 3, none⟩ = some (.int .i64 fk) := cellRow hrg rfl
        have e4 : wr.cell? ⟨bf, 4, none⟩ = some (.bool fg) := cellRow hrg rfl
        have e5 : wr.cell? ⟨bf, 5, none⟩ = some (.string fy) := cellRow hrg rfl
        have e6 : wr.cell? ⟨bf, 6, none⟩ = some (.string fz) := cellRow hrg rfl
        have HB := hide hb
        clear hown hb hrg hm hT
        simp only [xfCells] at CX
        obtain ⟨rr, hrr⟩ : ∃ rr : Int, rr = (if fwdPs x.P port routed fv x.Q.length = [] then 8 else 0) := ⟨_, rfl⟩
        rw [← hrr] at CX
        have HRR := hide hrr
        clear hrr
        go_wp2_with fail
        refine CX.out.mono ?_
        rintro e W ⟨lv, rfl, hr, hbW⟩
        have HF := hide (FIN.out (HGK.out HGR.out) lv W rr HRR.out hr (HB.out.trans (hbW.mono HB.out.size)) HB.out.size)
        clear hr hbW CX
        go_wp2
        go_ret2
        exact HF.out
  | false =>
    clear hgr
    go_wp2_with fail
    refine CWH.out.mono ?_
    rintro e W ⟨rfl, hww⟩
    rw [hww]
    clear hww W CWH
    cases hkn : known x.K fv ft with
    | none =>
      have hwh : whereOf x.K fv ft = -1 := by unfold whereOf; rw [hkn]
      rw [hwh]
      have HKN := hide hkn
      clear hwh hkn
      go_wp2_with fail
      go_loopw [13, 14] (fun pv2 i wr => ∃ k : Nat, k ≤ x.Q.length ∧ i = .int .i64 k ∧ RecOwn intRec bf wr 3 1 pv2 (fwdPs x.P port routed fv k) ∧ Below w.heap.size w wr ∧ wr.heap[bf]? = some (.cells #[.string ft, .string ff, .int .i64 fv, .int .i64 fk, .bool fg, .string fy, .string fz] 248 (0, 0))) (fun _ i _ => x.Q.length - (intOf i).toNat)
      case atStart => exact ⟨0, by omega, rfl, RecOwn.nil _ _ _ _ _, HB1.out, HFR.out⟩
      case round =>
        obtain ⟨k, hk, rfl, hown, hb, hrg⟩ := hrel
        obtain ⟨la, lcap, lg, hlv, -⟩ := hown.row intRec_length
        subst hlv
        obtain ⟨m, hm⟩ : ∃ m, m = (fwdPs x.P port routed fv k).length := ⟨_, rfl⟩
        rw [← hm] at hown ⊢
        have yc := cell_later hb HC0.out
        have ly : y < wr.heap.size := block_lt_of_cell yc
        have e2 : wr.cell? ⟨bf, 2, none⟩ = some (.int .i64 fv) := cellRow hrg rfl
        have lb : bf < wr.heap.size := block_lt_of_cell e2
        by_cases hkl : k < x.Q.length
        · have hki : (k : Int) < x.Q.length := by omega
          have CO := hide (xof_any y k x fv wr (HX.out.below hb) hkl HTT.out HQ8.out)
          have HOWN := hide hown
          have HB := hide hb
          have HRG := hide hrg
          have HM := hide hm
          clear hown hb hrg hm
          go_wp2_with fail
          refine CO.out.mono ?_
          rintro e w2 ⟨rfl, hb2⟩
          have hb02 : Below w.heap.size w w2 := HB.out.trans (hb2.mono HB.out.size)
          have hrg2 := (hb2.block bf lb).trans HRG.out
          have hown2 := HOWN.out.below hb2
          have HB2 := hide hb02
          have HR2 := hide hrg2
          have HO2 := hide hown2
          cases hv : hasV (pAt x.P k) fv with
          | false =>
            have HV : Hid (fwdPs x.P port routed fv (k + 1) = fwdPs x.P port routed fv k) := hide (by rw [fwdPs_succ, hv]; rfl)
            clear hv hb2 hb02 hrg2 hown2 CO
            go_wp2_with fail
            go_roundw
            case rel => exact ⟨k + 1, by omega, by go_num, by rw [HV.out]; exact HO2.out, HB2.out, HR2.out⟩
            case measure => simp [intOf]; omega
          | true =>
            cases hp : ((k : Int) != port) with
            | false =>
              cases routed with
              | false =>
                have HV : Hid (fwdPs x.P port false fv (k + 1) = fwdPs x.P port false fv k) := hide (by rw [fwdPs_succ, hv, hp]; rfl)
                clear hv hb2 hb02 hrg2 hown2 CO
                go_wp2_with fail
                go_roundw
                case rel => exact ⟨k + 1, by omega, by go_num, by rw [HV.out]; exact HO2.out, HB2.out, HR2.out⟩
                case measure => simp [intOf]; omega
              | true =>
                have HV : Hid (fwdPs x.P port true fv (k + 1) = fwdPs x.P port true fv k ++ [(k : Int)]) := hide (by rw [fwdPs_succ, hv, hp]; rfl)
                clear hv hb2 hb02 hrg2 hown2 CO
                obtain ⟨g3, cp3, w3, hap, hown3, hch3⟩ := append_int (j := (k : Int)) HO2.out (by have := HB2.out.size; rw [HBF.out]; exact this) (by have := fwdPs_length x.P port true fv k; have := HQ8.out; omega)
                rw [← HM.out] at hap hown3
                have hap3 := appN_run hap
                have nb : (Value.slice la m lcap).ownBlock ≠ some bf := own_block HO2.out.1 HR2.out (by decide)
                have hrg3 := (hch3.block bf (Array.getElem?_eq_some_iff.1 HR2.out).1 nb).trans HR2.out
                have hb03 : Below w.heap.size w w3 := HB2.out.trans (hch3.below HB2.out.size fun b hb' => by have := HO2.out.base hb'; rw [HBF.out] at this; exact this)
                have HO3 := hide hown3
                have HR3 := hide hrg3
                have HB3 := hide hb03
                clear hap hown3 hch3 nb hrg3 hb03
                go_wp2_with fail
                go_roundw
                case rel => exact ⟨k + 1, by omega, by go_num, by rw [HV.out]; exact HO3.out, HB3.out, HR3.out⟩
                case measure => simp [intOf]; omega
            | true =>
              have HV : Hid (fwdPs x.P port routed fv (k + 1) = fwdPs x.P port routed fv k ++ [(k : Int)]) := hide (by rw [fwdPs_succ, hv, hp]; rfl)
              clear hv hb2 hb02 hrg2 hown2 CO
              obtain ⟨g3, cp3, w3, hap, hown3, hch3⟩ := append_int (j := (k : Int)) HO2.out (by have := HB2.out.size; rw [HBF.out]; exact this) (by have := fwdPs_length x.P port routed fv k; have := HQ8.out; omega)
              rw [← HM.out] at hap hown3
              have hap3 := appN_run hap
              have nb : (Value.slice la m lcap).ownBlock ≠ some bf := own_block HO2.out.1 HR2.out (by decide)
              have hrg3 := (hch3.block bf (Array.getElem?_eq_some_iff.1 HR2.out).1 nb).trans HR2.out
              have hb03 : Below w.heap.size w w3 := HB2.out.trans (hch3.below HB2.out.size fun b hb' => by have := HO2.out.base hb'; rw [HBF.out] at this; exact this)
              have HO3 := hide hown3
              have HR3 := hide hrg3
              have HB3 := hide hb03
              clear hap hown3 hch3 nb hrg3 hb03
              go_wp2_with fail
              go_roundw
              case rel => exact ⟨k + 1, by omega, by go_num, by rw [HV.out]; exact HO3.out, HB3.out, HR3.out⟩
              case measure => simp [intOf]; omega
        · have hki : ¬ (k : Int) < x.Q.length := by omega
          have hke : k = x.Q.length := by omega
          subst hke
          have hT := hown.nums
          have CX := hide (xout_any y x ⟨ft, ff, fg, fv, fk, fy, fz⟩ (fwdPs x.P port routed fv x.Q.length) (.slice la m lcap) wr (HX.out.below hb) hT (fwdPs_range _ _ _ _ _) (by have := fwdPs_length x.P port routed fv x.Q.length; have := HQ8.out; omega) HQ8.out HV0.out HK0.out HS0.out)
          have e0 : wr.cell? ⟨bf, 0, none⟩ = some (.string ft) := cellRow hrg rfl
          have e1 : wr.cell? ⟨bf, 1, none⟩ = some (.string ff) := cellRow hrg rfl
          have e3 : wr.cell? ⟨bf, 3, none⟩ = some (.int .i64 fk) := cellRow hrg rfl
          have e4 : wr.cell? ⟨bf, 4, none⟩ = some (.bool fg) := cellRow hrg rfl
          have e5 : wr.cell? ⟨bf, 5, none⟩ = some (.string fy) := cellRow hrg rfl
          have e6 : wr.cell? ⟨bf, 6, none⟩ = some (.string fz) := cellRow hrg rfl
          have HB := hide hb
          clear hown hb hrg hm hT
          simp only [xfCells] at CX
          obtain ⟨rr, hrr⟩ : ∃ rr : Int, rr = (if fwdPs x.P port routed fv x.Q.length = [] then 8 else 0) := ⟨_, rfl⟩
          rw [← hrr] at CX
          have HRR := hide hrr
          clear hrr
          go_wp2_with fail
          refine CX.out.mono ?_
          rintro e W ⟨lv, rfl, hr, hbW⟩
          have HF := hide (FIN.out HKN.out lv W rr HRR.out hr (HB.out.trans (hbW.mono HB.out.size)) HB.out.size)
          clear hr hbW CX
          go_wp2
          go_ret2
          exact HF.out
    | some z =>
      have hm : z ∈ x.K := List.mem_of_find?_eq_some hkn
      obtain ⟨⟨hp0, hp1⟩, -⟩ := HKP.out z hm
      obtain ⟨k, hkz⟩ : ∃ k : Nat, z.port = k := ⟨z.port.toNat, by omega⟩
      have hwh : whereOf x.K fv ft = (k : Int) := by unfold whereOf; rw [hkn, ← hkz]
      have hkl : k < x.Q.length := by omega
      rw [hwh]
      have CO := hide (xof_any y k x fv W1 (HX.out.below HB1.out) hkl HTT.out HQ8.out)
      have hki : (k : Int) < x.Q.length := by omega
      have HL : Hid (carL x ⟨port, dat, ⟨ft, ff, fg, fv, fk, fy, fz⟩, pb, ph, pt, right, routed⟩ = if (((k : Int) != port) || routed) && hasV (pAt x.P k) fv then outL x.P ⟨ft, ff, fg, fv, fk, fy, fz⟩ [(k : Int)] else []) := hide (by
        unfold carL
        show fwdO x.P _ (portOf (known x.K fv ft)) (known x.K fv ft).isSome x.Q.length = _
        rw [hkn]
        show fwdO x.P _ z.port true x.Q.length = _
        rw [hkz]
        exact fwd_one _ _ _ _ hkl)
      clear hwh hkn hm hp0 hp1 hkz
      go_wp2_with fail
      refine CO.out.mono ?_
      rintro e w2 ⟨rfl, hb2⟩
      have hb02 : Below w.heap.size w w2 := HB1.out.trans (hb2.mono HB1.out.size)
      have hrg2 := (hb2.block bf lb1).trans HFR.out
      have HB2 := hide hb02
      have HNIL : Hid (((((k : Int) != port) || routed) && hasV (pAt x.P k) fv) = false → CarryEnd x ⟨port, dat, ⟨ft, ff, fg, fv, fk, fy, fz⟩, pb, ph, pt, right, routed⟩ w (.returned (.tuple #[.slice none 0 0, .int .i64 8])) w2) := hide fun hc => by
        have e := HL.out
        rw [hc] at e
        exact ⟨_, by rw [e]; rfl, by rw [e]; exact RecOwn.nil _ _ _ _ _, HB2.out⟩
      have HONE : Hid (((((k : Int) != port) || routed) && hasV (pAt x.P k) fv) = true → ∀ (lv : Value) (W : World) {B : Nat}, RecOwn outRec B W 66 2 lv (outL x.P ⟨ft, ff, fg, fv, fk, fy, fz⟩ [(k : Int)]) → Below w.heap.size w W → w.heap.size ≤ B → CarryEnd x ⟨port, dat, ⟨ft, ff, fg, fv, fk, fy, fz⟩, pb, ph, pt, right, routed⟩ w (.returned (.tuple #[lv, .int .i64 0])) W) := hide fun hc lv W B hr hb hB => by
        have e := HL.out
        rw [hc] at e
        exact ⟨_, by rw [e]; rfl, by rw [e]; exact hr.lower hB, hb⟩
      have CX : Hid (Calls Tryz.prog 136 #[.pointer (some ⟨y, 0, none⟩), .agg (xfCells ⟨ft, ff, fg, fv, fk, fy, fz⟩), .slice (some ⟨w2.heap.size, 0, none⟩) 1 1] (w2.alloc (.cells #[.int .i64 k] 3)) fun e w' => ∃ lv, e = .returned (.tuple #[lv, .int .i64 0]) ∧ RecOwn outRec (w2.alloc (.cells #[.int .i64 k] 3)).heap.size w' 66 2 lv (outL x.P ⟨ft, ff, fg, fv, fk, fy, fz⟩ [(k : Int)]) ∧ Below (w2.alloc (.cells #[.int .i64 k] 3)).heap.size (w2.alloc (.cells #[.int .i64 k] 3)) w') := hide (by
        have hba : Below w2.heap.size w2 (w2.alloc (.cells #[.int .i64 k] 3)) := (Below.refl _ w2).alloc (Nat.le_refl _) _
        have hn : NumsAt (w2.alloc (.cells #[.int .i64 k] 3)) (.slice (some ⟨w2.heap.size, 0, none⟩) 1 1) [(k : Int)] := ⟨_, _, w2.heap.size, rfl, fun j hj => by
          have : j = 0 := by simp at hj; exact hj
          subst this
          exact ⟨rfl, cellRow (allocN _ _) rfl⟩⟩
        have hx := xout_any y x ⟨ft, ff, fg, fv, fk, fy, fz⟩ [(k : Int)] (.slice (some ⟨w2.heap.size, 0, none⟩) 1 1) (w2.alloc (.cells #[.int .i64 k] 3)) ((HX.out.below hb02).below hba) hn (fun t ht => by rw [List.mem_singleton] at ht; subst ht; omega) (by simp) HQ8.out HV0.out HK0.out HS0.out
        exact hx)
      simp only [xfCells] at CX
      have j0 : w2.cell? ⟨bf, 0, none⟩ = some (.string ft) := cellRow hrg2 rfl
      have j1 : w2.cell? ⟨bf, 1, none⟩ = some (.string ff) := cellRow hrg2 rfl
      have j2 : w2.cell? ⟨bf, 2, none⟩ = some (.int .i64 fv) := cellRow hrg2 rfl
      have j3 : w2.cell? ⟨bf, 3, none⟩ = some (.int .i64 fk) := cellRow hrg2 rfl
      have j4 : w2.cell? ⟨bf, 4, none⟩ = some (.bool fg) := cellRow hrg2 rfl
      have j5 : w2.cell? ⟨bf, 5, none⟩ = some (.string fy) := cellRow hrg2 rfl
      have j6 : w2.cell? ⟨bf, 6, none⟩ = some (.string fz) := cellRow hrg2 rfl
      have lb2 : bf < w2.heap.size := block_lt_of_cell j0
      have HSZ := hide (show w.heap.size ≤ (w2.alloc (.cells #[.int .i64 k] 3)).heap.size by have := hb02.size; simp; omega)
      have HBA := hide (show Below w.heap.size w (w2.alloc (.cells #[.int .i64 k] 3)) from hb02.alloc hb02.size _)
      clear hb2 hrg2 hb02 CO i0 i1 i2 i3 i4 i5 i6 yc1
      cases hv : hasV (pAt x.P k) fv with
      | false =>
        have HF := hide (HNIL.out (by rw [hv, Bool.and_false]))
        clear hv
        go_wp2
        go_ret2
        exact HF.out
      | true =>
        cases hp : ((k : Int) == port) with
        | true =>
          cases routed with
          | false =>
            have HF := hide (HNIL.out (by rw [hv]; simp [bne, hp]))
            clear hv
            go_wp2
            go_ret2
            exact HF.out
          | true =>
            have HO := hide (HONE.out (by rw [hv]; simp))
            clear hv
            go_wp2_with fail
            refine CX.out.mono ?_
            rintro e W ⟨lv, rfl, hr, hbW⟩
            have HF := hide (HO.out lv W hr (HBA.out.trans (hbW.mono HSZ.out)) HSZ.out)
            clear hr hbW CX
            go_wp2
            go_ret2
            exact HF.out
        | false =>
          have HO := hide (HONE.out (by rw [hv]; simp [bne, hp]))
          clear hv
          go_wp2_with fail
          refine CX.out.mono ?_
          rintro e W ⟨lv, rfl, hr, hbW⟩
          have HF := hide (HO.out lv W hr (HBA.out.trans (hbW.mono HSZ.out)) HSZ.out)
          clear hr hbW CX
          go_wp2
          go_ret2
          exact HF.out
end Go.Proofs.YtnjalelblbjfiaaGreatDoor

namespace Go.Proofs.YtnjalelblbjfiaaGreatDoor
open Go.RowKit

section
variable {α : Type} {l : List α} {r : α}
theorem mid_length {k : Nat} (hk : k ≤ l.length) : (l.take k ++ r :: l.drop k).length = l.length + 1 := by
  simp only [List.length_append, List.length_take, List.length_cons, List.length_drop]; omega
theorem mid_at {k : Nat} (hk : k ≤ l.length) : (l.take k ++ r :: l.drop k)[k]'(by rw [mid_length hk]; omega) = r := by
  rw [List.getElem_append_right (by rw [List.length_take]; omega)]
  simp [Nat.min_eq_left hk]
theorem mid_at0 {j : Nat} (hk : j + 1 ≤ l.length) : (l.take (j + 1) ++ r :: l.drop (j + 1))[j]'(by rw [mid_length hk]; omega) = l[j]'(by omega) := by
  rw [List.getElem_append_left (by rw [List.length_take]; omega), List.getElem_take]
theorem mid_step {j : Nat} (hl : j + 1 ≤ l.length) : (((l.take (j + 1) ++ r :: l.drop (j + 1)).set (j + 1) (l[j]'(by omega))).set j r) = l.take j ++ r :: l.drop j := by
  have e1 : l.take (j + 1) = l.take j ++ [l[j]'(by omega)] := by
    rw [List.take_add_one, List.getElem?_eq_getElem (by omega)]
    rfl
  have e2 : l.drop j = (l[j]'(by omega)) :: l.drop (j + 1) := List.drop_eq_getElem_cons (by omega)
  have hlen : (l.take j).length = j := by rw [List.length_take]; omega
  rw [e2, e1, List.append_assoc, List.singleton_append]
  rw [List.set_append_right _ _ (by rw [hlen]; omega), hlen, show j + 1 - j = 1 by omega]
  rw [List.set_append_right _ _ (by rw [hlen]; omega), hlen, Nat.sub_self]
  rfl
theorem mid_mem {k : Nat} (q : α) : q ∈ l.take k ++ r :: l.drop k ↔ q = r ∨ q ∈ l := by
  rw [List.mem_append, List.mem_cons]
  constructor
  · rintro (h | h | h)
    · exact .inr (List.mem_of_mem_take h)
    · exact .inl h
    · exact .inr (List.mem_of_mem_drop h)
  · rintro (h | h)
    · exact .inr (.inl h)
    · rw [← List.take_append_drop k l, List.mem_append] at h
      rcases h with h | h
      · exact .inl h
      · exact .inr (.inr h)
end
theorem cmpM_trans {a b c : Mc} (h : cmpM a b.vlan b.mac < 0) (k : cmpM b c.vlan c.mac < 0) : cmpM a c.vlan c.mac < 0 := cmpPl_trans h k
/-- Learned: a new one. -/
theorem learn_new {K : List Mc} {e0 : Mc} {i : Nat} (hs : SortedP K) (hi : i ≤ K.length) (hn : K.length < 64) (hk : known K e0.vlan e0.mac = none) (hR : ∀ j (hj : j < K.length), i ≤ j → cmpM e0 K[j].vlan K[j].mac < 0) (hL : ∀ (h : 0 < i), ¬ cmpM e0 (K[i - 1]'(by omega)).vlan (K[i - 1]'(by omega)).mac < 0) : LearnK K e0 (K.take i ++ e0 :: K.drop i) := by
  have hz : ∀ q ∈ K, cmpM q e0.vlan e0.mac ≠ 0 := fun q hq hc => by
    rw [cmpM_zero] at hc
    have := List.find?_eq_none.1 hk q hq
    exact this hc
  have hlow : ∀ j (hj : j < K.length), j < i → cmpM K[j] e0.vlan e0.mac < 0 := fun j hj hji => by
    have h1 : cmpM (K[i - 1]'(by omega)) e0.vlan e0.mac < 0 := by
      rcases Int.lt_trichotomy (cmpM (K[i - 1]'(by omega)) e0.vlan e0.mac) 0 with h | h | h
      · exact h
      · exact absurd h (hz _ (List.getElem_mem _))
      · exact absurd (cmpM_flip h) (hL (by omega))
    by_cases e : j = i - 1
    · subst e; exact h1
    · exact cmpM_trans (List.pairwise_iff_getElem.1 hs j (i - 1) hj (by omega) (by omega)) h1
  refine ⟨?_, ?_⟩
  · show (K.take i ++ e0 :: K.drop i).Pairwise fun a b => cmpM a b.vlan b.mac < 0
    rw [List.pairwise_append]
    refine ⟨hs.sublist (List.take_sublist i K), List.pairwise_cons.2 ⟨fun q hq => ?_, hs.sublist (List.drop_sublist i K)⟩, fun a ha b hb => ?_⟩
    · obtain ⟨j, hj, rfl⟩ := List.getElem_of_mem hq
      rw [List.getElem_drop]
      exact hR _ _ (by omega)
    · obtain ⟨j, hj, rfl⟩ := List.getElem_of_mem ha
      rw [List.getElem_take]
      have hji : j < i := by rw [List.length_take] at hj; omega
      have hl := hlow j (by rw [List.length_take] at hj; omega) hji
      rcases List.mem_cons.1 hb with rfl | hb
      · exact hl
      · obtain ⟨j2, hj2, rfl⟩ := List.getElem_of_mem hb
        rw [List.getElem_drop]
        exact cmpM_trans hl (hR _ _ (by omega))
  · rw [hk]
    have : (Option.isSome (none : Option Mc) || decide (K.length < 64)) = true := by simp [hn]
    rw [if_pos this]
    refine ⟨fun q => ?_, by rw [mid_length hi]; rfl⟩
    rw [mid_mem]
    constructor
    · rintro (h | h)
      · exact .inl h
      · exact .inr ⟨h, hz q h⟩
    · rintro (h | h)
      · exact .inl h
      · exact .inr h.1
/-- Learned: one that was known. -/
theorem learn_set {K : List Mc} {e0 : Mc} {k : Nat} (hs : SortedP K) (hk : k < K.length) (hz : cmpM K[k] e0.vlan e0.mac = 0) : LearnK K e0 (K.set k e0) := by
  have he : K[k].vlan = e0.vlan ∧ K[k].mac = e0.mac := by
    have := cmpPl_zero.1 hz
    exact ⟨this.1, ba_ext this.2⟩
  have hoth : ∀ j (hj : j < K.length), j ≠ k → cmpM K[j] e0.vlan e0.mac ≠ 0 := fun j hj hjk hc => by
    have h0 := cmpPl_zero.1 hc
    have e1 : K[j].vlan = K[k].vlan := h0.1.trans he.1.symm
    have e2 : K[j].mac = K[k].mac := (ba_ext h0.2).trans he.2.symm
    rcases Nat.lt_or_gt_of_ne hjk with h | h
    · have := List.pairwise_iff_getElem.1 hs j k hj hk h
      rw [← e1, ← e2] at this
      exact cmpM_irrefl _ this
    · have := List.pairwise_iff_getElem.1 hs k j hk hj h
      rw [e1, e2] at this
      exact cmpM_irrefl _ this
  have hkn : (known K e0.vlan e0.mac).isSome = true := by
    unfold known
    rw [List.find?_isSome]
    exact ⟨K[k], List.getElem_mem hk, cmpM_zero.1 hz⟩
  refine ⟨?_, ?_⟩
  · refine List.pairwise_iff_getElem.2 fun i j hi hj hij => ?_
    rw [List.length_set] at hi hj
    have hb := List.pairwise_iff_getElem.1 hs i j hi hj hij
    rw [List.getElem_set, List.getElem_set]
    split
    · rename_i e
      subst e
      rw [if_neg (by omega)]
      have : cmpM e0 K[j].vlan K[j].mac = cmpM K[k] K[j].vlan K[j].mac := by unfold cmpM; rw [he.1, he.2]
      rw [this]
      exact hb
    · split
      · rename_i e
        subst e
        rw [← he.1, ← he.2]
        exact hb
      · exact hb
  · rw [if_pos (by rw [hkn]; rfl), if_pos hkn]
    refine ⟨fun q => ?_, List.length_set ..⟩
    constructor
    · intro hq
      obtain ⟨j, hj, rfl⟩ := List.getElem_of_mem hq
      rw [List.length_set] at hj
      rw [List.getElem_set]
      split
      · exact .inl rfl
      · rename_i e
        exact .inr ⟨List.getElem_mem hj, hoth j hj (fun h => e h.symm)⟩
    · rintro (rfl | ⟨hq, hc⟩)
      · exact List.mem_iff_getElem.2 ⟨k, by rw [List.length_set]; exact hk, List.getElem_set_self ..⟩
      · obtain ⟨j, hj, rfl⟩ := List.getElem_of_mem hq
        have hjk : k ≠ j := fun e => by subst e; exact hc hz
        exact List.mem_iff_getElem.2 ⟨j, by rw [List.length_set]; exact hj, List.getElem_set_ne hjk ..⟩
/-- What is known has turned; all else of the switch is as it was. -/
theorem XSw.setK {w W : World} {y : Nat} {x : XSt} (h : XSw w y x) {kv' : Value} {K' : List Mc} (hc : Chg (fun b => b = y ∨ x.kv.ownBlock = some b) w W) (hy : ∃ cs, W.heap[y]? = some (.cells cs 90 (0, 0))) (ho : ∀ j, j ≠ 4 → W.cell? ⟨y, j, none⟩ = w.cell? ⟨y, j, none⟩) (h4 : W.cell? ⟨y, 4, none⟩ = some kv') (hr : RecOwn (mcRec x.now) 1 W 92 4 kv' K') : XSw W y { x with kv := kv', K := K' } := by
  obtain ⟨cs, hb⟩ := h.blk
  have keep : ∀ {t : TypeId} {s n B : Nat} {v : Value} {xs : List Value}, w.ownsRow B t s v n xs → t ≠ 90 → t ≠ 92 → ∀ g, v.ownBlock = some g → W.heap[g]? = w.heap[g]? := fun hO ht1 ht2 g hg => hc.block g (hO.lt g hg).2 fun hx => by
    rcases hx with hx | hx
    · exact own_block hO hb ht1 (hg.trans (congrArg some hx))
    · exact own_apart hO h.rk.1 ht2 hg hx
  exact ⟨hy, (ho 0 (by decide)).trans h.c0, (ho 1 (by decide)).trans h.c1, (ho 2 (by decide)).trans h.c2, (ho 3 (by decide)).trans h.c3, h4, (ho 5 (by decide)).trans h.c5, h.rp.same (keep h.rp.1 (by decide) (by decide)), h.rf.same (keep h.rf.1 (by decide) (by decide)), h.rr.same (keep h.rr.1 (by decide) (by decide)), h.rt.same (keep h.rt.1 (by decide) (by decide)), hr, fun q hq => ownsRow_same (h.tg q hq) (keep (h.tg q hq) (by decide) (by decide))⟩
/-- What the document's learn leaves. -/
def XLearn (y : Nat) (x : XSt) (e0 : Mc) (w : World) (e : Ending) (W : World) : Prop := e = .returned (.tuple #[]) ∧ ∃ kv' K', LearnK x.K e0 K' ∧ XSw W y { x with kv := kv', K := K' } ∧ Chg (fun b => b = y ∨ x.kv.ownBlock = some b) w W ∧ ∀ b, kv'.ownBlock = some b → x.kv.ownBlock = some b ∨ w.heap.size ≤ b
end Go.Proofs.YtnjalelblbjfiaaGreatDoor
