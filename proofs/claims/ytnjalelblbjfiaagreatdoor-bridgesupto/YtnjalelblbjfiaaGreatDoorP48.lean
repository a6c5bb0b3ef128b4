import Derived.Test.YtnjalelblbjfiaaGreatDoorP28
import Derived.Test.YtnjalelblbjfiaaGreatDoorP47
import Derived.Test.YtnjalelblbjfiaaGreatDoorP18
namespace Go.Proofs.YtnjalelblbjfiaaGreatDoor
open Go.RowKit
attribute [local go_sem] Oper.semAt_some

theorem FrameEnd.to {w W : World} {k m : Nat} {sv : Value} {R R' : Int → List (Int × ByteArray) → List Mc → Prop} {e : Ending} (h : FrameEnd w k m sv R e W) (hr : ∀ r L K', R r L K' → R' r L K') : FrameEnd w k m sv R' e W := by
  obtain ⟨r, L, K', ov, sv', h0, h1, h2⟩ := h
  exact ⟨r, L, K', ov, sv', h0, hr _ _ _ h1, h2⟩
theorem nat2 : ∀ p ∈ P2, (Lit.int .i64 p.nat).wf = true := fun p hp => by rw [List.eq_of_mem_replicate hp]; rfl
theorem nat2' : ∀ p ∈ P2', (Lit.int .i64 p.nat).wf = true := fun p hp => by
  simp only [P2', List.mem_cons, List.not_mem_nil, or_false] at hp
  rcases hp with rfl | rfl <;> rfl
section
variable (s k m : Nat) (pv sv : Value) (w : World)
theorem second1 (h : SwP w s pv P2 k m sv []) : Calls Tryz.prog 20 #[.pointer (some ⟨s, 0, none⟩), .int .i64 0, .string ⟨#[2, 98, 98, 98, 98, 98, 2, 97, 97, 97, 97, 97, 18, 52, 116, 101, 120, 116]⟩] w (FrameEnd w k m sv fun r L K' => r = 0 ∧ L = [(1, ⟨#[2, 98, 98, 98, 98, 98, 2, 97, 97, 97, 97, 97, 18, 52, 116, 101, 120, 116]⟩)] ∧ K' = [eA]) := by
  refine (frameP s k m pv sv P2 [] 0 mB mA sText 18 52 w h (by decide) nat2 (by decide) (by decide) rfl rfl rfl (by decide) (by decide) (by decide) grpA).mono fun e W h => h.to ?_
  rintro r L K' ⟨h1, h2, h3⟩
  obtain rfl := h1.unique learn1
  rw [known_A1] at h2
  have h4 := h2.trans (out1 _)
  exact ⟨by rw [h3, h4]; rfl, h4, rfl⟩
theorem second2 (h : SwP w s pv P2 k m sv [eA]) : Calls Tryz.prog 20 #[.pointer (some ⟨s, 0, none⟩), .int .i64 1, .string ⟨#[2, 97, 97, 97, 97, 97, 2, 98, 98, 98, 98, 98, 18, 52, 98, 97, 99, 107]⟩] w (FrameEnd w k m sv fun r L K' => r = 0 ∧ L = [(0, ⟨#[2, 97, 97, 97, 97, 97, 2, 98, 98, 98, 98, 98, 18, 52, 98, 97, 99, 107]⟩)] ∧ K' = [eA, eB]) := by
  refine (frameP s k m pv sv P2 [eA] 1 mA mB sBack 18 52 w h (by decide) nat2 (by decide) (by decide) rfl rfl rfl (by decide) (by decide) (by decide) grpB).mono fun e W h => h.to ?_
  rintro r L K' ⟨h1, h2, h3⟩
  obtain rfl := h1.unique learn2
  rw [known_A2] at h2
  have h4 := h2.trans (out2 _)
  exact ⟨by rw [h3, h4]; rfl, h4, rfl⟩
theorem second3 (h : SwP w s pv P2' k m sv [eA, eB]) : Calls Tryz.prog 20 #[.pointer (some ⟨s, 0, none⟩), .int .i64 0, .string ⟨#[2, 98, 98, 98, 98, 98, 2, 97, 97, 97, 97, 97, 18, 52, 116, 101, 120, 116]⟩] w (FrameEnd w k m sv fun r L K' => r = 0 ∧ L = [(1, ⟨#[2, 98, 98, 98, 98, 98, 2, 97, 97, 97, 97, 97, 129, 0, 0, 1, 18, 52, 116, 101, 120, 116]⟩)] ∧ K' = [eA, eB]) := by
  refine (frameP s k m pv sv P2' [eA, eB] 0 mB mA sText 18 52 w h (by decide) nat2' (by decide) (by decide) rfl rfl rfl (by decide) (by decide) (by decide) grpA).mono fun e W h => h.to ?_
  rintro r L K' ⟨h1, h2, h3⟩
  obtain rfl := h1.unique learn3
  rw [known_B2] at h2
  have h4 := h2.trans (out3 _)
  exact ⟨by rw [h3, h4]; rfl, h4, rfl⟩
end
theorem outs_one {w : World} {B : Nat} {v : Value} {p : Int} {d : ByteArray} (h : w.ownsRow B 66 2 v [(p, d)].length (rowO [(p, d)])) : ∃ cap g, v = .slice (some ⟨g, 0, none⟩) 1 cap ∧ v.ownBlock = some g ∧ B ≤ g ∧ g < w.heap.size ∧ w.cell? ⟨g, 0, none⟩ = some (.int .i64 p) ∧ w.cell? ⟨g, 1, none⟩ = some (.string d) := by
  rcases h.2 with ⟨hv, h0⟩ | ⟨g, cap, cur, hv, _⟩
  · cases h0
  · have hb : v.ownBlock = some g := by rw [hv]; rfl
    have hl := h.lt g hb
    have h0 := h.cells (g := g) hb 0 (.int .i64 p) rfl
    have h1 := h.cells (g := g) hb 1 (.string d) rfl
    rw [Addr.add_mid] at h0 h1
    exact ⟨cap, g, hv, hb, hl.1, hl.2, h0, h1⟩

set_option maxRecDepth 100000 in
set_option maxHeartbeats 4000000 in
theorem lsecond_any (w : World) (hl : Laid w) (hm : Means w) : Calls Tryz.prog 9 #[] w fun e W => e = .returned (.bool true) ∧ Below w.heap.size w W := by
  have CN := hide (sNew_any 2 w (by omega) (by omega) hl)
  have HM := hide hm
  clear hl hm
  go_enter Tryz.func9, Tryz.ntmps9
  go_wp2_with fail
  refine CN.out.mono ?_
  rintro e W1 ⟨fb, rb, hb, t, vb, k, m, F, Wb, rfl, hI⟩
  obtain ⟨pv, Q, hS, hP, hQ, hC, hpb⟩ := hI.swP HM.out
  have hkl : k < Wb.heap.size := block_lt_of_cell hI.n.nk.1
  have hml : m < Wb.heap.size := block_lt_of_cell hI.n.nk.2.2.1.1.1
  have hsl : Wb.heap.size < W1.heap.size := lt_of_heap hC
  have hb1 : Below w.heap.size w W1 := hI.n.lo.trans (hI.lo.mono hI.n.lo.size)
  obtain ⟨s, hse⟩ : ∃ s, s = Wb.heap.size := ⟨_, rfl⟩
  have HL := hide (And.intro hI.n.lk (And.intro hI.n.lm (Nat.le_trans hI.n.lo.size (Nat.le_of_eq hse.symm))))
  rw [← hse] at hS hC hpb hkl hml hsl ⊢
  have hpl : ∀ b, pv.ownBlock = some b → b < W1.heap.size := fun b hb => (ownsRow_lt hP.own hb).2
  have C1 := hide (second1 s k m pv (.slice none 0 0) W1 hS)
  have HS1 := hide hS
  have HP := hide (And.intro hP (And.intro hQ (And.intro hpb hpl)))
  have HB1 := hide hb1
  have HZ := hide (And.intro hkl (And.intro hml hsl))
  clear CN hI hS hP hQ hC hpb hkl hml hb1 hpl hse
  go_wp2_with fail
  refine C1.out.mono ?_
  rintro e W2 ⟨r, L, K1, ov1, sv1, rfl, ⟨rfl, rfl, rfl⟩, hown, hkn, ho1, hov, hc1⟩
  obtain ⟨s0, sp, s5, sm⟩ := HS1.out.kept hc1
  obtain ⟨cap1, g1, rfl, hg1, hg1B, hg1l, l0, l1⟩ := outs_one hown
  have hS2 : SwP W2 s pv P2 k m sv1 [eA] := ⟨s0, sp, s5, hkn, sm⟩
  have C2 := hide (second2 s k m pv sv1 W2 hS2)
  have HS2 := hide hS2
  have HC1 := hide hc1
  have HO1 := hide ho1
  have HV1 := hide (And.intro (hov g1 hg1) (And.intro hg1B hg1l))
  have HL1 := hide (And.intro l0 l1)
  clear C1 hS2 hown hkn ho1 hov hc1 s0 sp s5 sm l0 l1 hg1 hg1B hg1l
  go_wp2_with fail
  refine C2.out.mono ?_
  rintro e W3 ⟨r, L, K2, ov2, sv2, rfl, ⟨rfl, rfl, rfl⟩, hown, hkn, ho2, hov, hc2⟩
  obtain ⟨s0, sp, s5, sm⟩ := HS2.out.kept hc2
  obtain ⟨cap2, g2, rfl, hg2, hg2B, hg2l, k0, -⟩ := outs_one hown
  have hS3 : SwP W3 s pv P2 k m sv2 [eA, eB] := ⟨s0, sp, s5, hkn, sm⟩
  have C3 := hide (sMacs_any s k m sv2 [eA, eB] W3 s5 hkn)
  have HS3 := hide hS3
  have HC2 := hide hc2
  have HO2 := hide ho2
  have HV2 := hide (And.intro (hov g2 hg2) (And.intro hg2B hg2l))
  have HK0 := hide k0
  clear C2 hS3 hown hkn ho2 hov hc2 s0 sp s5 sm k0 hg2 hg2B hg2l
  go_wp2_with fail
  refine C3.out.mono ?_
  rintro e W4 ⟨gm, capm, rfl, hown, hb4⟩
  have hgm := hown.lt gm rfl
  have m0 : W4.cell? ⟨gm, 0, none⟩ = some (.int .i64 1) := by have := hown.cells (g := gm) rfl 0 _ rfl; rwa [Addr.add_mid] at this
  have m1 : W4.cell? ⟨gm, 1, none⟩ = some (.string ⟨#[2, 97, 97, 97, 97, 97]⟩) := by have := hown.cells (g := gm) rfl 1 _ rfl; rwa [Addr.add_mid] at this
  have m2 : W4.cell? ⟨gm, 2, none⟩ = some (.int .i64 0) := by have := hown.cells (g := gm) rfl 2 _ rfl; rwa [Addr.add_mid] at this
  have m3 : W4.cell? ⟨gm, 3, none⟩ = some (.int .i64 0) := by have := hown.cells (g := gm) rfl 3 _ rfl; rwa [Addr.add_mid] at this
  obtain ⟨W5, hW5⟩ : ∃ W5, W5 = W4.alloc (.cells #[.int .i64 5, .int .i64 1] 3) := ⟨_, rfl⟩
  have hb5 : Below W4.heap.size W4 W5 := by rw [hW5]; exact (Below.refl _ W4).alloc (Nat.le_refl _) _
  have hb35 : Below W3.heap.size W3 W5 := hb4.trans (hb5.mono hb4.size)
  have hS5 := HS3.out.below hb35
  have b1 := HV1.out
  have b2 := HV2.out
  have z := HZ.out
  have z1 := HC1.out.size
  have z2 := HC2.out.size
  have z4 := hb4.size
  have z5 := hb5.size
  -- where what is known lies
  have w1 : ∀ b, sv1.ownBlock = some b → W1.heap.size ≤ b ∧ b ≠ g1 := fun b hb => by
    rcases HO1.out b hb with e | e
    · cases e
    · exact ⟨e, fun e1 => b1.1.1 (by rw [← e1]; exact hb)⟩
  have w2 : ∀ b, sv2.ownBlock = some b → W1.heap.size ≤ b ∧ b ≠ g1 ∧ b ≠ g2 ∧ b < W3.heap.size := fun b hb => by
    have hbl : b < W3.heap.size := (ownsRow_lt HS3.out.hK.2.2.1.1.2.2.1 hb).2
    refine ⟨?_, ?_, fun e1 => b2.1.1 (by rw [← e1]; exact hb), hbl⟩
    · rcases HO2.out b hb with e | e
      · exact (w1 b e).1
      · omega
    · rcases HO2.out b hb with e | e
      · exact (w1 b e).2
      · omega
  -- the ports
  have hP5 : PortsO W5 pv P2 Q := by
    obtain ⟨p1, p2, p3, p4⟩ := HP.out
    have keep : ∀ b, pv.ownBlock = some b → W5.heap[b]? = W1.heap[b]? := fun b hb => by
      have q1 := p3 b hb
      have q2 := p4 b hb
      rw [hb35.block b (by omega), HC2.out.block b (by omega) (by
        rintro (e | e)
        · omega
        · have := w1 b e; omega), HC1.out.block b q2 (by
        rintro (e | e)
        · omega
        · cases e)]
    refine ⟨p1.len, ownsRow_blk p1.own keep, fun j hj => ⟨(p1.each j hj).1, (p1.each j hj).2.keepB fun b e => ?_⟩⟩
    rw [p2 _ (List.getElem_mem _)] at e
    cases e
  have hnum : NumsAt W5 (.slice (some ⟨W4.heap.size, 0, none⟩) 2 2) [5, 1] := by
    have hr : W5.rangeAt W4.heap.size 0 [.int .i64 5, .int .i64 1] := by rw [hW5]; exact range_new _ _ _
    refine ⟨_, 2, W4.heap.size, rfl, fun j hj => ⟨rfl, ?_⟩⟩
    match j, hj with
    | 0, _ => exact hr 0 _ rfl
    | 1, _ => exact hr 1 _ rfl
  have C5 : Hid (Calls Tryz.prog 22 #[.pointer (some ⟨s, 0, none⟩), .int .i64 1, .int .i64 0, .slice (some ⟨W4.heap.size, 0, none⟩) 2 2] W5 fun e w' => e = .returned (.int .i64 0) ∧ (∃ Q', PortsO w' pv P2' Q' ∧ NewTags W5 Q Q') ∧ Chg (fun b => pv.ownBlock = some b) W5 w') := hide (by
    have := sPort_any s pv P2 Q 1 0 [5, 1] (.slice (some ⟨W4.heap.size, 0, none⟩) 2 2) W5 hS5.h0 hP5 hnum (by decide) (by decide)
    rwa [port2, portset2] at this)
  have HS5 := hide hS5
  have HB4 := hide hb4
  have HB5 := hide hb5
  have HB35 := hide hb35
  have HG := hide hgm
  have HMC := hide (And.intro m0 (And.intro m1 (And.intro m2 m3)))
  have HW2 := hide w2
  have HW1 := hide w1
  clear C3 hS5 hP5 hnum hown hb4 hb5 hb35 hgm m0 m1 m2 m3 w1 w2 b1 b2 z z1 z2 z4 z5
  go_wp2_with fail
  rw [← hW5]
  clear hW5
  refine C5.out.mono ?_
  rintro e W6 ⟨rfl, ⟨Q', hP6, -⟩, hc6⟩
  have z := HZ.out
  have pw := HP.out.2.2
  have one : pv.ownBlock ≠ some 1 := fun e => by
    have h1 := HS1.out.hm.1
    obtain ⟨a, cap, b, e', hcs⟩ := HP.out.1.at
    obtain ⟨ha, q0, -⟩ := hcs 0 (by decide)
    rw [e', ha] at e
    obtain rfl : b = 1 := by simpa [Value.ownBlock] using e
    rw [show 0 * 2 = 0 from rfl, h1] at q0
    cases q0
  have ns : pv.ownBlock ≠ some s := fun e => by have := pw.1 _ e; omega
  have hS6 : SwP W6 s pv P2' k m sv2 [eA, eB] := by
    have h5 := HS5.out
    refine ⟨hc6.block.cell ns h5.h0, hP6.at, hc6.block.cell ns h5.h5, h5.hK.keep fun b hb e => hc6.block b hb fun e' => ?_, hc6.block.cell one h5.hm.1, hc6.block.cell one h5.hm.2.1, hc6.block.cell one h5.hm.2.2.1, hc6.block.cell one h5.hm.2.2.2⟩
    have q1 := pw.1 b e'
    have q2 := pw.2 b e'
    rcases e with e | e | e
    · omega
    · omega
    · have := HW2.out b e; omega
  have C6 := hide (second3 s k m pv sv2 W6 hS6)
  have HC6 := hide hc6
  clear C5 hS6 hP6 hc6 one ns pw z
  go_wp2_with fail
  refine C6.out.mono ?_
  rintro e W ⟨r, L, K3, ov3, sv3, rfl, ⟨rfl, rfl, rfl⟩, hown, -, -, -, hc7⟩
  obtain ⟨cap3, g3, rfl, -, hg3B, hg3l, -, n1⟩ := outs_one hown
  have z := HZ.out
  have pw := HP.out.2.2
  have b1 := HV1.out
  have b2 := HV2.out
  have z1 := HC1.out.size
  have z2 := HC2.out.size
  have z4 := HB4.out.size
  have z5 := HB5.out.size
  have z6 := HC6.out.size
  have hgm := HG.out
  -- a block that came out is as it was
  have keep : ∀ b, W1.heap.size ≤ b → b < W5.heap.size → sv2.ownBlock ≠ some b → W.heap[b]? = W5.heap[b]? := fun b h1 h2 h3 => by
    rw [hc7.block b (by omega) (by
      rintro (e | e)
      · omega
      · exact h3 e), HC6.out.block b h2 (fun e => by have := pw.2 b e; omega)]
  have l0 : W.cell? ⟨g1, 0, none⟩ = some (.int .i64 1) := (World.cell?_of_block (a := ⟨g1, 0, none⟩) ((keep g1 b1.2.1 (by omega) fun e => (HW2.out _ e).2.1 rfl).trans ((HB35.out.block g1 (by omega)).trans (HC2.out.block g1 b1.2.2 (by
    rintro (e | e)
    · omega
    · exact (HW1.out _ e).2 rfl))))).trans HL1.out.1
  have l1 : W.cell? ⟨g1, 1, none⟩ = some (.string ⟨#[2, 98, 98, 98, 98, 98, 2, 97, 97, 97, 97, 97, 18, 52, 116, 101, 120, 116]⟩) := (World.cell?_of_block (a := ⟨g1, 1, none⟩) ((keep g1 b1.2.1 (by omega) fun e => (HW2.out _ e).2.1 rfl).trans ((HB35.out.block g1 (by omega)).trans (HC2.out.block g1 b1.2.2 (by
    rintro (e | e)
    · omega
    · exact (HW1.out _ e).2 rfl))))).trans HL1.out.2
  have k0 : W.cell? ⟨g2, 0, none⟩ = some (.int .i64 0) := (World.cell?_of_block (a := ⟨g2, 0, none⟩) ((keep g2 (by omega) (by omega) fun e => (HW2.out _ e).2.2.1 rfl).trans (HB35.out.block g2 (by omega)))).trans HK0.out
  have km : ∀ j, W.cell? ⟨gm, j, none⟩ = W4.cell? ⟨gm, j, none⟩ := fun j => World.cell?_of_block (a := ⟨gm, j, none⟩) ((keep gm (by omega) (by omega) fun e => by have := HW2.out _ e; omega).trans (HB5.out.block gm (by omega)))
  have m0 := (km 0).trans HMC.out.1
  have m1 := (km 1).trans HMC.out.2.1
  have m2 := (km 2).trans HMC.out.2.2.1
  have m3 := (km 3).trans HMC.out.2.2.2
  have q1 : g1 < W.heap.size := block_lt_of_cell l0
  have q2 : g2 < W.heap.size := block_lt_of_cell k0
  have q3 : gm < W.heap.size := block_lt_of_cell m0
  have HF : Hid (Below w.heap.size w W) := hide (by
    have lo := HL.out
    have i1 := HB1.out.size
    have t1 : Below w.heap.size W1 W2 := HC1.out.below i1 (by
      rintro x (rfl | e)
      · exact lo.2.1
      · cases e)
    have t2 : Below w.heap.size W2 W3 := HC2.out.below (by omega) (by
      rintro x (rfl | e)
      · exact lo.2.1
      · have := HW1.out x e; omega)
    have t6 : Below w.heap.size W5 W6 := HC6.out.below (by omega) (fun x e => by have := pw.1 x e; omega)
    have t7 : Below w.heap.size W6 W := hc7.below (by omega) (by
      rintro x (rfl | e)
      · exact lo.2.1
      · have := HW2.out x e; omega)
    exact ((((HB1.out.trans t1).trans t2).trans (HB35.out.mono (by omega))).trans t6).trans t7)
  clear C6 hown hc7 keep km HS1 HS2 HS3 HS5 HP HB1 HZ HC1 HO1 HV1 HL1 HC2 HO2 HV2 HK0 HB4 HB5 HB35 HG HMC HW2 HW1 HC6 z pw b1 b2 z1 z2 z4 z5 z6 hgm hg3B HL HM
  go_wp2
  go_ret
  exact ⟨rfl, HF.out⟩
end Go.Proofs.YtnjalelblbjfiaaGreatDoor

namespace Go.Proofs.YtnjalelblbjfiaaGreatDoor
open Go.RowKit

/-- A script in memory, and its lists of numbers. -/
def ScrB (W : World) (a : Option Addr) (n g off : Nat) : Prop := (0 < n → a = some ⟨g, off, none⟩) ∧ ∀ j, j < n → ∃ s : StD, W.rangeAt g (off + j * 31) s.cells ∧ (-9223372036854775808 ≤ s.oa ∧ s.oa ≤ 9223372036854775807) ∧ ∃ T, NumsO W (.slice s.la s.ll s.lc) T ∧ s.ll ≤ s.lc ∧ T.length ≤ 100000000 ∧ ∀ t ∈ T, (Lit.int .i64 t).wf = true
theorem NumsO.lt {w : World} {v : Value} {T : List Int} (h : NumsO w v T) (h0 : 0 < T.length) {b : Nat} (hb : v.ownBlock = some b) : b < w.heap.size := by
  obtain ⟨a, cap, b', off, e, hc⟩ := h
  obtain ⟨ha, q⟩ := hc 0 h0
  rw [e, ha] at hb
  obtain rfl : b' = b := by simpa [Value.ownBlock] using hb
  exact block_lt_of_cell q
theorem ScrB.below {w W : World} {a : Option Addr} {n g off : Nat} (h : ScrB w a n g off) (hb : Below w.heap.size w W) : ScrB W a n g off := ⟨h.1, fun j hj => by
  obtain ⟨s, hr, hs, T, h1, h2, h3, h4⟩ := h.2 j hj
  exact ⟨s, rangeAt_below hr hb, hs, T, h1.below hb, h2, h3, h4⟩⟩
theorem lstill_BS (w : World) (wb N : Nat) (col : Nat → Nat) (h : BS w wb N col) (hN : N ≤ 100000000) :
    Calls Tryz.prog 11 #[.pointer (some ⟨wb, 0, none⟩)] w fun e w' => e = .returned (.bool true) ∧ Below w.heap.size w w' := by
  obtain ⟨tv, sv, kv, n, Ts, Ss, Ks, h, hs, hp, h1, h2, h3⟩ := h
  exact lstill_any w wb tv sv kv n Ts Ks col h (by omega)
theorem Left.old {w W : World} {s : Nat} {col col' : Nat → Nat} (h : Left w W col col') (hs : s ≤ w.heap.size) (ho : Old s col) : Below s w W ∧ Old s col' := by
  obtain ⟨⟨X, hc, hX⟩, hk⟩ := h
  refine ⟨⟨hc.os, hc.tape, hc.output, hc.size, fun x hx => hc.block x (by omega) fun hx' => hX x hx' (by omega) (ho x hx)⟩, fun x hx => ?_⟩
  rw [hk x (by omega) (by rw [ho x hx]; decide)]
  exact ho x hx
theorem BS.start (w : World) (hl : Laid w) (hm : Means w) : BS (w.alloc (.cells #[.slice none 0 0, .slice none 0 0, .int .i64 0, .slice none 0 0] 31)) w.heap.size 0 (fun x => if x = w.heap.size then 1 else 4) := by
  have hb : Below w.heap.size w (w.alloc (.cells #[.slice none 0 0, .slice none 0 0, .int .i64 0, .slice none 0 0] 31)) := (Below.refl _ w).alloc (Nat.le_refl _) _
  obtain ⟨tv, kv, n, Ts, Ks, h, ha, h1, h2, h3⟩ := TS.start w hl
  have h1l := means_lt hm
  refine ⟨tv, .slice none 0 0, kv, n, Ts, [], Ks, h, ⟨⟨cell_later hb hm.1, cell_later hb hm.2.1, cell_later hb hm.2.2.1, cell_later hb hm.2.2.2⟩, if_neg (by omega), ⟨World.ownsRow_nil _ 1 46 1, fun _ => rfl⟩, fun x hx => (by cases hx), fun x j u hx => (by cases hx), fun i hi => (by cases hi)⟩, fun d hd => (by cases hd), h1, h2, Nat.le_refl _⟩
theorem lstep_any (w : World) (wb N : Nat) (col : Nat → Nat) (ki oa oN oM oK : Int) (oS : ByteArray) (la : Option Addr) (ll lc : Nat) (r : Rl) (x0 x1 x2 x3 x4 : Int) (T : List Int) (h : BS w wb N col) (hL : LOk w col la ll lc T) (hoa : -9223372036854775808 ≤ oa ∧ oa ≤ 9223372036854775807) (hN : N ≤ 100000000) (hki : ki = 6 ∨ ki = 7 ∨ ki = 13 ∨ ki = 14 ∨ ki = 15) :
    Calls Tryz.prog 10 #[.pointer (some ⟨wb, 0, none⟩), .agg #[.int .i64 ki, .int .i64 oa, .int .i64 oN, .int .i64 oM, .int .i64 oK, .string oS, .slice la ll lc, .int .i64 r.id, .int .i64 r.pr, .int .i64 r.k0, .int .i64 r.v0, .int .i64 r.m0, .int .i64 r.k1, .int .i64 r.v1, .int .i64 r.m1, .int .i64 r.k2, .int .i64 r.v2, .int .i64 r.m2, .int .i64 r.k3, .int .i64 r.v3, .int .i64 r.m3, .int .i64 r.k4, .int .i64 r.v4, .int .i64 r.m4, .int .i64 r.ac, .int .i64 r.po, .int .i64 x0, .int .i64 x1, .int .i64 x2, .int .i64 x3, .int .i64 x4]] w fun e W => e = .returned (.bool true) ∧ ∃ col', BS W wb (N + 1) col' ∧ Left w W col col' := by
  rcases hki with rfl | hki
  · by_cases hn : oN < 1 ∨ 8 < oN
    · exact lstep_newbad w wb N col oa oN oM oK oS la ll lc r x0 x1 x2 x3 x4 h hn
    · exact lstep_new w wb N col oa oN.toNat oM oK oS la ll lc r x0 x1 x2 x3 x4 h (by omega) hN oN (by omega)
  · exact lstep_sw w wb N col ki oa oN oM oK oS la ll lc r x0 x1 x2 x3 x4 T h hL hoa hN hki
attribute [local go_sem ↓ high] xLoadS_fold

set_option maxRecDepth 100000 in
set_option maxHeartbeats 8000000 in
theorem lBridges_any (w : World) (a : Option Addr) (n c g off : Nat) (hl : Laid w) (hm : Means w) (hs : ScrB w a n g off) (hn : n ≤ 2000000) :
    Calls Tryz.prog 4 #[.slice a n c] w fun e W => e = .returned (.bool true) ∧ Below w.heap.size w W := by
  obtain ⟨ds, hus, hds⟩ := underStep
  have CF := hide (lsecond_any w hl hm)
  have HLM := hide (And.intro hl hm)
  have HS := hide hs
  have hni : (n : Int) ≤ 2000000 := by omega
  have HN := hide hn
  clear hl hm hs hn
  go_enter Tryz.func4, Tryz.ntmps4
  go_wp2_with fail
  refine CF.out.mono ?_
  rintro e W0 ⟨rfl, hb0⟩
  have hl0 : Laid W0 := HLM.out.1.far (Chg.of_below (X := fun _ => False) hb0).block (fun _ h => h.elim)
  have hm0 : Means W0 := ⟨cell_later hb0 HLM.out.2.1, cell_later hb0 HLM.out.2.2.1, cell_later hb0 HLM.out.2.2.2.1, cell_later hb0 HLM.out.2.2.2.2⟩
  obtain ⟨W1, hW1⟩ : ∃ W1, W1 = W0.alloc (.cells #[.slice none 0 0, .slice none 0 0, .int .i64 0, .slice none 0 0] 31) := ⟨_, rfl⟩
  have hb1 : Below W0.heap.size W0 W1 := by rw [hW1]; exact (Below.refl _ W0).alloc (Nat.le_refl _) _
  have ht : BS W1 W0.heap.size 0 (fun x => if x = W0.heap.size then 1 else 4) := by rw [hW1]; exact BS.start W0 hl0 hm0
  obtain ⟨wb, hwb⟩ : ∃ wb, wb = W0.heap.size := ⟨_, rfl⟩
  rw [← hwb] at ht
  have HO : Hid (Old W0.heap.size (fun x => if x = wb then 1 else 4)) := hide fun x hx => if_neg (by omega)
  have HT := hide ht
  have HB0 := hide hb0
  have HB1 := hide hb1
  have HS0 := hide (HS.out.below hb0)
  clear hl0 hm0 ht hb0 hb1 HLM HS CF
  go_wp2_with fail
  rw [← hW1, ← hwb]
  have HWB := hide hwb
  clear hW1 hwb
  go_loopw [5] (fun i wr => ∃ k : Nat, k ≤ n ∧ i = .int .i64 k ∧ ∃ col, BS wr wb k col ∧ Below W0.heap.size W0 wr ∧ Old W0.heap.size col) (fun i _ => n - (intOf i).toNat)
  case atStart => exact ⟨0, by omega, rfl, _, HT.out, HB1.out, HO.out⟩
  case round =>
    obtain ⟨k, hk, rfl, col, ht, hb, ho⟩ := hrel
    have HTK := hide ht
    have HBK := hide hb
    have HOK := hide ho
    clear ht hb ho
    by_cases hkl : k < n
    · have hki : (k : Int) < n := by omega
      obtain ⟨s, hr, hoa, T, q1, q2, q3, q4⟩ := HS0.out.2 k hkl
      have hav : a = some ⟨g, off, none⟩ := HS0.out.1 (by omega)
      subst hav
      have hr' := rangeAt_below hr HBK.out
      obtain ⟨ki, oa, oN, oM, oK, oS, la, ll, lc, r, x0, x1, x2, x3, x4⟩ := s
      have hrr : wr.rangeAt g (off + k * 31) [.int .i64 ki, .int .i64 oa, .int .i64 oN, .int .i64 oM, .int .i64 oK, .string oS, .slice la ll lc, .int .i64 r.id, .int .i64 r.pr, .int .i64 r.k0, .int .i64 r.v0, .int .i64 r.m0, .int .i64 r.k1, .int .i64 r.v1, .int .i64 r.m1, .int .i64 r.k2, .int .i64 r.v2, .int .i64 r.m2, .int .i64 r.k3, .int .i64 r.v3, .int .i64 r.m3, .int .i64 r.k4, .int .i64 r.v4, .int .i64 r.m4, .int .i64 r.ac, .int .i64 r.po, .int .i64 x0, .int .i64 x1, .int .i64 x2, .int .i64 x3, .int .i64 x4] := hr'
      have c0 : wr.cell? ⟨g, off + k * 31, none⟩ = some (.int .i64 ki) := cell_at0 hrr
      have hgl : g < wr.heap.size := block_lt_of_cell c0
      have HLO : Hid (LOk wr col la ll lc T) := hide ⟨q1.below HBK.out, q2, q3, q4, fun b hb h0 => HOK.out b (q1.lt h0 hb)⟩
      clear hr hr' q1 q2 q3 q4
      by_cases h5 : ki = 6 ∨ ki = 7 ∨ ki = 13 ∨ ki = 14 ∨ ki = 15
      · have hld : (xLoadS (.pointer (some ⟨g, off + k * 31, none⟩))).run Tryz.prog wr = .ok (.agg #[.int .i64 ki, .int .i64 oa, .int .i64 oN, .int .i64 oM, .int .i64 oK, .string oS, .slice la ll lc, .int .i64 r.id, .int .i64 r.pr, .int .i64 r.k0, .int .i64 r.v0, .int .i64 r.m0, .int .i64 r.k1, .int .i64 r.v1, .int .i64 r.m1, .int .i64 r.k2, .int .i64 r.v2, .int .i64 r.m2, .int .i64 r.k3, .int .i64 r.v3, .int .i64 r.m3, .int .i64 r.k4, .int .i64 r.v4, .int .i64 r.m4, .int .i64 r.ac, .int .i64 r.po, .int .i64 x0, .int .i64 x1, .int .i64 x2, .int .i64 x3, .int .i64 x4]) wr := run_loadAt_mid _ g (off + k * 31) 41 [.int .i64 ki, .int .i64 oa, .int .i64 oN, .int .i64 oM, .int .i64 oK, .string oS, .slice la ll lc, .int .i64 r.id, .int .i64 r.pr, .int .i64 r.k0, .int .i64 r.v0, .int .i64 r.m0, .int .i64 r.k1, .int .i64 r.v1, .int .i64 r.m1, .int .i64 r.k2, .int .i64 r.v2, .int .i64 r.m2, .int .i64 r.k3, .int .i64 r.v3, .int .i64 r.m3, .int .i64 r.k4, .int .i64 r.v4, .int .i64 r.m4, .int .i64 r.ac, .int .i64 r.po, .int .i64 x0, .int .i64 x1, .int .i64 x2, .int .i64 x3, .int .i64 x4] ds hrr hus hds sizeStep
        have CS := hide (lstep_any wr wb k col ki oa oN oM oK oS la ll lc r x0 x1 x2 x3 x4 T HTK.out HLO.out hoa (by have := HN.out; omega) h5)
        have H5 := hide h5
        clear hrr hoa h5
        have FOUND : Hid (∀ z : Bool, z = true → z = true) := hide fun _ h => h
        rcases H5.out with rfl | rfl | rfl | rfl | rfl
        all_goals
          clear H5 FOUND
          go_wp2_with fail
          refine CS.out.mono ?_
          rintro e W2 ⟨rfl, col2, ht2, hw2⟩
          obtain ⟨hb2, ho2⟩ := hw2.old HBK.out.size HOK.out
          have CL := hide (lstill_BS W2 wb (k + 1) col2 ht2 (by have := HN.out; omega))
          have HT2 := hide ht2
          have HB2 := hide (HBK.out.trans hb2)
          have HO2 := hide ho2
          clear ht2 hw2 hb2 ho2 CS hld c0 hgl
          go_wp2_with fail
          refine CL.out.mono ?_
          rintro e W3 ⟨rfl, hb3⟩
          have HT3 := hide (HT2.out.still hb3)
          have HB3 := hide (HB2.out.trans (hb3.mono HB2.out.size))
          clear hb3 CL
          go_wp2_with fail
          go_roundw
          case rel => exact ⟨k + 1, by omega, by go_num, col2, HT3.out, HB3.out, HO2.out⟩
          case measure => simp [intOf]; omega
      · have n6 : (ki != 6) = true := by simp only [bne_iff_ne]; exact fun e => h5 (.inl e)
        have n7 : (ki != 7) = true := by simp only [bne_iff_ne]; exact fun e => h5 (.inr (.inl e))
        have n13 : (ki != 13) = true := by simp only [bne_iff_ne]; exact fun e => h5 (.inr (.inr (.inl e)))
        have n14 : (ki != 14) = true := by simp only [bne_iff_ne]; exact fun e => h5 (.inr (.inr (.inr (.inl e))))
        have n15 : (ki != 15) = true := by simp only [bne_iff_ne]; exact fun e => h5 (.inr (.inr (.inr (.inr e))))
        clear hrr hoa h5 HLO
        go_wp2_with fail
        go_roundw
        case rel => exact ⟨k + 1, by omega, by go_num, col, HTK.out.succ, HBK.out, HOK.out⟩
        case measure => simp [intOf]; omega
    · have hki : ¬ (k : Int) < n := by omega
      have HF := hide (HB0.out.trans (HBK.out.mono HB0.out.size))
      clear HBK
      go_wp2
      go_ret
      exact ⟨rfl, HF.out⟩
end Go.Proofs.YtnjalelblbjfiaaGreatDoor

namespace Go.Proofs.YtnjalelblbjfiaaGreatDoor
open Go.ChangeShapes Go.WideShapes Go.ChangeAt Go.RowKit

theorem gMeans : Tryz.prog.globalNamed "portico/frame.meanings" = some 1 := by kernel_rfl
theorem gMeansType : (Tryz.prog.globals[1]?).map (·.type) = some 327 := by kernel_rfl
theorem cellsM : Tryz.prog.cellsOf 326 = 2 := by kernel_rfl
theorem cellsMM : Tryz.prog.cellsOf 327 = 4 := by kernel_rfl
theorem cellsKd : Tryz.prog.cellsOf 289 = 1 := by kernel_rfl
section
variable {H : Type} {enc : TypeId × Value → H} {w : World} {base : Nat} {spare : Nat → Bool} {held : Bool}
theorem trodM {fuel : Nat} {cs : List Value} {x : DataW H × List MemPlace} (h : DataW.trod enc Tryz.prog w base spare held fuel 326 cs = some x) : ∃ (b : ByteArray) (c : Int), cs = [.string b, .int .i64 c] ∧ x.1 = .agg [.lit (.string b.toList), .lit (.int .i64 c)] := by
  obtain ⟨xs, m, rfl, rfl, hl, hx, hf⟩ := DataW.trod_struct Tryz.underlying326 h
  rw [cellsM] at hl
  clear h
  have f0 : DataW.trod enc Tryz.prog w base spare held m 9 ((cs.drop 0).take (Tryz.prog.cellsOf 9)) = xs[0]? := hf 0 _ rfl
  have f1 : DataW.trod enc Tryz.prog w base spare held m 289 ((cs.drop 1).take (Tryz.prog.cellsOf 289)) = xs[1]? := hf 1 _ rfl
  rw [cellsSt] at f0
  rw [cellsKd] at f1
  clear hf
  match cs, hl, xs, hx, f0, f1 with
  | [v0, v1], _, [x0, x1], _, f0, f1 =>
    obtain ⟨b, e0, d0, _⟩ := DataW.trod_string Tryz.underlying9 f0
    obtain ⟨c, e1, d1, _⟩ := DataW.trod_int Tryz.underlying289 f1
    cases e0; cases e1
    exact ⟨b, c, rfl, by simp [d0, d1, ByteArray.toList_eq]⟩
theorem trodMeans {fuel : Nat} {cs : List Value} {p : List MemPlace} (h : DataW.trod enc Tryz.prog w base spare held fuel 327 cs = some (Rows.laid_portico_frame_meanings, p)) : cs = [.string ⟨#[129, 0]⟩, .int .i64 1, .string ⟨#[8, 0]⟩, .int .i64 2] := by
  obtain ⟨xs, m, rfl, hd, hl, hx, hf⟩ := DataW.trod_array Tryz.underlying327 h
  rw [cellsMM] at hl
  simp only [cellsM] at hf
  have hd1 := congrArg Prod.fst hd
  clear h hd
  match cs, hl, xs, hx, hf, hd1 with
  | [v0, v1, v2, v3], _, [x0, x1], _, hf, hd1 =>
    obtain ⟨b0, c0, e0, d0⟩ := trodM (cs := [v0, v1]) (x := x0) (hf 0 (by omega))
    obtain ⟨b1, c1, e1, d1⟩ := trodM (cs := [v2, v3]) (x := x1) (hf 1 (by omega))
    cases e0; cases e1
    simp only [Rows.laid_portico_frame_meanings, List.map_cons, List.map_nil, d0, d1, DataW.agg.injEq, List.cons.injEq, DataW.lit.injEq, Lit.int.injEq, Lit.string.injEq, true_and, and_true] at hd1
    obtain ⟨⟨h0, rfl⟩, h1, rfl⟩ := hd1
    obtain rfl : b0 = ⟨#[129, 0]⟩ := ba_ext (h0.symm.trans (ofL_toList [129, 0]).symm)
    obtain rfl : b1 = ⟨#[8, 0]⟩ := ba_ext (h1.symm.trans (ofL_toList [8, 0]).symm)
    rfl
end
/-- What the row's list gives: the table of the types, and that of the fields. -/
theorem laid2_of {W : World} {rest : List (String × DataW Unit)} (h : laidMet Tryz.prog (("portico/frame.meanings", Rows.laid_portico_frame_meanings) :: ("portico/table.fields", Rows.laid_portico_table_fields) :: rest) W) : Means W ∧ Laid W := by
  obtain ⟨ps, ⟨g1, t1, cs1, fuel1, p1, q1, hg1, ht1, hvar1, hd1, h2, _⟩, _⟩ := h
  obtain ⟨g', t', cs, fuel, p, q, hg', ht', hvar, hd, _, _⟩ := h2
  obtain rfl := Option.some.inj (gFields.symm.trans hg')
  obtain rfl := Option.some.inj (gFieldsType.symm.trans ht')
  obtain rfl := Option.some.inj (gMeans.symm.trans hg1)
  obtain rfl := Option.some.inj (gMeansType.symm.trans ht1)
  have hcs := trodFields hd
  have hcs1 := trodMeans hd1
  have c := fun i => World.var?_cell gFields hvar i
  have c' : ∀ i, W.cell? ⟨0, i, none⟩ = ([Value.int .i64 32, Value.int .i64 0, Value.int .i64 4294967295, Value.int .i64 32, Value.int .i64 0, Value.int .i64 4294967295, Value.int .i64 8, Value.int .i64 0, Value.int .i64 255, Value.int .i64 16, Value.int .i64 0, Value.int .i64 65535, Value.int .i64 16, Value.int .i64 0, Value.int .i64 65535] : List Value)[i]? := fun i => by rw [c i, ← hcs]; simp
  have k := fun i => World.var?_cell gMeans hvar1 i
  have k' : ∀ i, W.cell? ⟨1, i, none⟩ = ([.string ⟨#[129, 0]⟩, .int .i64 1, .string ⟨#[8, 0]⟩, .int .i64 2] : List Value)[i]? := fun i => by rw [k i, ← hcs1]; simp
  exact ⟨⟨k' 0, k' 1, k' 2, k' 3⟩, c' 0, c' 1, c' 2, c' 3, c' 4, c' 5, c' 6, c' 7, c' 8, c' 9, c' 10, c' 11, c' 12, c' 13, c' 14⟩

theorem bulk_one {H : Type} (d : DataW H) : 1 ≤ Rows.uptoBulk d := by
  cases d with
  | lit l => cases l <;> simp [Rows.uptoBulk]
  | nil => simp [Rows.uptoBulk]
  | ptr d => simp [Rows.uptoBulk]
  | slice elems spare => simp [Rows.uptoBulk]
  | agg parts => simp [Rows.uptoBulk]
  | iface t d => simp [Rows.uptoBulk]
  | map entries => simp [Rows.uptoBulk]
  | held h => simp [Rows.uptoBulk]
theorem bulk_count {H : Type} : ∀ l : List (DataW H), l.length ≤ Rows.uptoBulkAll l
  | [] => Nat.zero_le _
  | x :: l => by have := bulk_one x; have := bulk_count l; simp only [Rows.uptoBulkAll, List.length_cons]; omega
theorem bulk_mem {H : Type} {x : DataW H} : ∀ {l : List (DataW H)}, x ∈ l → Rows.uptoBulk x ≤ Rows.uptoBulkAll l
  | [], h => by cases h
  | y :: l, h => by
    simp only [Rows.uptoBulkAll]
    rcases List.mem_cons.1 h with rfl | h
    · omega
    · have := bulk_mem h; omega
section
variable {H : Type} {enc : TypeId × Value → H} {w : World} {base : Nat} {spare : Nat → Bool} {held : Bool}
/-- The numbers of a list of values. -/
def numOf (v : Value) : Int := match v with | .int _ n => n | _ => 0
theorem trodNums {fuel : Nat} {cs : List Value} {x : DataW H × List MemPlace} (h : DataW.trod enc Tryz.prog w base spare held fuel 32 cs = some x) : ∃ la ll lc, cs = [.slice la ll lc] ∧ ∃ T, NumsO w (.slice la ll lc) T ∧ ll ≤ lc ∧ (∀ t ∈ T, (Lit.int .i64 t).wf = true) ∧ T.length ≤ Rows.uptoBulk x.1 := by
  rcases Deep.open_slice1 Tryz.underlying32 cells1 h with ⟨hcs, -⟩ | ⟨a, len, cap, m, n, V, D, Pl, hcs, _, hl, _, hm, hx, hel⟩
  · exact ⟨none, 0, 0, hcs, [], ⟨none, 0, 0, 0, rfl, fun j hj => absurd hj (Nat.not_lt_zero j)⟩, Nat.le_refl _, fun t ht => (by cases ht), Nat.zero_le _⟩
  · have hlm : len ≤ m := by rw [hm]; split <;> omega
    have hv : ∀ i, i < len → ∃ k, V i = .int .i64 k ∧ -9223372036854775808 ≤ k ∧ k ≤ 9223372036854775807 := fun i hi => by
      obtain ⟨-, h2⟩ := hel i (by omega)
      obtain ⟨k, e, -, hk⟩ := trodI h2
      exact ⟨k, by simpa using e, hk⟩
    obtain ⟨b, off, spot⟩ := a
    refine ⟨_, len, cap, hcs, (List.range len).map fun i => numOf (V i), ⟨_, cap, b, off, by rw [List.length_map, List.length_range], fun j hj => ?_⟩, hl, fun t ht => ?_, ?_⟩
    · rw [List.length_map, List.length_range] at hj
      obtain ⟨h1, -⟩ := hel j (by omega)
      obtain ⟨k, e, -⟩ := hv j hj
      have hspot : spot = none := by
        obtain ⟨h1', -⟩ := hel 0 (by omega)
        simpa [Addr.add] using World.cell?_spot h1'
      subst hspot
      refine ⟨rfl, ?_⟩
      rw [Addr.add_mid] at h1
      rw [h1, e]
      simp [numOf, e]
    · obtain ⟨i, hi, rfl⟩ := List.mem_map.1 ht
      obtain ⟨k, e, hk⟩ := hv i (List.mem_range.1 hi)
      show (Lit.int .i64 (numOf (V i))).wf = true
      rw [e]
      exact WalkArith.wf_i64 (show _ from by simpa [numOf] using hk)
    · rw [hx, List.length_map, List.length_range]
      have := bulk_count ((List.range len).map D)
      rw [List.length_map, List.length_range] at this
      simp only [Rows.uptoBulk]
      omega
theorem trodStepB {fuel : Nat} {cs : List Value} {x : DataW H × List MemPlace} (h : DataW.trod enc Tryz.prog w base spare held fuel 41 cs = some x) : ∃ s : StD, cs = s.cells ∧ (-9223372036854775808 ≤ s.oa ∧ s.oa ≤ 9223372036854775807) ∧ ∃ T, NumsO w (.slice s.la s.ll s.lc) T ∧ s.ll ≤ s.lc ∧ (∀ t ∈ T, (Lit.int .i64 t).wf = true) ∧ T.length ≤ Rows.uptoBulk x.1 := by
  obtain ⟨xs, m, rfl, rfl, hl, hx, hf⟩ := DataW.trod_struct Tryz.underlying41 h
  rw [cells31] at hl
  clear h
  have f0 : DataW.trod enc Tryz.prog w base spare held m 3 ((cs.drop 0).take (Tryz.prog.cellsOf 3)) = xs[0]? := hf 0 _ rfl
  have f1 : DataW.trod enc Tryz.prog w base spare held m 3 ((cs.drop 1).take (Tryz.prog.cellsOf 3)) = xs[1]? := hf 1 _ rfl
  have f2 : DataW.trod enc Tryz.prog w base spare held m 3 ((cs.drop 2).take (Tryz.prog.cellsOf 3)) = xs[2]? := hf 2 _ rfl
  have f3 : DataW.trod enc Tryz.prog w base spare held m 3 ((cs.drop 3).take (Tryz.prog.cellsOf 3)) = xs[3]? := hf 3 _ rfl
  have f4 : DataW.trod enc Tryz.prog w base spare held m 3 ((cs.drop 4).take (Tryz.prog.cellsOf 3)) = xs[4]? := hf 4 _ rfl
  have f5 : DataW.trod enc Tryz.prog w base spare held m 9 ((cs.drop 5).take (Tryz.prog.cellsOf 9)) = xs[5]? := hf 5 _ rfl
  have f6 : DataW.trod enc Tryz.prog w base spare held m 32 ((cs.drop 6).take (Tryz.prog.cellsOf 32)) = xs[6]? := hf 6 _ rfl
  have f7 : DataW.trod enc Tryz.prog w base spare held m 37 ((cs.drop 7).take (Tryz.prog.cellsOf 37)) = xs[7]? := hf 7 _ rfl
  have f8 : DataW.trod enc Tryz.prog w base spare held m 39 ((cs.drop 26).take (Tryz.prog.cellsOf 39)) = xs[8]? := hf 8 _ rfl
  rw [cells1] at f0 f1 f2 f3 f4
  rw [cellsSt] at f5
  rw [cellsSl] at f6
  rw [cells19] at f7
  rw [cells5] at f8
  clear hf
  match cs, hl, xs, hx, f0, f1, f2, f3, f4, f5, f6, f7, f8 with
  | [v0, v1, v2, v3, v4, v5, v6, v7, v8, v9, v10, v11, v12, v13, v14, v15, v16, v17, v18, v19, v20, v21, v22, v23, v24, v25, v26, v27, v28, v29, v30], _, [x0, x1, x2, x3, x4, x5, x6, x7, x8], _, f0, f1, f2, f3, f4, f5, f6, f7, f8 =>
    obtain ⟨n0, e0, _, _⟩ := trodI (cs := [v0]) (x := x0) f0
    obtain ⟨n1, e1, _, r1⟩ := trodI (cs := [v1]) (x := x1) f1
    obtain ⟨n2, e2, _, _⟩ := trodI (cs := [v2]) (x := x2) f2
    obtain ⟨n3, e3, _, _⟩ := trodI (cs := [v3]) (x := x3) f3
    obtain ⟨n4, e4, _, _⟩ := trodI (cs := [v4]) (x := x4) f4
    obtain ⟨b, e5, _, _⟩ := DataW.trod_string Tryz.underlying9 f5
    obtain ⟨la, ll, lc, e6, T, t1, t2, t3, t4⟩ := trodNums (cs := [v6]) (x := x6) f6
    obtain ⟨r, e7⟩ := trodRl (cs := [v7, v8, v9, v10, v11, v12, v13, v14, v15, v16, v17, v18, v19, v20, v21, v22, v23, v24, v25]) (x := x7) f7
    obtain ⟨k0, k1, k2, k3, k4, e8⟩ := trodK (cs := [v26, v27, v28, v29, v30]) (x := x8) f8
    cases e0; cases e1; cases e2; cases e3; cases e4; cases e5; cases e6; cases e7; cases e8
    refine ⟨⟨n0, n1, n2, n3, n4, b, la, ll, lc, r, k0, k1, k2, k3, k4⟩, rfl, r1, T, t1, t2, t3, Nat.le_trans t4 ?_⟩
    simp only [Rows.uptoBulk, List.map, Rows.uptoBulkAll]
    omega
end
section
variable {H : Type} {enc : TypeId × Value → H} {W : World} {base : Nat} {v : Value} {d : DataW H} {p : List MemPlace}
set_option maxRecDepth 100000 in
theorem script_argB (hok : Value.okWide Tryz.prog W .any base 22 v) (h : DataW.Trod enc Tryz.prog W 0 (fun _ => true) true 22 v d p) (hk : Rows.uptoBulk d ≤ 1048576) :
    ∃ a n c g off, v = .slice a n c ∧ n ≤ 2000000 ∧ ScrB W a n g off := by
  obtain ⟨a0, n, c, rfl⟩ := okWide_slice Tryz.underlying22 hok
  obtain ⟨fuel, hf⟩ := h
  rcases Deep.open_slice Tryz.underlying22 hf with ⟨hcs, _⟩ | ⟨a, len, cap, m, fu, D, Pl, hcs, _, hle, _, hall, hx, hel⟩
  · simp [Value.cells] at hcs
    obtain ⟨rfl, rfl, rfl⟩ := hcs
    exact ⟨_, _, _, 0, 0, rfl, by omega, fun h => absurd h (by omega), fun j hj => absurd hj (by omega)⟩
  · simp [Value.cells] at hcs
    obtain ⟨rfl, rfl, rfl⟩ := hcs
    simp only [if_true] at hall
    have hd : d = .slice ((List.range n).map D) ((List.range (m - n)).map fun j => D (n + j)) := congrArg Prod.fst hx
    have hsz : n ≤ 2000000 := by
      rw [hd] at hk
      simp only [Rows.uptoBulk] at hk
      have := bulk_count ((List.range n).map D)
      rw [List.length_map, List.length_range] at this
      omega
    rw [cells31] at hel
    by_cases hn : n = 0
    · subst hn
      exact ⟨_, _, _, 0, 0, rfl, by omega, fun h => absurd h (by omega), fun j hj => absurd hj (by omega)⟩
    · obtain ⟨b, off, spot⟩ := a
      have hspot : spot = none := by
        obtain ⟨cs', h1, h2⟩ := hel 0 (by omega)
        obtain ⟨s, rfl, _⟩ := trodStepB h2
        have := (World.cells?_some h1).2.2 0 (by show 0 < 31; omega)
        simpa [Addr.add] using World.cell?_spot this
      subst hspot
      refine ⟨_, _, _, b, off, rfl, hsz, fun _ => rfl, fun j hj => ?_⟩
      obtain ⟨cs', h1, h2⟩ := hel j (by omega)
      obtain ⟨s, rfl, r, T, t1, t2, t3, t4⟩ := trodStepB h2
      have hj2 : T.length ≤ 100000000 := by
        have hmem : D j ∈ (List.range n).map D := List.mem_map.2 ⟨j, List.mem_range.2 hj, rfl⟩
        have h5 := bulk_mem hmem
        rw [hd] at hk
        simp only [Rows.uptoBulk] at hk
        have t5 : T.length ≤ Rows.uptoBulk (D j) := t4
        omega
      refine ⟨s, fun i u hu => ?_, r, T, t1, t2, hj2, t3⟩
      have hi : i < 31 := (List.getElem?_eq_some_iff.1 hu).1
      have := (World.cells?_some h1).2.2 i hi
      rw [Addr.add_mid, Addr.add_mid] at this
      exact this.trans hu
end
end Go.Proofs.YtnjalelblbjfiaaGreatDoor
