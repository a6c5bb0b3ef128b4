import Derived.Test.YtnjalelblbjfiaaGreatDoorP39
import Derived.Test.YtnjalelblbjfiaaGreatDoorP38
import Derived.Test.YtnjalelblbjfiaaGreatDoorP4
import Derived.Test.YtnjalelblbjfiaaGreatDoorP26
import Derived.Test.YtnjalelblbjfiaaGreatDoorP20
import Derived.Deep.QuietTactic
import Derived.Lib.QuietBelow
namespace Go.Proofs.YtnjalelblbjfiaaGreatDoor
open Go.RowKit

section
variable {w W : World} {d : SwD}
/-- What a call on what is known may turn lies beside all else of the switch. -/
theorem SwD.Imp.beside (h : d.Imp w) (hn : 0 < d.P.length) (one : w.cell? ⟨d.k, 1, none⟩ = none) : ∀ b, (b = d.k ∨ KX d.m d.sv b) → b ≠ d.s ∧ d.pv.ownBlock ≠ some b ∧ (∀ q ∈ d.Q, q.2 ≠ .map (some b)) ∧ b ≠ d.fm ∧ d.fsv.ownBlock ≠ some b ∧ b ≠ d.vb ∧ ¬ d.F b ∧ b ≠ d.rb ∧ b ≠ d.hb ∧ d.hsv.ownBlock ≠ some b ∧ b ≠ 1 := by
  obtain ⟨pa, pcap, pb, ep, hpc⟩ := h.p.hp
  obtain ⟨ha, p0, mv, p1, pt⟩ := hpc 0 hn
  rw [Nat.zero_mul] at p0
  rw [show 0 * 2 + 1 = 1 from rfl] at p1
  have hs0 := h.p.h0
  rw [ep] at hs0
  have hpb : ∀ b, d.pv.ownBlock = some b → b = pb := fun b e => by rw [ep, ha] at e; exact (Option.some.inj e).symm
  have hmv : ∃ o, mv = .map o := by
    rcases pt with ⟨e, -⟩ | ⟨b', -, -, e, -⟩
    · exact ⟨_, e⟩
    · exact ⟨_, e⟩
  obtain ⟨mo, rfl⟩ := hmv
  obtain ⟨ov, hov, hoc⟩ := h.r.hV.obj
  have hk0 := h.p.hK.1
  have hm0 := h.p.hK.2.2.1.1.1
  have hf0 := h.r.hF.1
  have hr0 := h.h.h0
  have hh0 := h.h.hM.1.1
  have h10 := h.p.hm.1
  have htag : ∀ b q, q ∈ d.Q → q.2 = .map (some b) → ∃ o, w.heap[b]? = some o ∧ o.isCells = false := fun b q hq e => by
    obtain ⟨j, hj, rfl⟩ := List.getElem_of_mem hq
    rcases (h.o.each j (by have := h.o.len; omega)).2 with ⟨e', -⟩ | ⟨b', n, D, e', ⟨es, cl, h1, h2⟩, h3⟩
    · rw [e] at e'; cases e'
    · rw [e] at e'; cases e'; exact ⟨_, h1, rfl⟩
  -- a block that has a first cell
  have gen : ∀ b v, w.cell? ⟨b, 0, none⟩ = some v → (∀ q ∈ d.Q, q.2 ≠ .map (some b)) ∧ b ≠ d.vb := fun b v hv => by
    refine ⟨fun q hq e => ?_, fun e => ?_⟩
    · obtain ⟨o, ho, hco⟩ := htag b q hq e
      rw [noCell ho hco] at hv
      cases hv
    · subst e
      rw [noCell hov hoc] at hv
      cases hv
  rintro b (rfl | hb)
  · have hF : ¬ d.F d.k := fun hF => by
      obtain ⟨b1, b2, sv1, sv2, LI, T, _, _, e⟩ := h.r.hT
      rw [e] at hF
      rcases hF with e | (e | e) | (e | e)
      · have := T.c1; rw [← e, one] at this; cases this
      · have := T.mI.1; rw [← e, hk0] at this; cases this
      · obtain ⟨n, p, c0, _⟩ := T.hI _ e; rw [hk0] at c0; cases c0
      · have := T.mR.1; rw [← e, hk0] at this; cases this
      · obtain ⟨n, n', p, c0, _⟩ := T.hR _ e; rw [hk0] at c0; cases c0
    refine ⟨fun e => ?_, fun e => ?_, (gen _ _ hk0).1, fun e => ?_, fun e => ?_, (gen _ _ hk0).2, hF, fun e => ?_, fun e => ?_, fun e => ?_, fun e => ?_⟩
    · rw [e, hs0] at hk0; cases hk0
    · rw [hpb _ e, p0] at hk0; cases hk0
    · rw [e, hf0] at hk0; cases hk0
    · obtain ⟨n, v, c0, _⟩ := h.r.hH _ e; rw [hk0] at c0; cases c0
    · rw [e, hr0] at hk0
      have e2 : d.hb = d.m := by simpa using hk0
      rw [e2, hm0] at hh0
      cases hh0
    · rw [e, hh0] at hk0; cases hk0
    · obtain ⟨_, _, _, _, c0, _⟩ := h.h.hM.first e; rw [hk0] at c0; cases c0
    · rw [e, h10] at hk0; cases hk0
  · have hF : ¬ d.F b := fun hF => known_mine h.r.hT h.p.hK b hF hb
    rcases hb with rfl | hb
    · refine ⟨fun e => ?_, fun e => ?_, (gen _ _ hm0).1, fun e => ?_, fun e => ?_, (gen _ _ hm0).2, hF, fun e => ?_, fun e => ?_, fun e => ?_, fun e => ?_⟩
      · rw [e, hs0] at hm0; cases hm0
      · rw [hpb _ e, p0] at hm0; cases hm0
      · rw [e, hf0] at hm0; cases hm0
      · obtain ⟨n, v, c0, _⟩ := h.r.hH _ e; rw [hm0] at c0; cases c0
      · rw [e, hr0] at hm0; cases hm0
      · rw [e, hh0] at hm0; cases hm0
      · obtain ⟨_, _, _, _, c0, _⟩ := h.h.hM.first e; rw [hm0] at c0; cases c0
      · rw [e, h10] at hm0; cases hm0
    · obtain ⟨n0, g0⟩ := (h.p.hK.2.2.1.head hb).1
      obtain ⟨v1, g1⟩ := h.p.hK.2.2.1.head1 hb
      refine ⟨fun e => ?_, fun e => ?_, (gen _ _ g0).1, fun e => ?_, fun e => ?_, (gen _ _ g0).2, hF, fun e => ?_, fun e => ?_, fun e => ?_, fun e => ?_⟩
      · rw [e, hs0] at g0; cases g0
      · rw [hpb _ e, p1] at g1; cases g1
      · rw [e, hf0] at g0; cases g0
      · obtain ⟨cs, hcs⟩ := row_type h.r.hF.2.2.1 e
        obtain ⟨cs', hcs'⟩ := row_type h.p.hK.2.2.1.1.2.2.1 hb
        rw [hcs] at hcs'
        cases hcs'
      · rw [e, hr0] at g0; cases g0
      · rw [e, hh0] at g0; cases g0
      · obtain ⟨_, _, _, _, _, c1, _⟩ := h.h.hM.first e; rw [g1] at c1; cases c1
      · rw [e, h10] at g0; cases g0
/-- The program's switch when what it knows has turned. -/
theorem SwD.Imp.known (h : d.Imp w) (hn : 0 < d.P.length) (one : w.cell? ⟨d.k, 1, none⟩ = none) (hc : Chg (fun b => b = d.k ∨ KX d.m d.sv b) w W) {m' : Nat} {sv' : Value} {K' : List Mc} (hk : KnownAt W d.k m' sv' K') : SwD.Imp W { d with m := m', sv := sv', K := K' } := by
  have hX := h.beside hn one
  have ns : ¬ (d.s = d.k ∨ KX d.m d.sv d.s) := fun e => (hX _ e).1 rfl
  have n1 : ¬ (1 = d.k ∨ KX d.m d.sv 1) := fun e => (hX _ e).2.2.2.2.2.2.2.2.2.2 rfl
  have nf : ¬ (d.fm = d.k ∨ KX d.m d.sv d.fm) := fun e => (hX _ e).2.2.2.1 rfl
  have nfs : ∀ g, d.fsv.ownBlock = some g → ¬ (g = d.k ∨ KX d.m d.sv g) := fun g hg e => (hX _ e).2.2.2.2.1 hg
  have nv : ¬ (d.vb = d.k ∨ KX d.m d.sv d.vb) := fun e => (hX _ e).2.2.2.2.2.1 rfl
  have nr : ¬ (d.rb = d.k ∨ KX d.m d.sv d.rb) := fun e => (hX _ e).2.2.2.2.2.2.2.1 rfl
  have nh : ¬ (d.hb = d.k ∨ KX d.m d.sv d.hb) := fun e => (hX _ e).2.2.2.2.2.2.2.2.1 rfl
  have nhs : ∀ g, d.hsv.ownBlock = some g → ¬ (g = d.k ∨ KX d.m d.sv g) := fun g hg e => (hX _ e).2.2.2.2.2.2.2.2.2.1 hg
  have hl := h.r.hT.laid
  have hfar : ∀ x, (x = d.k ∨ KX d.m d.sv x) → Far w x := fun x hx => by
    rcases hx with rfl | hx
    · exact far_known hl h.p.hK.1 one h.p.hK.2.2.1.1.1
    · exact (known_away hl h.p.hK x hx).far
  obtain ⟨ov, hov, -⟩ := h.r.hV.obj
  have po : PortsO W d.pv d.P d.Q := ⟨h.o.len, ownsRow_blk h.o.own fun b hb => hc.block b (ownsRow_lt h.o.own hb).2 fun e => (hX _ e).2.1 hb, fun j hj => ⟨(h.o.each j hj).1, (h.o.each j hj).2.keepB fun b e => hc.block b ((h.o.each j hj).2.lt e) fun e' => (hX _ e').2.2.1 _ (List.getElem_mem _) e⟩⟩
  obtain ⟨f0, f1, f2, f3, f4⟩ := h.r.hF
  refine ⟨⟨hc.block.cell ns h.p.h0, po.at, hc.block.cell ns h.p.h5, hk, hc.block.cell n1 h.p.hm.1, hc.block.cell n1 h.p.hm.2.1, hc.block.cell n1 h.p.hm.2.2.1, hc.block.cell n1 h.p.hm.2.2.2⟩, ⟨hc.block.cell ns h.r.h1, ⟨hc.block.cell nf f0, hc.block.cell nf f1, ownsRow_blk f2 fun g hg => hc.block g (ownsRow_lt f2 hg).2 (nfs g hg), fun j => (World.frozen?_of_block (a := ⟨d.fm, j, none⟩) (hc.block d.fm (block_lt_of_cell f0) nf)).trans (f3 j), f4⟩, h.r.sF, fun g hg => ?_, hc.block.cell ns h.r.h3, h.r.hT.far hc hfar fun x hF hx => (hX _ hx).2.2.2.2.2.2.1 hF, hc.block.cell ns h.r.h4, h.r.hV.same (hc.block d.vb (lt_of_heap hov) nv), h.r.hD⟩, h.h.keep hc ns nr nh nhs, po⟩
  obtain ⟨n, v, d0, d1⟩ := h.r.hH g hg
  exact ⟨n, v, hc.block.cell (nfs g hg) d0, hc.block.cell (nfs g hg) d1⟩
end
end Go.Proofs.YtnjalelblbjfiaaGreatDoor

namespace Go.Proofs.YtnjalelblbjfiaaGreatDoor
open Go.RowKit

section
variable {w W : World} {d : SwD}
/-- The array of the ports lies beside all else of the switch. -/
theorem SwD.Imp.pbeside (h : d.Imp w) (hn : 0 < d.P.length) {b : Nat} (hb : d.pv.ownBlock = some b) : b ≠ d.s ∧ b ≠ d.k ∧ ¬ KX d.m d.sv b ∧ b ≠ d.fm ∧ d.fsv.ownBlock ≠ some b ∧ b ≠ d.vb ∧ ¬ d.F b ∧ b ≠ d.rb ∧ b ≠ d.hb ∧ d.hsv.ownBlock ≠ some b ∧ b ≠ 1 := by
  obtain ⟨n, z, p0, p1⟩ := h.p.port0 hn hb
  obtain ⟨sa, sn, sc, hs0⟩ := h.p.slice0
  obtain ⟨ov, hov, hoc⟩ := h.r.hV.obj
  have hk0 := h.p.hK.1
  have hf0 := h.r.hF.1
  have hr0 := h.h.h0
  have hh0 := h.h.hM.1.1
  have h10 := h.p.hm.1
  refine ⟨fun e => ?_, fun e => ?_, fun e => ?_, fun e => ?_, fun e => ?_, fun e => ?_, fun e => ?_, fun e => ?_, fun e => ?_, fun e => ?_, fun e => ?_⟩
  · rw [e, hs0] at p0; cases p0
  · rw [e, hk0] at p0; cases p0
  · rcases e with e | e
    · rw [e, h.p.hK.2.2.1.1.1] at p0; cases p0
    · obtain ⟨v1, g1⟩ := h.p.hK.2.2.1.head1 e
      rw [g1] at p1; cases p1
  · rw [e, hf0] at p0; cases p0
  · obtain ⟨n, v, _, c1⟩ := h.r.hH _ e; rw [p1] at c1; cases c1
  · rw [e, noCell hov hoc] at p0; cases p0
  · obtain ⟨b1, b2, sv1, sv2, LI, T, _, _, e'⟩ := h.r.hT
    rw [e'] at e
    rcases e with e | (e | e) | (e | e)
    · have := T.c0; rw [← e, p0] at this; cases this
    · have := T.mI.1; rw [← e, p0] at this; cases this
    · obtain ⟨n, p, _, c1⟩ := T.hI _ e; rw [p1] at c1; cases c1
    · have := T.mR.1; rw [← e, p0] at this; cases this
    · obtain ⟨n, n', p, _, c1, _⟩ := T.hR _ e; rw [p1] at c1; cases c1
  · rw [e, hr0] at p0; cases p0
  · rw [e, hh0] at p0; cases p0
  · obtain ⟨_, _, _, _, _, c1, _⟩ := h.h.hM.first e; rw [p1] at c1; cases c1
  · rw [e, h10] at p0; cases p0
end
section
variable {w W : World} {sv : Value} {Ss : List SwD} {col col' : Nat → Nat} {M M' : Int} {X : Nat → Prop}
/-- One switch of the walk has turned. -/
theorem LS.step (h : LS w sv Ss col M) {i : Nat} (hi : i < Ss.length) {d' : SwD} (hp : d'.p = Ss[i].p) (hc : Chg X w W) (hX : ∀ x, X x → x < w.heap.size → Far w x ∧ (col x = 6 * i + 10 ∨ col x = 6 * i + 13 ∨ col x = 1 ∨ col x = 3)) (hcol : ∀ x, x < w.heap.size → col x ≠ 0 → col' x = col x) (hM : M ≤ M') (hok : d'.Ok W col' i M') : LS W sv (Ss.set i d') col' M' := by
  have h1 : ¬ X 1 := fun hx => by
    have := (hX 1 hx (means_lt h.mean)).2
    rw [h.c1] at this
    omega
  have hr : ∀ x, sv.ownBlock = some x → ¬ X x := fun x hx hx' => by
    have := (hX x hx' (h.row.lt hx)).2
    rw [h.cS x hx] at this
    omega
  refine ⟨⟨hc.block.cell h1 h.mean.1, hc.block.cell h1 h.mean.2.1, hc.block.cell h1 h.mean.2.2.1, hc.block.cell h1 h.mean.2.2.2⟩, (hcol 1 (means_lt h.mean) (by rw [h.c1]; omega)).trans h.c1, ?_, fun x hx => (hcol x (h.row.lt hx) (by rw [h.cS x hx]; omega)).trans (h.cS x hx), fun x j u hx hu => h.pS x j u hx ?_, fun j hj => ?_⟩
  · rw [List.length_set, map_set_same (fun d : SwD => Value.pointer (some ⟨d.p, 0, none⟩)) hi (by simp only [hp])]
    exact h.row.keep fun x hx => hc.block x (h.row.lt hx) (hr x hx)
  · rwa [(OnlyAt.of_block (hc.block x (h.row.lt hx) (hr x hx)) j).1] at hu
  · rw [List.length_set] at hj
    by_cases hji : i = j
    · subst hji
      rw [List.getElem_set_self]
      exact hok
    · rw [List.getElem_set_ne hji]
      exact ((h.sw j hj).keep hc h1 (fun x hx hl => ⟨(hX x hx hl).1, by have := (hX x hx hl).2; omega, by have := (hX x hx hl).2; omega, by have := (hX x hx hl).2; omega⟩) hcol).later hM
end
end Go.Proofs.YtnjalelblbjfiaaGreatDoor

namespace Go.Proofs.YtnjalelblbjfiaaGreatDoor
open Go.RowKit
open Go.Sort (grow)
attribute [local go_sem] cell?_regrown

theorem and_pf (a len : Nat) (ha : a < 4294967296) : bits .and .i64 (a : Int) ((pfN len : Int) - 1) = ((a % pfN len : Nat) : Int) := by
  have h := pfN_le len
  have e : (pfN len : Int) - 1 = ((pfN len - 1 : Nat) : Int) := by omega
  rw [e, i64_and_nat _ _ (by omega) (by omega)]
  congr 1
  exact Nat.and_two_pow_sub_one_eq_mod a (32 - len)
theorem andNot_pf (a len : Nat) (ha : a < 4294967296) : bits .andNot .i64 (a : Int) ((pfN len : Int) - 1) = ((a / pfN len * pfN len : Nat) : Int) := by
  have h := pfN_le len
  have e : (pfN len : Int) - 1 = ((pfN len - 1 : Nat) : Int) := by omega
  rw [e, i64_andNot_nat _ _ (by omega) (by omega)]
  congr 1
  apply Nat.eq_of_testBit_eq
  intro i
  have hx : pfN len - 1 < 2 ^ 64 := by omega
  rw [Nat.testBit_and, show (18446744073709551615 - (pfN len - 1) : Nat) = 2 ^ 64 - ((pfN len - 1) + 1) by omega, Nat.testBit_two_pow_sub_succ hx]
  unfold pfN
  rw [Nat.testBit_two_pow_sub_one, ← Nat.shiftLeft_eq, ← Nat.shiftRight_eq_div_pow, Nat.testBit_shiftLeft, Nat.testBit_shiftRight]
  by_cases hi : i < 32 - len
  · simp [hi, Nat.not_le.2 hi]
  · have hj : 32 - len + (i - (32 - len)) = i := by omega
    rw [hj]
    by_cases h64 : i < 64
    · simp [hi, h64, Nat.not_lt.1 hi]
    · have : a.testBit i = false := Nat.testBit_lt_two_pow (Nat.lt_of_lt_of_le ha (Nat.pow_le_pow_right (n := 2) (i := 32) (by omega) (by omega)))
      simp [this]

/-- Whether a prefix has an address. -/
def pfHas (pb : Int) (len a : Nat) : Bool := (((a / pfN len * pfN len : Nat) : Int) == pb)
set_option maxRecDepth 100000 in
set_option maxHeartbeats 1000000 in
theorem prefHas_any (pb : Int) (len a : Nat) (w : World) (hl : len ≤ 32) (ha : a < 4294967296) :
    Calls Tryz.prog 177 #[.agg #[.int .i64 pb, .int .i64 len], .int .i64 a] w fun e w' => e = .returned (.bool (pfHas pb len a)) ∧ Below w.heap.size w w' := by
  have C := hide fun (W : World) => behind_any pb len W hl
  have E := andNot_pf a len ha
  unfold pfHas
  generalize (pfN len : Int) - 1 = q at *
  generalize ((a / pfN len * pfN len : Nat) : Int) = z at *
  go_enter Tryz.func177, Tryz.ntmps177
  go_wp2_with fail
  refine wp_region_quiet_below (by kernel_rfl) (by kernel_rfl) ?_
  repeat (quiet_step (exact Calls.regrown_of (C.out _)))
  refine wpQuiet_nil ?_; intro wq hwq; replace hwq := below_of_regrown hwq; obtain ⟨hcq, hfq⟩ := bcell hwq; have hzq := hwq.size
  go_wp2
  go_ret
  exact ⟨rfl, Below.trans (by repeat (first | exact Below.refl _ _ | assumption | refine Below.drewN ?_ | refine Below.drew ?_ | refine Below.setCell ?_ (by first | exact Nat.le_refl _ | omega | (simp; done) | (simp; omega)) _ | refine Below.alloc ?_ (by first | exact Nat.le_refl _ | omega | (simp; done) | (simp; omega)) _)) (hwq.mono (by first | exact Nat.le_refl _ | omega | (simp; done) | (simp; omega)))⟩

end Go.Proofs.YtnjalelblbjfiaaGreatDoor

namespace Go.Proofs.YtnjalelblbjfiaaGreatDoor
open Go.RowKit
open Go.Sort (grow)

theorem MapHq.below' {w w' : World} {m : Nat} {sv : Value} {K : List Rt} (h : MapHq w m sv K) (hb : Below w.heap.size w w') : MapHq w' m sv K := ⟨h.1.below hb, h.2⟩

end Go.Proofs.YtnjalelblbjfiaaGreatDoor
