import Derived.Test.YtnjalelblbjfiaaGreatDoorP46
import Derived.Test.YtnjalelblbjfiaaGreatDoorP17
import Derived.Test.YtnjalelblbjfiaaGreatDoorP18
import Derived.Deep.RegionHeld3
namespace Go.Proofs.YtnjalelblbjfiaaGreatDoor
open Go.RowKit

theorem infoPsw : (Tryz.prog.info? 46).map (fun i => (i.zero, i.size, i.bytes)) = some (some (.pointer none), 1, 8) := by kernel_rfl
theorem underPsws : Tryz.prog.underlying 28 = some (.slice 46) := by kernel_rfl
/-- append of one switch. -/
theorem append_sw {w : World} {tv : Value} {n p : Nat} {xs : List Value} (h : RowIs w 46 1 tv n xs) (hq : ∀ x j u, tv.ownBlock = some x → w.cell? ⟨x, j, none⟩ = some u → ∃ q, u = .pointer q) (hn : n ≤ 1000000000) (hs : 1 ≤ w.heap.size) : ∃ g cap w', (Builtin.append_ #[28, 28] 28 #[tv, .slice (some ⟨w.heap.size, 0, none⟩) 1 1]).run Tryz.prog (w.alloc (.cells #[.pointer (some ⟨p, 0, none⟩)] 46)) = .ok (.slice (some ⟨g, 0, none⟩) (n + 1) cap) w' ∧ w'.ownsRow 1 46 1 (.slice (some ⟨g, 0, none⟩) (n + 1) cap) (n + 1) (xs ++ [.pointer (some ⟨p, 0, none⟩)]) ∧ Chg (fun x => tv.ownBlock = some x) w w' ∧ (tv.ownBlock = some g ∨ w.heap.size ≤ g) ∧ ∀ j u, w'.cell? ⟨g, j, none⟩ = some u → ∃ q, u = .pointer q := by
  obtain ⟨i0, hi, hz0, hz1, hz2⟩ := info_parts infoPsw
  have hrd : (w.alloc (.cells #[.pointer (some ⟨p, 0, none⟩)] 46)).ownsRow 1 46 1 tv n xs := h.1.alloc _
  have hcn : ∀ j u, [Value.pointer (some ⟨p, 0, none⟩)][j]? = some u → (w.alloc (.cells #[.pointer (some ⟨p, 0, none⟩)] 46)).cell? ((⟨w.heap.size, 0, none⟩ : Addr).add j) = some u := fun j u hu => by
    rw [Addr.add_mid]
    exact range_new w #[.pointer (some ⟨p, 0, none⟩)] 46 j u hu
  have h1 : ∀ u ∈ [Value.pointer (some ⟨p, 0, none⟩)], u.oneCell' = true := by simp [Value.oneCell']
  have hs' : (w.alloc (.cells #[.pointer (some ⟨p, 0, none⟩)] 46)).heap.size = w.heap.size + 1 := by simp
  obtain ⟨v', w', hap, hown', hgr, hiff⟩ := run_append_own (P := Tryz.prog) (w.alloc (.cells #[.pointer (some ⟨p, 0, none⟩)] 46)) 1 28 28 46 i0 _ 1 8 underPsws hi hz0 hz1 hz2 rfl (by decide) tv n xs hrd ⟨w.heap.size, 0, none⟩ 1 1 [.pointer (some ⟨p, 0, none⟩)] rfl hcn h1 (by unfold maxLen; omega) (by omega) (by omega)
  have hbl := append_block (P := Tryz.prog) (w.alloc (.cells #[.pointer (some ⟨p, 0, none⟩)] 46)) 1 28 28 46 i0 _ 1 8 underPsws hi hz0 hz1 hz2 tv n xs hrd ⟨w.heap.size, 0, none⟩ 1 1 [.pointer (some ⟨p, 0, none⟩)] rfl hcn h1 (by unfold maxLen; omega) (by omega) hap
  have hall := append_all (P := Tryz.prog) (fun u => ∃ q, u = .pointer q) (w.alloc (.cells #[.pointer (some ⟨p, 0, none⟩)] 46)) 1 28 28 46 i0 _ 1 8 underPsws hi hz0 hz1 hz2 tv n xs hrd ⟨w.heap.size, 0, none⟩ 1 1 [.pointer (some ⟨p, 0, none⟩)] rfl hcn h1 (by unfold maxLen; omega) (by omega) (by decide) (by intro u hu; simp [Value.cells] at hu; exact ⟨_, hu⟩) (fun g j u hg hu => hq g j u hg (by rwa [(OnlyAt.of_block (((Below.refl _ w).alloc (Nat.le_refl _) (.cells #[.pointer (some ⟨p, 0, none⟩)] 46)).block g (h.lt hg)) j).1] at hu)) (by intro u hu; simp at hu; exact ⟨_, hu⟩) hap
  have hv' : ∃ g cap, v' = .slice (some ⟨g, 0, none⟩) (n + 1) cap := by
    rcases hown'.2 with ⟨e, e2⟩ | ⟨g, cap, _, e, _⟩
    · omega
    · exact ⟨g, cap, e⟩
  obtain ⟨g, cap, rfl⟩ := hv'
  refine ⟨g, cap, w', hap, hown', ?_, ?_, fun j u => hall g j u rfl⟩
  · have c1 : Chg (fun b => tv.ownBlock = some b) w (w.alloc (.cells #[.pointer (some ⟨p, 0, none⟩)] 46)) := Chg.of_below ((Below.refl _ w).alloc (Nat.le_refl _) _)
    exact c1.trans (Chg.grown hgr fun _ hk => hk)
  · rcases hbl g rfl with h | h
    · exact .inl h
    · exact .inr (by omega)
theorem LS.farS {w : World} {sv : Value} {Ss : List SwD} {col : Nat → Nat} {M : Int} (h : LS w sv Ss col M) (hl : Laid w) {x : Nat} (hx : sv.ownBlock = some x) : Far w x := by
  have h0 : 0 < Ss.length := by
    rcases Nat.eq_zero_or_pos Ss.length with h0 | h0
    · rw [h.row.2 h0] at hx; cases hx
    · exact h0
  have c0 : w.cell? ⟨x, 0, none⟩ = some (.pointer (some ⟨Ss[0].p, 0, none⟩)) := by
    have := h.row.1.cells (g := x) hx 0 (.pointer (some ⟨Ss[0].p, 0, none⟩)) (by rw [List.getElem?_map, List.getElem?_eq_getElem h0]; rfl)
    rwa [Addr.add_mid] at this
  refine far_ptr c0 (h.sw 0 h0).c0 (fun n e => by cases e) (fun f hf => ?_) hl
  obtain ⟨q, e⟩ := h.pS x 1 _ hx hf
  cases e
/-- A new switch of the program's. -/
def freshD (p s y fb rb hb t vb k m : Nat) (F : Nat → Prop) (pv : Value) (Q : List (Int × Value)) (n : Nat) (xv : Value) : SwD := ⟨p, s, y, pv, List.replicate n ⟨1, fun _ => false⟩, Q, k, m, .slice none 0 0, [], fb, .slice none 0 0, [], t, vb, F, [], noV, rb, hb, .slice none 0 0, [], freshX xv n⟩
theorem freshX_P (xv : Value) (n : Nat) : (freshX xv n).P = List.replicate n ⟨1, fun _ => false⟩ := by
  show (List.replicate n newPt).map XPt.prt = _
  rw [List.map_replicate]
  congr 1
section
variable {w W1 W2 : World} {fb rb hb t vb k m n : Nat} {F : Nat → Prop} {Wb : World}
/-- All its blocks are new. -/
theorem NewI.imp (h : NewI w fb rb hb t vb k m F Wb n W1) (hm : Means w) (p y : Nat) (xv : Value) : ∃ pv Q, (freshD p Wb.heap.size y fb rb hb t vb k m F pv Q n xv).Imp W1 ∧ (∀ b, (freshD p Wb.heap.size y fb rb hb t vb k m F pv Q n xv).mine b → w.heap.size ≤ b ∧ b < W1.heap.size) ∧ W1.cell? ⟨k, 1, none⟩ = none ∧ Below w.heap.size w W1 := by
  obtain ⟨pv, Q, hP, hO, hQ, hC, hpb⟩ := h.swP hm
  have hR := h.swR hC (Chg.refl _ W1)
  have hrb := (h.lo.block _ (lt_of_heap h.n.nr)).trans h.n.nr
  have hhb := (h.lo.block _ (lt_of_heap h.n.nh)).trans h.n.nh
  have hH : SwH W1 Wb.heap.size rb hb (.slice none 0 0) [] := ⟨cellRow hC rfl, cellRow hrb rfl, ⟨⟨cellRow hhb rfl, cellRow hhb rfl, ⟨rfl, .inl ⟨rfl, rfl⟩⟩, fun j => frzRow hhb j, Nat.zero_le _⟩, fun _ => rfl⟩, List.Pairwise.nil⟩
  have hI : (freshD p Wb.heap.size y fb rb hb t vb k m F pv Q n xv).Imp W1 := ⟨hP, hR, hH, hO⟩
  have l1 := h.n.lo.size
  refine ⟨pv, Q, hI, fun b hb => ⟨?_, hI.lt hb⟩, (World.cell?_of_block (a := ⟨k, 1, none⟩) (h.lo.block k (block_lt_of_cell h.n.nk.1))).trans h.n.k1, h.n.lo.trans (h.lo.mono l1)⟩
  rcases hb with e | e | e | e | e | ⟨q, hq, e⟩ | e | e | e | e | e | e | e
  · rw [e]; exact l1
  · rw [e]; exact h.n.lk
  · rw [e]; exact h.n.lm
  · cases e
  · have := hpb b e; omega
  · rw [hQ q hq] at e; cases e
  · rw [e]; exact h.n.lf
  · cases e
  · rw [e]; exact h.n.lv
  · exact h.n.lt b e
  · rw [e]; exact h.n.lr
  · rw [e]; exact h.n.lh
  · cases e
end
/-- The colours behind a new switch. -/
def swCol (col : Nat → Nat) (s s1 s2 i : Nat) : Nat → Nat := fun x => if x < s then col x else if x < s1 then 6 * i + 10 else if x < s2 then 6 * i + 13 else if x = s2 then 4 else 7
section
variable {w W1 W2 W3 W5 : World} {wb n : Nat} {tv sv kv : Value} {Ts : List TabD} {Ss : List SwD} {Ks : List KeptD} {col : Nat → Nat} {M : Int}
theorem sw_done {d : SwD} {g cap : Nat} (h : LW w wb tv sv kv n Ts Ks col) (hs : LS w sv Ss col M) (hM : 0 ≤ M) (hb1 : Below w.heap.size w W1) (hI : d.Imp W1) (hmine : ∀ b, d.mine b → w.heap.size ≤ b ∧ b < W1.heap.size) (one : W1.cell? ⟨d.k, 1, none⟩ = none)
    (hb2 : Below W1.heap.size W1 W2) (hX : XSw W2 d.y d.x) (hxb : ∀ b, d.x.blocks d.y b → W1.heap.size ≤ b) (hp : d.p = W2.heap.size)
    (hW3 : W3 = W2.alloc (.cells #[.pointer (some ⟨d.s, 0, none⟩), .pointer (some ⟨d.y, 0, none⟩)] 73))
    (hown : W5.ownsRow 1 46 1 (.slice (some ⟨g, 0, none⟩) (Ss.length + 1) cap) (Ss.length + 1) ((Ss.map fun d => Value.pointer (some ⟨d.p, 0, none⟩)) ++ [.pointer (some ⟨W2.heap.size, 0, none⟩)])) (hc : Chg (fun x => sv.ownBlock = some x) W3 W5) (hg : sv.ownBlock = some g ∨ W3.heap.size ≤ g) (hq : ∀ j u, W5.cell? ⟨g, j, none⟩ = some u → ∃ q, u = .pointer q)
    (eP : d.P = d.x.P) (eK : d.K = []) (xK : d.x.K = []) (n0 : 0 < d.x.Q.length) (n8 : d.x.Q.length ≤ 8) (tl : ∀ q ∈ d.x.Q, q.T.length ≤ 1000000000) (nt : ∀ q ∈ d.x.Q, 0 ≤ q.nat ∧ q.nat < 4096) (nil : d.x.kv = .slice none 0 0) (now : d.x.now = 0) :
    ∃ col', LW (W5.setCell ⟨wb, 1, none⟩ (.slice (some ⟨g, 0, none⟩) (Ss.length + 1) cap)) wb tv (.slice (some ⟨g, 0, none⟩) (Ss.length + 1) cap) kv n Ts Ks col' ∧ LS (W5.setCell ⟨wb, 1, none⟩ (.slice (some ⟨g, 0, none⟩) (Ss.length + 1) cap)) (.slice (some ⟨g, 0, none⟩) (Ss.length + 1) cap) (Ss ++ [d]) col' M ∧ Left w (W5.setCell ⟨wb, 1, none⟩ (.slice (some ⟨g, 0, none⟩) (Ss.length + 1) cap)) col col' := by
  have hwl : wb < w.heap.size := block_lt_of_cell h.c0
  have s1 := hb1.size
  have s2 := hb2.size
  have s3 : W3.heap.size = W2.heap.size + 1 := by rw [hW3]; simp
  have hb23 : Below W2.heap.size W2 W3 := by rw [hW3]; exact (Below.refl _ W2).alloc (Nat.le_refl _) _
  have hb13 : Below W1.heap.size W1 W3 := hb2.trans (hb23.mono s2)
  have hb3 : Below w.heap.size w W3 := hb1.trans (hb13.mono s1)
  have htl : ∀ x, sv.ownBlock = some x → x < w.heap.size := fun x hx => hs.row.lt hx
  have htw : sv.ownBlock ≠ some wb := fun e => by have := hs.cS wb e; rw [h.cw] at this; omega
  have hgw : g ≠ wb := fun e => by
    rcases hg with hg | hg
    · exact htw (by rw [hg, e])
    · omega
  obtain ⟨W, hW⟩ : ∃ W, W = W5.setCell ⟨wb, 1, none⟩ (.slice (some ⟨g, 0, none⟩) (Ss.length + 1) cap) := ⟨_, rfl⟩
  rw [← hW]
  have c3W : Chg (fun x => x = wb ∨ sv.ownBlock = some x) W3 W := by rw [hW]; exact Chg.setCell (p := ⟨wb, 1, none⟩) (hc.mono fun x _ hx => .inr hx) (.inl (.inl rfl)) _
  have cW : Chg (fun x => x = wb ∨ sv.ownBlock = some x) w W := (Chg.of_below hb3).trans c3W
  have c1W : Chg (fun x => x = wb ∨ sv.ownBlock = some x) W1 W := (Chg.of_below hb13).trans c3W
  have c2W : Chg (fun x => x = wb ∨ sv.ownBlock = some x) W2 W := (Chg.of_below hb23).trans c3W
  have hX' : ∀ x, (x = wb ∨ sv.ownBlock = some x) → Far w x := fun x hx => by
    rcases hx with rfl | hx
    · exact h.farW
    · exact hs.farS h.laid hx
  have hX1 : ∀ x, (x = wb ∨ sv.ownBlock = some x) → Far W1 x := fun x hx => by
    rcases hx with rfl | hx
    · exact (h.still hb1).farW
    · exact (hs.still hb1).farS (h.still hb1).laid hx
  have hC : ∀ x, (x = wb ∨ sv.ownBlock = some x) → col x = 1 ∨ col x = 7 := fun x hx => by
    rcases hx with rfl | hx
    · exact .inl h.cw
    · exact .inr (hs.cS x hx)
  have hlt : ∀ x, (x = wb ∨ sv.ownBlock = some x) → x < w.heap.size := fun x hx => by
    rcases hx with rfl | hx
    · exact hwl
    · exact htl x hx
  obtain ⟨cl, hcl⟩ : ∃ cl, cl = swCol col w.heap.size W1.heap.size W2.heap.size Ss.length := ⟨_, rfl⟩
  have ink : ∀ x, x < w.heap.size → cl x = col x := fun x hx => by rw [hcl]; unfold swCol; rw [if_pos hx]
  have n1 : ¬ (1 = wb ∨ sv.ownBlock = some 1) := fun e => by have := hC 1 e; rw [hs.c1] at this; omega
  have ob : ∀ j, W5.cell? ⟨wb, j, none⟩ = w.cell? ⟨wb, j, none⟩ ∧ W5.frozen? ⟨wb, j, none⟩ = w.frozen? ⟨wb, j, none⟩ := fun j => OnlyAt.of_block ((hc.block wb (by omega) htw).trans (hb3.block wb hwl)) j
  have o := OnlyAt.set (o := 1) ob (.slice (some ⟨g, 0, none⟩) (Ss.length + 1) cap)
  rw [← hW] at o
  have hl5 : W5.cell? ⟨wb, 1, none⟩ = some sv := (ob 1).1.trans h.c1
  have hrow : W.heap[g]? = W5.heap[g]? := by rw [hW]; exact Below.heap_setCell _ _ _ _ hgw
  have hpb : W.heap[d.p]? = some (.cells #[.pointer (some ⟨d.s, 0, none⟩), .pointer (some ⟨d.y, 0, none⟩)] 73 (0, 0)) := by
    rw [c3W.block d.p (by omega) (fun e => by have := hlt _ e; omega), hp, hW3]
    exact heap_alloc_new W2 _
  have cg : cl g = 7 := by
    rcases hg with hg | hg
    · exact (ink g (htl g hg)).trans (hs.cS g hg)
    · rw [hcl]; unfold swCol; rw [if_neg (by omega), if_neg (by omega), if_neg (by omega), if_neg (by omega)]
  have hkl := hmine d.k (.inr (.inl rfl))
  have hnew : d.Ok W cl Ss.length M := by
    refine ⟨(cell_of_heap hpb).trans rfl, (cell_of_heap hpb).trans rfl, ?_, hI.keep c1W n1 fun x hx _ => ⟨hX1 x hx, fun hm => ?_⟩, fun b hb => ?_, ?_, hX.keep fun b hb hbl => c2W.block b hbl fun e => ?_, fun b hb => ?_, eP, eK.trans xK.symm, n0, n8, by rw [xK]; exact Nat.zero_le _, tl, fun e he => (by rw [xK] at he; cases he), nt, fun e he => (by rw [xK] at he; cases he), fun _ => nil, by rw [now]; exact ⟨Int.le_refl _, hM⟩⟩
    · rw [hcl, hp]; unfold swCol; rw [if_neg (by omega), if_neg (by omega), if_neg (by omega), if_pos rfl]
    · have := hmine x hm; have := hlt x hx; omega
    · have := hmine b hb
      rw [hcl]; unfold swCol; rw [if_neg (by omega), if_pos this.2]
    · exact (World.cell?_of_block (a := ⟨d.k, 1, none⟩) (c1W.block d.k hkl.2 fun e => by have := hlt _ e; omega)).trans one
    · have := hxb b hb; have := hlt b e; omega
    · have h1 := hxb b hb
      have h2 := hX.lts hb
      rw [hcl]; unfold swCol; rw [if_neg (by omega), if_neg (by omega), if_pos h2]
  refine ⟨cl, ⟨h.laid.far cW.block hX', (o 0 (by decide)).1.trans h.c0, by rw [hW]; exact World.cell?_setCell_same _ _ _ hl5, (o 2 (by decide)).1.trans h.c2, (o 3 (by decide)).1.trans h.c3, ⟨_, _, _, rfl⟩, fun j => ?_, h.rT.keep fun x hx => cW.block x (h.rT.lt hx) fun hx' => ?_, h.rK.keep fun x hx => cW.block x (h.rK.lt hx) fun hx' => ?_, (ink wb hwl).trans h.cw, fun x hx => (ink x (h.rT.lt hx)).trans (h.cT x hx), fun x j u hx hu => h.pT x j u hx (by rwa [(OnlyAt.of_block (cW.block x (h.rT.lt hx) fun hx' => by have := hC x hx'; rw [h.cT x hx] at this; omega) j).1] at hu), fun x hx => (ink x (h.rK.lt hx)).trans (h.cK x hx), fun i hi => (h.tab i hi).keep cW hX' (fun x hx _ => by have := hC x hx; omega) fun x hx _ => ink x hx, fun k hk => (h.kept k hk).keep cW (fun x hx _ => by have := hC x hx; omega) fun x hx _ => ink x hx⟩, ⟨⟨cW.block.cell n1 hs.mean.1, cW.block.cell n1 hs.mean.2.1, cW.block.cell n1 hs.mean.2.2.1, cW.block.cell n1 hs.mean.2.2.2⟩, (ink 1 (means_lt hs.mean)).trans hs.c1, ⟨?_, fun e => by simp at e⟩, fun x hx => ?_, fun x j u hx hu => ?_, fun i hi => ?_⟩, ⟨⟨_, cW, fun x hx _ => ?_⟩, fun x hx _ => ink x hx⟩⟩
  · rw [hW, World.frozen?_setCell, (ob j).2]
    exact h.frz j
  · have := hC x hx'; rw [h.cT x hx] at this; omega
  · have := hC x hx'; rw [h.cK x hx] at this; omega
  · rw [List.length_append, List.map_append]
    have := ownsRow_same (w' := W) hown fun x hx => by cases hx; exact hrow
    simpa [hp] using this
  · obtain rfl : g = x := Option.some.inj hx
    exact cg
  · obtain rfl : g = x := Option.some.inj hx
    rw [(OnlyAt.of_block hrow j).1] at hu
    exact hq j u hu
  · by_cases hl : i < Ss.length
    · rw [List.getElem_append_left hl]
      refine (hs.sw i hl).keep cW n1 (fun x hx _ => ⟨hX' x hx, ?_⟩) fun x hx _ => ink x hx
      have := hC x hx
      omega
    · have hi' : i = Ss.length := by rw [List.length_append] at hi; simp at hi; omega
      subst hi'
      rw [List.getElem_append_right (Nat.le_refl _)]
      simp only [Nat.sub_self, List.getElem_cons_zero]
      exact hnew
  · have := hC x hx; omega
end
end Go.Proofs.YtnjalelblbjfiaaGreatDoor

namespace Go.Proofs.YtnjalelblbjfiaaGreatDoor
open Go.RowKit
open Go.Sort (grow)
attribute [local go_sem] Oper.semAt_some cell?_regrown
attribute [local go_sem ↓ high] xApp_fold

/-- Behind so many steps of switches without faces, routes and rules. -/
def BS (w : World) (wb N : Nat) (col : Nat → Nat) : Prop := ∃ tv sv kv n Ts Ss Ks, LW w wb tv sv kv n Ts Ks col ∧ LS w sv Ss col ((N : Int) * 1000000) ∧ (∀ d ∈ Ss, d.Plain) ∧ n ≤ N ∧ Ks.length ≤ 4 * N ∧ Ss.length ≤ N
theorem BS.still {w W : World} {wb N : Nat} {col : Nat → Nat} (h : BS w wb N col) (hb : Below w.heap.size w W) : BS W wb N col := by
  obtain ⟨tv, sv, kv, n, Ts, Ss, Ks, h, hs, hp, h1, h2, h3⟩ := h
  exact ⟨tv, sv, kv, n, Ts, Ss, Ks, h.still hb, hs.still hb, hp, h1, h2, h3⟩
theorem BS.succ {w : World} {wb N : Nat} {col : Nat → Nat} (h : BS w wb N col) : BS w wb (N + 1) col := by
  obtain ⟨tv, sv, kv, n, Ts, Ss, Ks, h, hs, hp, h1, h2, h3⟩ := h
  exact ⟨tv, sv, kv, n, Ts, Ss, Ks, h, hs.later (by omega), hp, by omega, by omega, by omega⟩
theorem Left.of_below {w W : World} {col : Nat → Nat} (hb : Below w.heap.size w W) : Left w W col col := ⟨⟨fun _ => False, Chg.of_below hb, fun _ hx => hx.elim⟩, fun _ _ _ => rfl⟩

set_option maxRecDepth 100000 in
set_option maxHeartbeats 4000000 in
theorem lstep_newbad (w : World) (wb N : Nat) (col : Nat → Nat) (oa oN oM oK : Int) (oS : ByteArray) (la : Option Addr) (ll lc : Nat) (r : Rl) (x0 x1 x2 x3 x4 : Int) (h : BS w wb N col) (hn : oN < 1 ∨ 8 < oN) :
    Calls Tryz.prog 10 #[.pointer (some ⟨wb, 0, none⟩), .agg #[.int .i64 6, .int .i64 oa, .int .i64 oN, .int .i64 oM, .int .i64 oK, .string oS, .slice la ll lc, .int .i64 r.id, .int .i64 r.pr, .int .i64 r.k0, .int .i64 r.v0, .int .i64 r.m0, .int .i64 r.k1, .int .i64 r.v1, .int .i64 r.m1, .int .i64 r.k2, .int .i64 r.v2, .int .i64 r.m2, .int .i64 r.k3, .int .i64 r.v3, .int .i64 r.m3, .int .i64 r.k4, .int .i64 r.v4, .int .i64 r.m4, .int .i64 r.ac, .int .i64 r.po, .int .i64 x0, .int .i64 x1, .int .i64 x2, .int .i64 x3, .int .i64 x4]] w fun e W => e = .returned (.bool true) ∧ ∃ col', BS W wb (N + 1) col' ∧ Left w W col col' := by
  obtain ⟨W1, hW1⟩ : ∃ W1, W1 = w.alloc (.cells #[.int .i64 6, .int .i64 oa, .int .i64 oN, .int .i64 oM, .int .i64 oK, .string oS, .slice la ll lc, .int .i64 r.id, .int .i64 r.pr, .int .i64 r.k0, .int .i64 r.v0, .int .i64 r.m0, .int .i64 r.k1, .int .i64 r.v1, .int .i64 r.m1, .int .i64 r.k2, .int .i64 r.v2, .int .i64 r.m2, .int .i64 r.k3, .int .i64 r.v3, .int .i64 r.m3, .int .i64 r.k4, .int .i64 r.v4, .int .i64 r.m4, .int .i64 r.ac, .int .i64 r.po, .int .i64 x0, .int .i64 x1, .int .i64 x2, .int .i64 x3, .int .i64 x4] 41) := ⟨_, rfl⟩
  have hb1 : Below w.heap.size w W1 := by rw [hW1]; exact (Below.refl _ w).alloc (Nat.le_refl _) _
  have hk : W1.rangeAt w.heap.size 0 [.int .i64 6, .int .i64 oa, .int .i64 oN, .int .i64 oM, .int .i64 oK, .string oS, .slice la ll lc, .int .i64 r.id, .int .i64 r.pr, .int .i64 r.k0, .int .i64 r.v0, .int .i64 r.m0, .int .i64 r.k1, .int .i64 r.v1, .int .i64 r.m1, .int .i64 r.k2, .int .i64 r.v2, .int .i64 r.m2, .int .i64 r.k3, .int .i64 r.v3, .int .i64 r.m3, .int .i64 r.k4, .int .i64 r.v4, .int .i64 r.m4, .int .i64 r.ac, .int .i64 r.po, .int .i64 x0, .int .i64 x1, .int .i64 x2, .int .i64 x3, .int .i64 x4] := by rw [hW1]; exact range_new _ _ _
  have k0 : W1.cell? ⟨w.heap.size, 0, none⟩ = some (.int .i64 6) := hk 0 _ rfl
  have k2 : W1.cell? ⟨w.heap.size, 2, none⟩ = some (.int .i64 oN) := hk 2 _ rfl
  have hbl : w.heap.size < W1.heap.size := block_lt_of_cell k0
  have HF : Hid (∃ col', BS W1 wb (N + 1) col' ∧ Left w W1 col col') := hide ⟨col, (h.still hb1).succ, Left.of_below hb1⟩
  have CN := hide (sNew_bad oN W1 hn)
  have CX := hide (xFresh_bad oN W1 hn)
  have CM := hide (lnum_any 1 W1)
  clear h hb1 hk hn
  go_enter Tryz.func10, Tryz.ntmps10
  go_wp2_with fail
  rw [← hW1]
  clear hW1
  refine CN.out.mono ?_
  rintro e W ⟨rfl, hww⟩
  rw [hww]
  clear hww W CN
  go_wp2_with fail
  refine CX.out.mono ?_
  rintro e W ⟨rfl, hww⟩
  rw [hww]
  clear hww W CX
  go_wp2_with fail
  refine CM.out.mono ?_
  rintro e W ⟨rfl, hww⟩
  rw [hww]
  clear hww W CM
  go_wp2
  go_ret
  exact ⟨rfl, HF.out⟩

set_option maxRecDepth 100000 in
set_option maxHeartbeats 4000000 in
theorem lstep_new (w : World) (wb N : Nat) (col : Nat → Nat) (oa : Int) (q : Nat) (oM oK : Int) (oS : ByteArray) (la : Option Addr) (ll lc : Nat) (r : Rl) (x0 x1 x2 x3 x4 : Int) (h : BS w wb N col) (hn : 1 ≤ q ∧ q ≤ 8) (hN : N ≤ 100000000) (oN : Int) (hoN : oN = q) :
    Calls Tryz.prog 10 #[.pointer (some ⟨wb, 0, none⟩), .agg #[.int .i64 6, .int .i64 oa, .int .i64 oN, .int .i64 oM, .int .i64 oK, .string oS, .slice la ll lc, .int .i64 r.id, .int .i64 r.pr, .int .i64 r.k0, .int .i64 r.v0, .int .i64 r.m0, .int .i64 r.k1, .int .i64 r.v1, .int .i64 r.m1, .int .i64 r.k2, .int .i64 r.v2, .int .i64 r.m2, .int .i64 r.k3, .int .i64 r.v3, .int .i64 r.m3, .int .i64 r.k4, .int .i64 r.v4, .int .i64 r.m4, .int .i64 r.ac, .int .i64 r.po, .int .i64 x0, .int .i64 x1, .int .i64 x2, .int .i64 x3, .int .i64 x4]] w fun e W => e = .returned (.bool true) ∧ ∃ col', BS W wb (N + 1) col' ∧ Left w W col col' := by
  subst hoN
  obtain ⟨oN, hoN⟩ : ∃ oN : Int, oN = q := ⟨_, rfl⟩
  rw [← hoN]
  obtain ⟨tv, sv, kv, n, Ts, Ss, Ks, h, hs, hp, h1, h2, h3⟩ := h
  obtain ⟨W1, hW1⟩ : ∃ W1, W1 = w.alloc (.cells #[.int .i64 6, .int .i64 oa, .int .i64 oN, .int .i64 oM, .int .i64 oK, .string oS, .slice la ll lc, .int .i64 r.id, .int .i64 r.pr, .int .i64 r.k0, .int .i64 r.v0, .int .i64 r.m0, .int .i64 r.k1, .int .i64 r.v1, .int .i64 r.m1, .int .i64 r.k2, .int .i64 r.v2, .int .i64 r.m2, .int .i64 r.k3, .int .i64 r.v3, .int .i64 r.m3, .int .i64 r.k4, .int .i64 r.v4, .int .i64 r.m4, .int .i64 r.ac, .int .i64 r.po, .int .i64 x0, .int .i64 x1, .int .i64 x2, .int .i64 x3, .int .i64 x4] 41) := ⟨_, rfl⟩
  have hb1 : Below w.heap.size w W1 := by rw [hW1]; exact (Below.refl _ w).alloc (Nat.le_refl _) _
  have hk : W1.rangeAt w.heap.size 0 [.int .i64 6, .int .i64 oa, .int .i64 oN, .int .i64 oM, .int .i64 oK, .string oS, .slice la ll lc, .int .i64 r.id, .int .i64 r.pr, .int .i64 r.k0, .int .i64 r.v0, .int .i64 r.m0, .int .i64 r.k1, .int .i64 r.v1, .int .i64 r.m1, .int .i64 r.k2, .int .i64 r.v2, .int .i64 r.m2, .int .i64 r.k3, .int .i64 r.v3, .int .i64 r.m3, .int .i64 r.k4, .int .i64 r.v4, .int .i64 r.m4, .int .i64 r.ac, .int .i64 r.po, .int .i64 x0, .int .i64 x1, .int .i64 x2, .int .i64 x3, .int .i64 x4] := by rw [hW1]; exact range_new _ _ _
  have k0 : W1.cell? ⟨w.heap.size, 0, none⟩ = some (.int .i64 6) := hk 0 _ rfl
  have k2 : W1.cell? ⟨w.heap.size, 2, none⟩ = some (.int .i64 oN) := hk 2 _ rfl
  have hbl : w.heap.size < W1.heap.size := block_lt_of_cell k0
  have hA := h.still hb1
  have hsA := hs.still hb1
  have CN : Hid (Calls Tryz.prog 19 #[.int .i64 oN] W1 fun e w' => ∃ fb rb hb t vb k m F Wb, e = .returned (.tuple #[.pointer (some ⟨Wb.heap.size, 0, none⟩), .int .i64 0]) ∧ NewI W1 fb rb hb t vb k m F Wb q w') := hide (by rw [hoN]; exact sNew_any q W1 hn.1 hn.2 hA.laid)
  have HA := hide hA
  have HS := hide hsA
  have HP := hide hp
  have HB1 := hide hb1
  have HN := hide (And.intro h1 (And.intro h2 (And.intro h3 hN)))
  have HQ := hide (And.intro hn hoN)
  clear h hs hA hsA hp hb1 h1 h2 h3 hN hk hn hoN
  go_enter Tryz.func10, Tryz.ntmps10
  go_wp2_with fail
  rw [← hW1]
  clear hW1
  refine CN.out.mono ?_
  rintro e W2 ⟨fb, rb, hb, t, vb, k, m, F, Wb, rfl, hI⟩
  have hb12 : Below W1.heap.size W1 W2 := hI.n.lo.trans (hI.lo.mono hI.n.lo.size)
  have k2' := cell_later hb12 k2
  have hbl2 : w.heap.size < W2.heap.size := block_lt_of_cell k2'
  have CX : Hid (Calls Tryz.prog 24 #[.int .i64 oN] W2 fun e W => e = .returned (.pointer (some ⟨W2.heap.size, 0, none⟩)) ∧ ∃ pv, XSw W W2.heap.size (freshX pv q) ∧ Below W2.heap.size W2 W ∧ ∀ b, pv.ownBlock = some b → W2.heap.size < b) := hide (by rw [HQ.out.2]; exact xFresh_any q W2 HQ.out.1 (by omega))
  have HI := hide hI
  have HB12 := hide hb12
  clear CN hI hb12 k0 k2 hbl
  go_wp2_with fail
  refine CX.out.mono ?_
  rintro e W3 ⟨rfl, xv, hX, hb3, hxv⟩
  obtain ⟨pv, Q, hImp, hmine, hone, -⟩ := HI.out.imp HS.out.mean W3.heap.size W2.heap.size xv
  have hb13 : Below W1.heap.size W1 W3 := HB12.out.trans (hb3.mono HB12.out.size)
  have H3 := HA.out.still hb13
  have S3 := HS.out.still hb13
  obtain ⟨W4, hW4⟩ : ∃ W4, W4 = W3.alloc (.cells #[.pointer (some ⟨Wb.heap.size, 0, none⟩), .pointer (some ⟨W2.heap.size, 0, none⟩)] 73) := ⟨_, rfl⟩
  have hb34 : Below W3.heap.size W3 W4 := by rw [hW4]; exact (Below.refl _ W3).alloc (Nat.le_refl _) _
  have H4 := H3.still hb34
  have S4 := S3.still hb34
  have s4 : W4.heap.size = W3.heap.size + 1 := by rw [hW4]; simp
  obtain ⟨g, cap, W5, hap, hown, hc, hg, hq⟩ := append_sw (p := W3.heap.size) S4.row S4.pS (by have := HN.out; omega) H4.pos
  have FIN : Hid (∃ col', BS (W5.setCell ⟨wb, 1, none⟩ (.slice (some ⟨g, 0, none⟩) (Ss.length + 1) cap)) wb (N + 1) col' ∧ Left w (W5.setCell ⟨wb, 1, none⟩ (.slice (some ⟨g, 0, none⟩) (Ss.length + 1) cap)) col col') := hide (by
    obtain ⟨col', f1, f2, f3⟩ := sw_done (d := freshD W3.heap.size Wb.heap.size W2.heap.size fb rb hb t vb k m F pv Q q xv) HA.out HS.out (by omega) HB12.out hImp hmine hone hb3 hX (fun b hb => by
      rcases hb with e | e | e | e | e | e | ⟨z, hz, e⟩
      · rw [e]; exact Nat.le_refl _
      · exact Nat.le_of_lt (hxv b e)
      · cases e
      · cases e
      · cases e
      · cases e
      · rw [List.eq_of_mem_replicate hz] at e; cases e) rfl hW4 hown hc hg hq (freshX_P xv q).symm rfl rfl (by show 0 < (List.replicate q newPt).length; rw [List.length_replicate]; exact HQ.out.1.1) (by show (List.replicate q newPt).length ≤ 8; rw [List.length_replicate]; exact HQ.out.1.2) (fun z hz => by rw [List.eq_of_mem_replicate hz]; exact Nat.zero_le _) (fun z hz => by rw [List.eq_of_mem_replicate hz]; exact ⟨show (0 : Int) ≤ 1 by decide, show (1 : Int) < 4096 by decide⟩) rfl rfl
    have hn := HN.out
    refine ⟨col', ⟨tv, _, kv, n, Ts, _, Ks, f1, f2.later (by omega), fun z hz => ?_, by omega, by omega, by rw [List.length_append, List.length_singleton]; omega⟩, f3.under HB1.out⟩
    rcases List.mem_append.1 hz with hz | hz
    · exact HP.out z hz
    · rw [List.mem_singleton.1 hz]
      exact ⟨rfl, rfl, rfl, rfl, rfl, rfl, rfl⟩)
  have hap5 := xApp_run hap
  rw [s4, hW4] at hap5
  have c1 := H3.c1
  have hwl : wb < W3.heap.size := block_lt_of_cell c1
  have hsw : sv.ownBlock ≠ some wb := fun e => by have := S4.cS wb e; rw [H4.cw] at this; omega
  have e1 : W5.cell? ⟨wb, 1, none⟩ = some sv := hc.block.cell hsw H4.c1
  have f5 : W5.frozen? ⟨wb, 1, none⟩ = false := by
    rw [(OnlyAt.of_block (hc.block wb (block_lt_of_cell H4.c0) hsw) 1).2]
    exact H4.frz 1
  have hwl5 : wb < W5.heap.size := block_lt_of_cell e1
  obtain ⟨ta, tm, tc, htv⟩ := H4.sS
  rw [htv] at c1 e1 hap5
  clear hown hc hg hq hap H3 S3 H4 S4 hb34 s4 hW4 hb13 hb3 hX hxv hImp hmine hone CX k2' hbl2 hsw
  go_wp2_with fail
  go_ret
  exact ⟨rfl, FIN.out⟩
end Go.Proofs.YtnjalelblbjfiaaGreatDoor

namespace Go.Proofs.YtnjalelblbjfiaaGreatDoor
open Go.RowKit
attribute [local go_sem] Oper.semAt_some cell?_regrown
attribute [local go_sem ↓ high] buildKeptI
attribute [local go_sem ↓ high] xApp_fold

set_option maxRecDepth 100000 in
set_option maxHeartbeats 16000000 in
theorem lport_any (w : World) (wb i : Nat) (tv sv kv : Value) (n : Nat) (Ts : List TabD) (Ss : List SwD) (Ks : List KeptD) (col : Nat → Nat) (M : Int) (ki oa oN oM oK : Int) (oS : ByteArray) (la : Option Addr) (ll lc : Nat) (r : Rl) (x0 x1 x2 x3 x4 : Int) (T : List Int) (h : LW w wb tv sv kv n Ts Ks col) (hs : LS w sv Ss col M) (hi : i < Ss.length) (hT : NumsO w (.slice la ll lc) T) (hlc : ll ≤ lc) (hTl : T.length ≤ 100000000) (hTw : ∀ t ∈ T, (Lit.int .i64 t).wf = true) (hT4 : ∀ b, (Value.slice la ll lc).ownBlock = some b → 0 < T.length → col b = 4) (hn : n < 1000000000) (hK : Ks.length + 1 ≤ 1000000000) :
    Calls Tryz.prog 27 #[.pointer (some ⟨wb, 0, none⟩), .pointer (some ⟨Ss[i].p, 0, none⟩), .agg #[.int .i64 ki, .int .i64 oa, .int .i64 oN, .int .i64 oM, .int .i64 oK, .string oS, .slice la ll lc, .int .i64 r.id, .int .i64 r.pr, .int .i64 r.k0, .int .i64 r.v0, .int .i64 r.m0, .int .i64 r.k1, .int .i64 r.v1, .int .i64 r.m1, .int .i64 r.k2, .int .i64 r.v2, .int .i64 r.m2, .int .i64 r.k3, .int .i64 r.v3, .int .i64 r.m3, .int .i64 r.k4, .int .i64 r.v4, .int .i64 r.m4, .int .i64 r.ac, .int .i64 r.po, .int .i64 x0, .int .i64 x1, .int .i64 x2, .int .i64 x3, .int .i64 x4]] w fun e W => e = .returned (.bool true) ∧ ∃ kv' Ks' col' d', Ks'.length = Ks.length + 1 ∧ LW W wb tv sv kv' (n + 1) Ts Ks' col' ∧ LS W sv (Ss.set i d') col' M ∧ (Ss[i].Plain → d'.Plain) ∧ Left w W col col' := by
  have hd := hs.sw i hi
  obtain ⟨d, hde⟩ : ∃ d, d = Ss[i] := ⟨_, rfl⟩
  rw [← hde] at hd ⊢
  have hll : T.length = ll := by obtain ⟨a, cap, b, off, e, _⟩ := hT; injection e with _ e _; exact e.symm
  obtain ⟨m, hm⟩ : ∃ m : Nat, m = n + 1 := ⟨_, rfl⟩
  have hw1 : IntKind.i64.wrap ((n : Int) + 1) = (m : Int) := by rw [IntKind.wrap_i64]; omega
  have hw2 : IntKind.i64.wrap (-(m : Int)) = -(m : Int) := by rw [IntKind.wrap_i64]; omega
  obtain ⟨l1, hl1⟩ : ∃ l1 : Nat, l1 = ll + 1 := ⟨_, rfl⟩
  obtain ⟨l2, hl2⟩ : ∃ l2 : Nat, l2 = ll + 2 := ⟨_, rfl⟩
  have hw3 : IntKind.i64.wrap ((ll : Int) + 1) = (l1 : Int) := by rw [IntKind.wrap_i64]; omega
  obtain ⟨W1, hW1⟩ : ∃ W1, W1 = w.alloc (.cells #[.int .i64 ki, .int .i64 oa, .int .i64 oN, .int .i64 oM, .int .i64 oK, .string oS, .slice la ll lc, .int .i64 r.id, .int .i64 r.pr, .int .i64 r.k0, .int .i64 r.v0, .int .i64 r.m0, .int .i64 r.k1, .int .i64 r.v1, .int .i64 r.m1, .int .i64 r.k2, .int .i64 r.v2, .int .i64 r.m2, .int .i64 r.k3, .int .i64 r.v3, .int .i64 r.m3, .int .i64 r.k4, .int .i64 r.v4, .int .i64 r.m4, .int .i64 r.ac, .int .i64 r.po, .int .i64 x0, .int .i64 x1, .int .i64 x2, .int .i64 x3, .int .i64 x4] 41) := ⟨_, rfl⟩
  obtain ⟨bk, hbk⟩ : ∃ bk, bk = w.heap.size := ⟨_, rfl⟩
  have hb1 : Below w.heap.size w W1 := by rw [hW1]; exact (Below.refl _ w).alloc (Nat.le_refl _) _
  have hk : W1.rangeAt bk 0 [.int .i64 ki, .int .i64 oa, .int .i64 oN, .int .i64 oM, .int .i64 oK, .string oS, .slice la ll lc, .int .i64 r.id, .int .i64 r.pr, .int .i64 r.k0, .int .i64 r.v0, .int .i64 r.m0, .int .i64 r.k1, .int .i64 r.v1, .int .i64 r.m1, .int .i64 r.k2, .int .i64 r.v2, .int .i64 r.m2, .int .i64 r.k3, .int .i64 r.v3, .int .i64 r.m3, .int .i64 r.k4, .int .i64 r.v4, .int .i64 r.m4, .int .i64 r.ac, .int .i64 r.po, .int .i64 x0, .int .i64 x1, .int .i64 x2, .int .i64 x3, .int .i64 x4] := by rw [hW1, hbk]; exact range_new _ _ _
  have hwl : wb < w.heap.size := block_lt_of_cell h.c0
  have k6 : W1.cell? ⟨bk, 6, none⟩ = some (.slice la ll lc) := hk 6 _ rfl
  have hbl : bk < W1.heap.size := block_lt_of_cell k6
  obtain ⟨ta, c1, W2, hap1, hown1, hb2⟩ := append_nums (hT.below hb1) (by omega) (Nat.lt_of_le_of_lt (Nat.zero_le _) hbl)
  obtain ⟨g, cap, W3, hap2, hown2, hb3⟩ := append77 hown1 hb2.size (Nat.lt_of_le_of_lt (Nat.zero_le _) hbl) (by omega)
  have hap1' := xApp_run hap1
  have hap2' := xApp_run hap2
  obtain ⟨gc, g77, g78, hcap, hgB, hgl, cur, hgh, hcs⟩ := nums_cells hown2
  have s1' : W1.heap.size = w.heap.size + 1 := by rw [hW1]; simp
  rw [hll] at hap1' hap2' g77 g78 hcap
  rw [← hl2] at hap2' hcap
  rw [← hl1] at g78
  rw [s1', hW1] at hap1'
  have hb13 : Below W1.heap.size W1 W3 := hb2.trans hb3
  have hb03 : Below w.heap.size w W3 := hb1.trans (hb13.mono hb1.size)
  have s1 := hb1.size
  have s13 := hb13.size
  have hgw : w.heap.size ≤ g := Nat.le_trans s1 hgB
  have j2 : W3.cell? ⟨bk, 2, none⟩ = some (.int .i64 oN) := cell_later hb13 (hk 2 _ rfl)
  have j3 : W3.cell? ⟨bk, 3, none⟩ = some (.int .i64 oM) := cell_later hb13 (hk 3 _ rfl)
  have j6 : W3.cell? ⟨bk, 6, none⟩ = some (.slice la ll lc) := cell_later hb13 k6
  have p0 := cell_later hb03 hd.c0
  have hpl : d.p < W3.heap.size := block_lt_of_cell p0
  have hbl3 : bk < W3.heap.size := block_lt_of_cell j6
  have hnum : NumsAt W3 (.slice (some ⟨g, 0, none⟩) ll cap) T := ⟨_, cap, g, by rw [hll], fun j hj => ⟨rfl, gc j hj⟩⟩
  obtain ⟨rs, hrs⟩ : ∃ rs, rs = portRes d.P oN oM T := ⟨_, rfl⟩
  have CP : Hid (Calls Tryz.prog 22 #[.pointer (some ⟨d.s, 0, none⟩), .int .i64 oN, .int .i64 oM, .slice (some ⟨g, 0, none⟩) ll cap] W3.drew fun e w' => e = .returned (.int .i64 rs) ∧ (∃ Q', PortsO w' d.pv (portSet d.P oN oM T) Q' ∧ NewTags W3.drew d.Q Q') ∧ Chg (fun b => d.pv.ownBlock = some b) W3.drew w') := hide (by
    have hbd : Below w.heap.size w W3.drew := hb03.drew
    have := sPort_any d.s d.pv d.P d.Q oN oM T (.slice (some ⟨g, 0, none⟩) ll cap) W3.drew (cell_later hbd hd.imp.p.h0) (hd.imp.o.below hbd) (hnum.below ((Below.refl _ W3).drew)) hTw (by omega)
    rw [← hrs] at this
    exact this)
  have hlci : (ll : Int) ≤ cap := by omega
  have hlc0 : ¬ cap = 0 := by omega
  have hll2 : (ll : Int) < l2 := by omega
  have hl12 : (l1 : Int) < l2 := by omega
  have hl2s : (l2 : Int) ≤ 200000000 := by omega
  have hpv : ∀ b, d.pv.ownBlock = some b → b < w.heap.size ∧ col b = 6 * i + 10 := fun b hb => ⟨by rw [hde] at hb; exact (hs.sw i hi).imp.lt (.inr (.inr (.inr (.inr (.inl hb))))), hd.cI b (.inr (.inr (.inr (.inr (.inl hb)))))⟩
  have hbw : ¬ bk = wb := by omega
  have hbw' : ¬ wb = bk := by omega
  have hgwb : ¬ g = wb := by omega
  have hgwb' : ¬ wb = g := by omega
  have hgbk : ¬ bk = g := by omega
  have npb : d.pv.ownBlock ≠ some bk := fun e => by have := (hpv _ e).1; omega
  have npg : d.pv.ownBlock ≠ some g := fun e => by have := (hpv _ e).1; omega
  have npw : d.pv.ownBlock ≠ some wb := fun e => by have := (hpv _ e).2; rw [h.cw] at this; omega
  have npp : d.pv.ownBlock ≠ some d.p := fun e => by have := (hpv _ e).2; rw [hd.cp] at this; omega
  have v2 := cell_later hb03 h.c2
  have v3 := cell_later hb03 h.c3
  have vf : ∀ j, W3.frozen? ⟨wb, j, none⟩ = false := fun j => by rw [(OnlyAt.of_block (hb03.block wb hwl) j).2]; exact h.frz j
  have HH := hide h
  have HS := hide hs
  have HD := hide hd
  have HT := hide hT
  have HTS := hide (And.intro hlc (And.intro hTl (And.intro hT4 (And.intro hn hK))))
  have HDE := hide hde
  have HLL := hide hll
  have HM := hide hm
  have HB03 := hide hb03
  have HG := hide (And.intro gc (And.intro g77 (And.intro g78 (And.intro hcap (And.intro hgl (And.intro hgh hcs))))))
  have HL := hide (And.intro hl1 hl2)
  have HGW := hide hgw
  have HRS := hide hrs
  have HJ := hide (And.intro j2 (And.intro j3 (And.intro j6 (And.intro p0 (cell_later hb03 hd.c1)))))
  have HV := hide (And.intro v2 (And.intro v3 vf))
  have HBK := hide hbk
  have HNP := hide (And.intro npb (And.intro npg (And.intro npw npp)))
  clear h hs hd hT hlc hTl hTw hT4 hn hK hde hll hm hb1 hb03 hb13 hb2 hb3 hap1 hap2 hown1 hown2 gc g77 g78 hcap hgB hgh hcs hl1 hl2 hnum hgw hk hrs hwl k6 hbl hpv npb npg npw npp v2 v3 vf s1 s13 s1'
  go_enter Tryz.func27, Tryz.ntmps27
  go_wp2_with fail
  rw [← hbk]
  clear hap1' hap2' hW1 hbk
  go_region_held3 (fun w' => w'.cell? ⟨bk, 2, none⟩ = some (.int .i64 oN) ∧ w'.cell? ⟨bk, 3, none⟩ = some (.int .i64 oM) ∧ w'.cell? ⟨bk, 6, none⟩ = some (.slice la ll lc) ∧ w'.cell? ⟨d.p, 0, none⟩ = some (.pointer (some ⟨d.s, 0, none⟩))) (go_keep)
    (first | (go_at_call 22; refine CP.out.mono ?_; rintro e w4 ⟨rfl, hI⟩; have b2 : w4.cell? ⟨bk, 2, none⟩ = some (.int .i64 oN) := hI.2.block.cell HNP.out.1 HJ.out.1; have b3 : w4.cell? ⟨bk, 3, none⟩ = some (.int .i64 oM) := hI.2.block.cell HNP.out.1 HJ.out.2.1; have b6 : w4.cell? ⟨bk, 6, none⟩ = some (.slice la ll lc) := hI.2.block.cell HNP.out.1 HJ.out.2.2.1; have b0 : w4.cell? ⟨d.p, 0, none⟩ = some (.pointer (some ⟨d.s, 0, none⟩)) := hI.2.block.cell HNP.out.2.2.2 HJ.out.2.2.2.1; have HI := hide hI; clear hI))
  obtain ⟨⟨Q', hPO, hNT⟩, hc4⟩ := HI.out
  have hc4' : Chg (fun b => d.pv.ownBlock = some b) W3 w4 := (Chg.of_below ((Below.refl _ W3).drew)).trans hc4
  have HPO := hide (And.intro hPO (And.intro hNT hc4'))
  have p1 : w4.cell? ⟨d.p, 1, none⟩ = some (.pointer (some ⟨d.y, 0, none⟩)) := hc4.block.cell HNP.out.2.2.2 HJ.out.2.2.2.2
  have y7 : w4.cell? ⟨g, ll, none⟩ = some (.int .i64 77) := hc4.block.cell HNP.out.2.1 HG.out.2.1
  have y8 : w4.cell? ⟨g, l1, none⟩ = some (.int .i64 77) := hc4.block.cell HNP.out.2.1 HG.out.2.2.1
  have v2 : w4.cell? ⟨wb, 2, none⟩ = some (.int .i64 n) := hc4.block.cell HNP.out.2.2.1 HV.out.1
  have v3 : w4.cell? ⟨wb, 3, none⟩ = some kv := hc4.block.cell HNP.out.2.2.1 HV.out.2.1
  have hwl3 : wb < W3.heap.size := block_lt_of_cell HV.out.1
  have vf : ∀ j, w4.frozen? ⟨wb, j, none⟩ = false := fun j => by rw [(OnlyAt.of_block (hc4'.block wb hwl3 HNP.out.2.2.1) j).2]; exact HV.out.2.2 j
  have vf2 := vf 2
  have z1 : bk < w4.heap.size := block_lt_of_cell b6
  have z2 : g < w4.heap.size := block_lt_of_cell y7
  have z3 : wb < w4.heap.size := block_lt_of_cell v2
  have hgh4 : w4.heap[g]? = some (.cells cur 3 (0, 0)) := (hc4'.block g HG.out.2.2.2.2.1 HNP.out.2.1).trans HG.out.2.2.2.2.2.1
  obtain ⟨W5, hW5⟩ : ∃ W5, W5 = w4.setCell ⟨wb, 2, none⟩ (.int .i64 m) := ⟨_, rfl⟩
  have c5 : Chg (fun x => x = wb ∨ x = g) w4 W5 := by rw [hW5]; exact Chg.setCell (p := ⟨wb, 2, none⟩) (Chg.refl _ w4) (.inl (.inl rfl)) _
  have o5 : OnlyAt w4 W5 wb 2 := by rw [hW5]; exact OnlyAt.set (fun _ => ⟨rfl, rfl⟩) _
  have u2 : W5.cell? ⟨wb, 2, none⟩ = some (.int .i64 m) := by rw [hW5]; exact World.cell?_setCell_same _ _ _ v2
  have u3 : W5.cell? ⟨wb, 3, none⟩ = some kv := (o5 3 (by decide)).1.trans v3
  have uf : ∀ j, W5.frozen? ⟨wb, j, none⟩ = false := fun j => by rw [hW5, World.frozen?_setCell]; exact vf j
  have k5 : ∀ x, x < w4.heap.size → x ≠ wb → W5.heap[x]? = w4.heap[x]? := fun x _ hx => by rw [hW5]; exact Below.heap_setCell _ _ _ _ hx
  have mk0 : Mkd W5 3 1 (markI m) (.slice (some ⟨g, 0, none⟩) l2 cap) l2 0 := .inr ⟨g, cap, cur, rfl, (k5 g z2 hgwb).trans hgh4, HG.out.2.2.2.2.2.2, HG.out.2.2.2.1, fun k hk => absurd hk (Nat.not_lt_zero k)⟩
  have y5 : ∀ k (hk : k < T.length), W5.cell? ⟨g, k, none⟩ = some (.int .i64 T[k]) := fun k hk => (World.cell?_of_block (a := ⟨g, k, none⟩) (k5 g z2 hgwb)).trans (hc4.block.cell HNP.out.2.1 (HG.out.1 k hk))
  have t6 : W5.cell? ⟨bk, 6, none⟩ = some (.slice la ll lc) := (World.cell?_of_block (a := ⟨bk, 6, none⟩) (k5 bk z1 hbw)).trans b6
  have HC := hide (And.intro b2 (And.intro b3 (And.intro p1 b6)))
  have H5 := hide (And.intro c5 (And.intro o5 (And.intro u2 (And.intro u3 (And.intro uf (And.intro k5 (And.intro mk0 y5)))))))
  have HT6 := hide t6
  clear hPO hNT hc4 hc4' HI CP j2 j3 j6 p0 hpl hbl3 b2 b3 b0 p1 hwl3 c5 o5 u2 u3 uf k5 mk0 y5 v3 vf hgh4 t6
  go_wp2_with fail
  rw [← hW5]
  clear y7 y8 v2 vf2 z1 z2 z3 b6 hW5 hw1 hw3
  go_loopw [9, 10] (fun o i wr => o = .bool true ∧ ∃ j : Nat, j ≤ l2 ∧ i = .int .i64 j ∧ Chg (fun x => x = g) W5 wr ∧ Mkd wr 3 1 (markI m) (.slice (some ⟨g, 0, none⟩) l2 cap) l2 j ∧ ∀ k (hk : k < T.length), j ≤ k → wr.cell? ⟨g, k, none⟩ = some (.int .i64 T[k])) (fun _ i _ => l2 - (intOf i).toNat)
  case atStart => exact ⟨by simp, 0, Nat.zero_le _, rfl, Chg.refl _ _, H5.out.2.2.2.2.2.2.1, fun k hk _ => H5.out.2.2.2.2.2.2.2 k hk⟩
  case round =>
    obtain ⟨rfl, j, hj, rfl, hcg, hmk, hrest⟩ := hrel
    have n2 : wr.cell? ⟨wb, 2, none⟩ = some (.int .i64 m) := hcg.block.cell hgwb' H5.out.2.2.1
    have n6 : wr.cell? ⟨bk, 6, none⟩ = some (.slice la ll lc) := hcg.block.cell hgbk HT6.out
    have nw : wb < wr.heap.size := block_lt_of_cell n2
    have nb : bk < wr.heap.size := block_lt_of_cell n6
    have HCG := hide hcg
    have HMK := hide hmk
    have HRE := hide hrest
    clear hcg hmk hrest
    by_cases hjl : j < l2
    · have hji : (j : Int) < l2 := by omega
      have HJL := hide hjl
      by_cases hjt : j < ll
      · have hjt1 : (j : Int) < ll := by omega
        have hjt2 : ¬ (ll : Int) ≤ j := by omega
        have hjT : j < T.length := by rw [HLL.out]; exact hjt
        have g0 := HRE.out j hjT (Nat.le_refl _)
        have hLw : NumsO wr (.slice la ll lc) T := HT.out.moved fun b hb h0 hbl => by
          have h4 := HTS.out.2.2.1 b hb h0
          have h5 := HH.out
          have e1 := HCG.out.block b
          have e2 := H5.out.2.2.2.2.2.1 b
          have e3 := HPO.out.2.2.block b
          have e4 := HB03.out.block b hbl
          have q1 : b ≠ wb := fun e => by rw [e, h5.cw] at h4; omega
          have q2 : b ≠ g := by have := HGW.out; omega
          have q3 : d.pv.ownBlock ≠ some b := fun e => by
            have h6 := HD.out.cI b (.inr (.inr (.inr (.inr (.inl e)))))
            omega
          have r3 := HB03.out.size
          have r4 := HPO.out.2.2.size
          have r5 := H5.out.1.size
          rw [e1 (by omega) q2, e2 (by omega) q1, e3 (by omega) q3, e4]
        obtain ⟨la', lc', lb, loff, le, lcell⟩ := hLw
        injection le with le1 le2 le3
        obtain ⟨hla, l0⟩ := lcell j hjT
        rw [← le1] at hla
        obtain ⟨t, ht⟩ : ∃ t, t = T[j] := ⟨_, rfl⟩
        rw [← ht] at g0 l0
        have gl := block_lt_of_cell g0
        have lbl := block_lt_of_cell l0
        clear ht lcell le1 le2 le3
        subst hla
        clear HH HS HD HT HTS HDE HM HB03 HG HL HGW HRS HJ HV HBK HNP HPO HC H5 HT6
        go_wp2_with fail
        refine wp_region_quiet_below (by kernel_rfl) (by kernel_rfl) ?_
        repeat (quiet_step (fail))
        refine wpQuiet_nil ?_; intro wq hwq; replace hwq := below_of_regrown hwq; obtain ⟨hcq, hfq⟩ := bcell hwq; have hzq := hwq.size
        obtain ⟨f1, ⟨u, f2⟩, hmk'⟩ := HMK.out.put hwq HJL.out
        have n2q := cell_later hwq n2
        have nwq : wb < wq.heap.size := block_lt_of_cell n2q
        have ngq : g < wq.heap.size := block_lt_of_cell f2
        have HCN : Hid (Chg (fun x => x = g) W5 (wq.setCell ⟨g, j, none⟩ (.int .i64 (-(m : Int))))) := hide (Chg.setCell (p := ⟨g, j, none⟩) (HCG.out.trans (Chg.of_below hwq)) (.inl rfl) _)
        have HMN := hide hmk'
        have HRN : Hid (∀ k (hk : k < T.length), j + 1 ≤ k → (wq.setCell ⟨g, j, none⟩ (.int .i64 (-(m : Int)))).cell? ⟨g, k, none⟩ = some (.int .i64 T[k])) := hide fun k hk hjk => by
          rw [World.cell?_setCell_other _ _ _ _ (by intro e; cases e; omega)]
          exact cell_later hwq (HRE.out k hk (by omega))
        clear hwq hcq hfq hzq n2 n6 g0 l0 hmk' gl lbl nw nb
        go_wp2_with fail
        go_roundw
        case rel => exact ⟨by simp, j + 1, by omega, by go_num, HCN.out, HMN.out, HRN.out⟩
        case measure => simp [intOf]; omega
      · have hjt1 : (ll : Int) ≤ j := by omega
        have hjt2 : ¬ (j : Int) < ll := by omega
        have hdg : decide ((ll : Int) ≤ (j : Int)) = true := by simp [hjt1]
        obtain ⟨f1, ⟨u, f2⟩, -⟩ := HMK.out.put (Below.refl _ wr) HJL.out
        have ngq : g < wr.heap.size := block_lt_of_cell f2
        have HCN : Hid (∀ wq, Below wr.heap.size wr wq → Chg (fun x => x = g) W5 (wq.setCell ⟨g, j, none⟩ (.int .i64 (-(m : Int))))) := hide fun wq hwq => Chg.setCell (p := ⟨g, j, none⟩) (HCG.out.trans (Chg.of_below hwq)) (.inl rfl) _
        have HMN : Hid (∀ wq, Below wr.heap.size wr wq → Mkd (wq.setCell ⟨g, j, none⟩ (.int .i64 (-(m : Int)))) 3 1 (markI m) (.slice (some ⟨g, 0, none⟩) l2 cap) l2 (j + 1)) := hide fun wq hwq => (HMK.out.put hwq HJL.out).2.2
        have HRN : Hid (∀ k, k < T.length → j + 1 ≤ k → False) := hide fun k hk hjk => by
          rw [HLL.out] at hk
          omega
        clear HH HS HD HT HTS HDE HM HB03 HG HL HGW HRS HJ HV HBK HNP HPO HC H5 HT6 HCG HMK HRE HLL HJL
        go_wp2_with fail
        go_quiet (fail)
        go_wp2_with fail
        go_roundw
        case rel => exact ⟨by simp, j + 1, by omega, by go_num, HCN.out _ (by repeat (first | exact Below.refl _ _ | assumption | refine Below.drewN ?_ | refine Below.drew ?_ | refine Below.setCell ?_ (by first | exact Nat.le_refl _ | omega | (simp; done) | (simp; omega)) _ | refine Below.alloc ?_ (by first | exact Nat.le_refl _ | omega | (simp; done) | (simp; omega)) _)), HMN.out _ (by repeat (first | exact Below.refl _ _ | assumption | refine Below.drewN ?_ | refine Below.drew ?_ | refine Below.setCell ?_ (by first | exact Nat.le_refl _ | omega | (simp; done) | (simp; omega)) _ | refine Below.alloc ?_ (by first | exact Nat.le_refl _ | omega | (simp; done) | (simp; omega)) _)), fun k hk hjk => (HRN.out k hk hjk).elim⟩
        case measure => simp [intOf]; omega
    · have hji : ¬ (j : Int) < l2 := by omega
      have hje : j = l2 := by omega
      have hmk : ∀ k, k < l2 → wr.rangeAt g (k * 1) (markI m) := by
        rcases HMK.out with ⟨e, -⟩ | ⟨g', cap', cur', e, -, -, -, hf⟩
        · cases e
        · cases e
          rw [hje] at hf
          exact hf
      have c6 : Chg (fun x => x = wb ∨ x = g) w4 wr := H5.out.1.trans (HCG.out.mono fun x _ e => .inr e)
      have og : ∀ j, wr.cell? ⟨wb, j, none⟩ = W5.cell? ⟨wb, j, none⟩ ∧ wr.frozen? ⟨wb, j, none⟩ = W5.frozen? ⟨wb, j, none⟩ := fun j => OnlyAt.of_block (HCG.out.block wb (block_lt_of_cell H5.out.2.2.1) hgwb') j
      have o6 : OnlyAt w4 wr wb 2 := fun j hj => ⟨(og j).1.trans (H5.out.2.1 j hj).1, (og j).2.trans (H5.out.2.1 j hj).2⟩
      have f6 : ∀ j, wr.frozen? ⟨wb, j, none⟩ = false := fun j => (og j).2.trans (H5.out.2.2.2.2.1 j)
      have n3 : wr.cell? ⟨wb, 3, none⟩ = some kv := (og 3).1.trans H5.out.2.2.2.1
      -- what is kept lies where it lay
      have s3 := HB03.out.size
      have s4 := HPO.out.2.2.size
      have kvl : ∀ x, kv.ownBlock = some x → x < w.heap.size ∧ col x = 3 := fun x hx => ⟨HH.out.rK.lt hx, HH.out.cK x hx⟩
      have rk6 : RowIs wr 78 5 kv Ks.length (rowK Ks) := HH.out.rK.keep fun x hx => by
        obtain ⟨q1, q2⟩ := kvl x hx
        rw [c6.block x (by omega) (by
          rintro (e | e)
          · rw [e, HH.out.cw] at q2; omega
          · have := HGW.out; omega), HPO.out.2.2.block x (by omega) (fun e => by
          have := HD.out.cI x (.inr (.inr (.inr (.inr (.inl e)))))
          omega), HB03.out.block x q1]
      obtain ⟨g8, cap8, W7, hap, hown8, c8, hg8⟩ := append_kept1 (N := [keptI m (.slice (some ⟨g, 0, none⟩) l2 cap)]) (A := #[.int .i64 m, .slice none 0 0, .slice none 0 0, .slice none 0 0, .slice (some ⟨g, 0, none⟩) l2 cap]) rk6 HTS.out.2.2.2.2 (by omega) rfl rfl (by simp [rowK, keptI, KeptD.cells, Value.oneCell'])
      have hap8 := xApp_run hap
      obtain ⟨W8, hW8⟩ : ∃ W8, W8 = W7.setCell ⟨wb, 3, none⟩ (.slice (some ⟨g8, 0, none⟩) (Ks.length + 1) cap8) := ⟨_, rfl⟩
      have hkw : kv.ownBlock ≠ some wb := fun e => by have := (kvl _ e).2; rw [HH.out.cw] at this; omega
      have hkb : kv.ownBlock ≠ some bk := fun e => by have := (kvl _ e).1; have := HBK.out; omega
      have hkp : kv.ownBlock ≠ some d.p := fun e => by have := (kvl _ e).2; rw [HD.out.cp] at this; omega
      have hpw : d.p ≠ wb := fun e => by have := HD.out.cp; rw [e, HH.out.cw] at this; omega
      have hpg : d.p ≠ g := fun e => by have q : d.p < w.heap.size := block_lt_of_cell HD.out.c0; have := HGW.out; omega
      have e8 : W7.cell? ⟨wb, 3, none⟩ = some kv := c8.block.cell hkw n3
      have hwl8 : wb < W7.heap.size := block_lt_of_cell e8
      have f8 : W7.frozen? ⟨wb, 3, none⟩ = false := by rw [(OnlyAt.of_block (c8.block wb nw hkw) 3).2]; exact f6 3
      have k6 : ∀ {x j : Nat} {v : Value}, x ≠ wb → x ≠ g → kv.ownBlock ≠ some x → w4.cell? ⟨x, j, none⟩ = some v → W8.cell? ⟨x, j, none⟩ = some v := fun h1 h2 h3 hv => by
        rw [hW8, World.cell?_setCell_other _ _ _ _ (by intro e; cases e; exact h1 rfl)]
        exact c8.block.cell h3 (c6.block.cell (by rintro (e | e); exact h1 e; exact h2 e) hv)
      have x2 := k6 hbw hgbk hkb HC.out.1
      have x3 := k6 hbw hgbk hkb HC.out.2.1
      have x6 := k6 hbw hgbk hkb HC.out.2.2.2
      have xp := k6 hpw hpg hkp HC.out.2.2.1
      have xb : bk < W8.heap.size := block_lt_of_cell x6
      have xpl : d.p < W8.heap.size := block_lt_of_cell xp
      have FIN : (XSw W8 d.y d.x ∧ ∀ b, b < w.heap.size → col b = 4 → W8.heap[b]? = w.heap[b]?) ∧ ∀ W9, XPorted d.y d.x oN oM T W8 (portRes d.x.P oN oM T) W9 → ∃ kv' Ks' col' d', Ks'.length = Ks.length + 1 ∧ LW W9 wb tv sv kv' (n + 1) Ts Ks' col' ∧ LS W9 sv (Ss.set i d') col' M ∧ (d.Plain → d'.Plain) ∧ Left w W9 col col' := by
        have hde := HDE.out
        subst hde
        have hm := HM.out
        have hl := HL.out
        have hts := HTS.out
        have hll := HLL.out
        exact lport_fin HH.out HS.out hi hts.2.1 hm hts.2.2.2.1 (by omega) HB03.out HGW.out HG.out.2.2.2.2.1 HPO.out.1 HPO.out.2.1 HPO.out.2.2 c6 o6 n2 (f6 2) hmk c8 (kv' := .slice (some ⟨g8, 0, none⟩) (Ks.length + 1) cap8) (fun x hx => by cases hx; exact hg8) hown8 hW8
      have hx8 : XSw W8.drew d.y d.x := FIN.1.1.below ((Below.refl _ W8).drew)
      have hL8 : NumsO W8.drew (.slice la ll lc) T := HT.out.moved fun b hb h0 hbl => FIN.1.2 b hbl (HTS.out.2.2.1 b hb h0)
      have hePx : d.P = d.x.P := HD.out.eP
      have CX : Hid (Calls Tryz.prog 70 #[.pointer (some ⟨d.y, 0, none⟩), .int .i64 oN, .int .i64 oM, .slice la ll lc] W8.drew fun e W => e = .returned (.int .i64 rs) ∧ (∃ kv' Ks' col' d', Ks'.length = Ks.length + 1 ∧ LW W wb tv sv kv' (n + 1) Ts Ks' col' ∧ LS W sv (Ss.set i d') col' M ∧ (d.Plain → d'.Plain) ∧ Left w W col col') ∧ W.cell? ⟨bk, 2, none⟩ = some (.int .i64 oN) ∧ W.cell? ⟨bk, 3, none⟩ = some (.int .i64 oM) ∧ W.cell? ⟨bk, 6, none⟩ = some (.slice la ll lc) ∧ W.cell? ⟨d.p, 1, none⟩ = some (.pointer (some ⟨d.y, 0, none⟩))) := hide (by
        have hxv : ∀ b, d.x.pv.ownBlock = some b → b < w.heap.size ∧ col b = 6 * i + 13 := fun b hb => ⟨HD.out.ref.lts (.inr (.inl hb)), HD.out.cX b (.inr (.inl hb))⟩
        have y1 : d.x.pv.ownBlock ≠ some bk := fun e => by have := (hxv _ e).1; have := HBK.out; omega
        have y2 : d.x.pv.ownBlock ≠ some d.p := fun e => by have := (hxv _ e).2; rw [HD.out.cp] at this; omega
        have hll := HLL.out
        subst hll
        refine (xPort_any d.y d.x oN oM T la lc W8.drew hx8 hL8 (by have := HTS.out.2.1; omega) HTS.out.1 HD.out.n8).mono ?_
        rintro e W ⟨he, hX⟩
        have hcX : Chg (fun b => d.x.pv.ownBlock = some b) W8.drew W := by
          rcases hX with ⟨q1, q2⟩ | ⟨q1, q2, tv', q3, q4, q5⟩
          · exact Chg.of_below q2
          · exact q4
        refine ⟨by rw [he, HRS.out, hePx], FIN.2 W ?_, hcX.block.cell y1 x2, hcX.block.cell y1 x3, hcX.block.cell y1 x6, hcX.block.cell y2 xp⟩
        rcases hX with ⟨q1, q2⟩ | ⟨q1, q2, tv', q3, q4, q5⟩
        · exact .inl ⟨q1, ((Below.refl _ W8).drew).trans q2⟩
        · exact .inr ⟨q1, q2, tv', q3, (Chg.of_below ((Below.refl _ W8).drew)).trans q4, q5⟩)
      have CN := hide fun (W : World) => lnum_any rs W
      clear HMK HRE HCG hmk c6 og o6 f6 s3 s4 kvl rk6 hap hown8 c8 hg8 hkb hkp hpw hpg k6 FIN hx8 hL8 hePx HH HS HD HT HTS HDE HLL HM HB03 HG HL HGW HRS HJ HV HBK HNP HPO HC H5 HT6 hji hje hj
      go_wp2_with fail
      go_region
      all_goals
        rw [← hW8]
        clear hap8 e8 f8 hwl8 hW8 n2 n3 n6 nw nb
        go_wp2_with fail
        go_region_held3 (fun w' => w'.cell? ⟨bk, 2, none⟩ = some (.int .i64 oN) ∧ w'.cell? ⟨bk, 3, none⟩ = some (.int .i64 oM) ∧ w'.cell? ⟨bk, 6, none⟩ = some (.slice la ll lc) ∧ w'.cell? ⟨d.p, 1, none⟩ = some (.pointer (some ⟨d.y, 0, none⟩))) (go_keep)
          (first | (go_at_call 25; refine (CN.out _).mono ?_; rintro e w' ⟨rfl, hww⟩; rw [hww]; clear hww w') | (go_at_call 70; refine CX.out.mono ?_; rintro e W ⟨rfl, hX, c2, c3, c6, cp⟩; have HF := hide hX; clear hX))
        go_wp2
        go_ret
        exact ⟨rfl, HF.out⟩
end Go.Proofs.YtnjalelblbjfiaaGreatDoor

namespace Go.Proofs.YtnjalelblbjfiaaGreatDoor
open Go.RowKit
open Go.Sort (grow)
attribute [local go_sem] Oper.semAt_some cell?_regrown
attribute [local go_sem ↓ high] xLoadS_fold

/-- A step's list of numbers, which nobody changes. -/
def LOk (w : World) (col : Nat → Nat) (la : Option Addr) (ll lc : Nat) (T : List Int) : Prop := NumsO w (.slice la ll lc) T ∧ ll ≤ lc ∧ T.length ≤ 100000000 ∧ (∀ t ∈ T, (Lit.int .i64 t).wf = true) ∧ ∀ b, (Value.slice la ll lc).ownBlock = some b → 0 < T.length → col b = 4
theorem RowIs.sws {w : World} {tv : Value} {Ts : List SwD} (h : RowIs w 46 1 tv Ts.length (Ts.map fun d => .pointer (some ⟨d.p, 0, none⟩))) : ∃ a cap g, tv = .slice a Ts.length cap ∧ ∀ k (hk : k < Ts.length), a = some ⟨g, 0, none⟩ ∧ w.cell? ⟨g, k, none⟩ = some (.pointer (some ⟨Ts[k].p, 0, none⟩)) := by
  rcases h.1.2 with ⟨e, e2⟩ | ⟨g, cap, cur, e, _⟩
  · exact ⟨none, 0, 0, by rw [e, e2], fun k hk => by omega⟩
  · refine ⟨some ⟨g, 0, none⟩, cap, g, e, fun k hk => ⟨rfl, ?_⟩⟩
    have := h.1.cells (g := g) (by rw [e]; rfl) k (.pointer (some ⟨Ts[k].p, 0, none⟩)) (by rw [List.getElem?_map, List.getElem?_eq_getElem hk]; rfl)
    rwa [Addr.add_mid, Nat.zero_add] at this
theorem plain_set {Ss : List SwD} {i : Nat} {d : SwD} (h : ∀ d ∈ Ss, d.Plain) (hd : d.Plain) : ∀ z ∈ Ss.set i d, z.Plain := fun z hz => by
  rcases List.mem_or_eq_of_mem_set hz with e | e
  · exact h z e
  · rw [e]; exact hd

set_option maxRecDepth 100000 in
set_option maxHeartbeats 4000000 in
theorem lstep_none (w : World) (wb N : Nat) (col : Nat → Nat) (ki oa oN oM oK : Int) (oS : ByteArray) (la : Option Addr) (ll lc : Nat) (r : Rl) (x0 x1 x2 x3 x4 : Int) (h : BS w wb N col) (hki : 6 < ki) (c1 : w.cell? ⟨wb, 1, none⟩ = some (.slice none 0 0)) :
    Calls Tryz.prog 10 #[.pointer (some ⟨wb, 0, none⟩), .agg #[.int .i64 ki, .int .i64 oa, .int .i64 oN, .int .i64 oM, .int .i64 oK, .string oS, .slice la ll lc, .int .i64 r.id, .int .i64 r.pr, .int .i64 r.k0, .int .i64 r.v0, .int .i64 r.m0, .int .i64 r.k1, .int .i64 r.v1, .int .i64 r.m1, .int .i64 r.k2, .int .i64 r.v2, .int .i64 r.m2, .int .i64 r.k3, .int .i64 r.v3, .int .i64 r.m3, .int .i64 r.k4, .int .i64 r.v4, .int .i64 r.m4, .int .i64 r.ac, .int .i64 r.po, .int .i64 x0, .int .i64 x1, .int .i64 x2, .int .i64 x3, .int .i64 x4]] w fun e W => e = .returned (.bool true) ∧ ∃ col', BS W wb (N + 1) col' ∧ Left w W col col' := by
  have hwl : wb < w.heap.size := block_lt_of_cell c1
  have hb : Below w.heap.size w (w.alloc (.cells #[.int .i64 ki, .int .i64 oa, .int .i64 oN, .int .i64 oM, .int .i64 oK, .string oS, .slice la ll lc, .int .i64 r.id, .int .i64 r.pr, .int .i64 r.k0, .int .i64 r.v0, .int .i64 r.m0, .int .i64 r.k1, .int .i64 r.v1, .int .i64 r.m1, .int .i64 r.k2, .int .i64 r.v2, .int .i64 r.m2, .int .i64 r.k3, .int .i64 r.v3, .int .i64 r.m3, .int .i64 r.k4, .int .i64 r.v4, .int .i64 r.m4, .int .i64 r.ac, .int .i64 r.po, .int .i64 x0, .int .i64 x1, .int .i64 x2, .int .i64 x3, .int .i64 x4] 41)) := (Below.refl _ w).alloc (Nat.le_refl _) _
  have HF : Hid (∃ col', BS (w.alloc (.cells #[.int .i64 ki, .int .i64 oa, .int .i64 oN, .int .i64 oM, .int .i64 oK, .string oS, .slice la ll lc, .int .i64 r.id, .int .i64 r.pr, .int .i64 r.k0, .int .i64 r.v0, .int .i64 r.m0, .int .i64 r.k1, .int .i64 r.v1, .int .i64 r.m1, .int .i64 r.k2, .int .i64 r.v2, .int .i64 r.m2, .int .i64 r.k3, .int .i64 r.v3, .int .i64 r.m3, .int .i64 r.k4, .int .i64 r.v4, .int .i64 r.m4, .int .i64 r.ac, .int .i64 r.po, .int .i64 x0, .int .i64 x1, .int .i64 x2, .int .i64 x3, .int .i64 x4] 41)) wb (N + 1) col' ∧ Left w (w.alloc (.cells #[.int .i64 ki, .int .i64 oa, .int .i64 oN, .int .i64 oM, .int .i64 oK, .string oS, .slice la ll lc, .int .i64 r.id, .int .i64 r.pr, .int .i64 r.k0, .int .i64 r.v0, .int .i64 r.m0, .int .i64 r.k1, .int .i64 r.v1, .int .i64 r.m1, .int .i64 r.k2, .int .i64 r.v2, .int .i64 r.m2, .int .i64 r.k3, .int .i64 r.v3, .int .i64 r.m3, .int .i64 r.k4, .int .i64 r.v4, .int .i64 r.m4, .int .i64 r.ac, .int .i64 r.po, .int .i64 x0, .int .i64 x1, .int .i64 x2, .int .i64 x3, .int .i64 x4] 41)) col col') := hide ⟨col, (h.still hb).succ, Left.of_below hb⟩
  have k6 : ¬ ki < 6 := by omega
  have k7 : ¬ ki = 6 := by omega
  clear h hb hki
  go_enter Tryz.func10, Tryz.ntmps10
  go_wp2
  go_ret
  exact ⟨rfl, HF.out⟩

set_option maxRecDepth 100000 in
set_option maxHeartbeats 4000000 in
theorem lstep_sw (w : World) (wb N : Nat) (col : Nat → Nat) (ki oa oN oM oK : Int) (oS : ByteArray) (la : Option Addr) (ll lc : Nat) (r : Rl) (x0 x1 x2 x3 x4 : Int) (T : List Int) (h : BS w wb N col) (hL : LOk w col la ll lc T) (hoa : -9223372036854775808 ≤ oa ∧ oa ≤ 9223372036854775807) (hN : N ≤ 100000000) (hki : ki = 7 ∨ ki = 13 ∨ ki = 14 ∨ ki = 15) :
    Calls Tryz.prog 10 #[.pointer (some ⟨wb, 0, none⟩), .agg #[.int .i64 ki, .int .i64 oa, .int .i64 oN, .int .i64 oM, .int .i64 oK, .string oS, .slice la ll lc, .int .i64 r.id, .int .i64 r.pr, .int .i64 r.k0, .int .i64 r.v0, .int .i64 r.m0, .int .i64 r.k1, .int .i64 r.v1, .int .i64 r.m1, .int .i64 r.k2, .int .i64 r.v2, .int .i64 r.m2, .int .i64 r.k3, .int .i64 r.v3, .int .i64 r.m3, .int .i64 r.k4, .int .i64 r.v4, .int .i64 r.m4, .int .i64 r.ac, .int .i64 r.po, .int .i64 x0, .int .i64 x1, .int .i64 x2, .int .i64 x3, .int .i64 x4]] w fun e W => e = .returned (.bool true) ∧ ∃ col', BS W wb (N + 1) col' ∧ Left w W col col' := by
  have HBS := h
  obtain ⟨tv, sv, kv, n, Ts, Ss, Ks, h, hs, hp, h1, h2, h3⟩ := h
  by_cases hT : Ss.length = 0
  · have c1 := h.c1
    rw [hs.row.2 hT] at c1
    exact lstep_none w wb N col ki oa oN oM oK oS la ll lc r x0 x1 x2 x3 x4 HBS (by omega) c1
  have hT0 : 0 < Ss.length := by omega
  clear HBS hT
  obtain ⟨i, hi, hpk⟩ := pk_ex oa hT0
  obtain ⟨ds, hus, hds⟩ := underStep
  obtain ⟨W1, hW1⟩ : ∃ W1, W1 = w.alloc (.cells #[.int .i64 ki, .int .i64 oa, .int .i64 oN, .int .i64 oM, .int .i64 oK, .string oS, .slice la ll lc, .int .i64 r.id, .int .i64 r.pr, .int .i64 r.k0, .int .i64 r.v0, .int .i64 r.m0, .int .i64 r.k1, .int .i64 r.v1, .int .i64 r.m1, .int .i64 r.k2, .int .i64 r.v2, .int .i64 r.m2, .int .i64 r.k3, .int .i64 r.v3, .int .i64 r.m3, .int .i64 r.k4, .int .i64 r.v4, .int .i64 r.m4, .int .i64 r.ac, .int .i64 r.po, .int .i64 x0, .int .i64 x1, .int .i64 x2, .int .i64 x3, .int .i64 x4] 41) := ⟨_, rfl⟩
  obtain ⟨bk, hbk⟩ : ∃ bk, bk = w.heap.size := ⟨_, rfl⟩
  have hb1 : Below w.heap.size w W1 := by rw [hW1]; exact (Below.refl _ w).alloc (Nat.le_refl _) _
  have hk : W1.rangeAt bk 0 [.int .i64 ki, .int .i64 oa, .int .i64 oN, .int .i64 oM, .int .i64 oK, .string oS, .slice la ll lc, .int .i64 r.id, .int .i64 r.pr, .int .i64 r.k0, .int .i64 r.v0, .int .i64 r.m0, .int .i64 r.k1, .int .i64 r.v1, .int .i64 r.m1, .int .i64 r.k2, .int .i64 r.v2, .int .i64 r.m2, .int .i64 r.k3, .int .i64 r.v3, .int .i64 r.m3, .int .i64 r.k4, .int .i64 r.v4, .int .i64 r.m4, .int .i64 r.ac, .int .i64 r.po, .int .i64 x0, .int .i64 x1, .int .i64 x2, .int .i64 x3, .int .i64 x4] := by rw [hW1, hbk]; exact range_new _ _ _
  obtain ⟨ta, tc, tg, htv, hrow⟩ := hs.row.sws
  have hwc := cell_later hb1 h.c1
  have hwl : wb < w.heap.size := block_lt_of_cell h.c0
  have hwl1 : wb < W1.heap.size := block_lt_of_cell hwc
  rw [htv] at hwc
  obtain ⟨hta, hcell⟩ := hrow i hi
  have hcell1 := cell_later hb1 hcell
  have htg1 : tg < W1.heap.size := block_lt_of_cell hcell1
  have k0 : W1.cell? ⟨bk, 0, none⟩ = some (.int .i64 ki) := hk 0 _ rfl
  have k1 : W1.cell? ⟨bk, 1, none⟩ = some (.int .i64 oa) := hk 1 _ rfl
  have hbl : bk < W1.heap.size := block_lt_of_cell k0
  have hT1 : ¬ (Ss.length : Int) = 0 := by omega
  have hii : (i : Int) < Ss.length := by omega
  have HTV := hide htv
  subst hta
  have CPK : Hid (∀ (d : Nat) (os : Array Obj), Calls Tryz.prog 26 #[.int .i64 oa, .int .i64 Ss.length] (grow (redrawn W1 d) os) fun e w' => e = .returned (.int .i64 i) ∧ Below (grow (redrawn W1 d) os).heap.size (grow (redrawn W1 d) os) w') := hide fun d os => (lpick_at oa Ss.length i (grow (redrawn W1 d) os) hoa (by omega) hpk hi).mono fun e w' hh => And.intro hh.1 (by rw [hh.2]; exact Below.refl _ _)
  have HH := hide h
  have HS := hide hs
  have HP := hide hp
  have HL := hide hL
  have HB1 := hide hb1
  have HK := hide hk
  have HN := hide (And.intro h1 (And.intro h2 (And.intro h3 hN)))
  have h00 := h.c1
  rw [htv] at h00
  obtain ⟨D, hD⟩ : ∃ D, D = Ss[i] := ⟨_, rfl⟩
  rw [← hD] at hcell1
  have HD := hide hD
  have HKI := hide hki
  have k6 : ¬ ki < 6 := by omega
  have k7 : ¬ ki = 6 := by omega
  clear hD htv hrow hcell h hs hp hL hb1 hk hpk hoa h1 h2 h3 hN hki hT0
  go_enter Tryz.func10, Tryz.ntmps10
  go_wp2_with fail
  rw [← hW1, ← hbk]
  have HBK := hide hbk
  clear hW1 h00 hbk
  refine wp_region_quiet_below (by kernel_rfl) (by kernel_rfl) ?_
  repeat (quiet_step (exact Calls.regrown_of (CPK.out _ _)))
  refine wpQuiet_nil ?_; intro wq hwq; replace hwq := below_of_regrown hwq; obtain ⟨hcq, hfq⟩ := bcell hwq; have hzq := hwq.size
  have j0 := cell_later hwq k0
  have hbq : bk < wq.heap.size := block_lt_of_cell j0
  have hbw := HB1.out.trans (hwq.mono HB1.out.size)
  have HBQ := hide hbw
  have HKQ := hide (rangeAt_below HK.out hwq)
  have HHQ := hide (HH.out.still hbw)
  have HSQ := hide (HS.out.still hbw)
  clear hwq hcq hfq hzq hwc hwl1 hcell1 htg1 k0 k1 hbl CPK HB1 HK hbw k6 k7
  have hn := HN.out
  rcases HKI.out with rfl | rfl | rfl | rfl
  · have hld : (xLoadS (.pointer (some ⟨bk, 0, none⟩))).run Tryz.prog wq = .ok (.agg #[.int .i64 7, .int .i64 oa, .int .i64 oN, .int .i64 oM, .int .i64 oK, .string oS, .slice la ll lc, .int .i64 r.id, .int .i64 r.pr, .int .i64 r.k0, .int .i64 r.v0, .int .i64 r.m0, .int .i64 r.k1, .int .i64 r.v1, .int .i64 r.m1, .int .i64 r.k2, .int .i64 r.v2, .int .i64 r.m2, .int .i64 r.k3, .int .i64 r.v3, .int .i64 r.m3, .int .i64 r.k4, .int .i64 r.v4, .int .i64 r.m4, .int .i64 r.ac, .int .i64 r.po, .int .i64 x0, .int .i64 x1, .int .i64 x2, .int .i64 x3, .int .i64 x4]) wq := run_loadAt_mid _ bk 0 41 [.int .i64 7, .int .i64 oa, .int .i64 oN, .int .i64 oM, .int .i64 oK, .string oS, .slice la ll lc, .int .i64 r.id, .int .i64 r.pr, .int .i64 r.k0, .int .i64 r.v0, .int .i64 r.m0, .int .i64 r.k1, .int .i64 r.v1, .int .i64 r.m1, .int .i64 r.k2, .int .i64 r.v2, .int .i64 r.m2, .int .i64 r.k3, .int .i64 r.v3, .int .i64 r.m3, .int .i64 r.k4, .int .i64 r.v4, .int .i64 r.m4, .int .i64 r.ac, .int .i64 r.po, .int .i64 x0, .int .i64 x1, .int .i64 x2, .int .i64 x3, .int .i64 x4] ds HKQ.out hus hds sizeStep
    have CB : Hid (Calls Tryz.prog 27 #[.pointer (some ⟨wb, 0, none⟩), .pointer (some ⟨D.p, 0, none⟩), .agg #[.int .i64 7, .int .i64 oa, .int .i64 oN, .int .i64 oM, .int .i64 oK, .string oS, .slice la ll lc, .int .i64 r.id, .int .i64 r.pr, .int .i64 r.k0, .int .i64 r.v0, .int .i64 r.m0, .int .i64 r.k1, .int .i64 r.v1, .int .i64 r.m1, .int .i64 r.k2, .int .i64 r.v2, .int .i64 r.m2, .int .i64 r.k3, .int .i64 r.v3, .int .i64 r.m3, .int .i64 r.k4, .int .i64 r.v4, .int .i64 r.m4, .int .i64 r.ac, .int .i64 r.po, .int .i64 x0, .int .i64 x1, .int .i64 x2, .int .i64 x3, .int .i64 x4]] wq fun e W => e = .returned (.bool true) ∧ ∃ col', BS W wb (N + 1) col' ∧ Left w W col col') := hide (by
      rw [HD.out]
      obtain ⟨l1, l2, l3, l4, l5⟩ := HL.out
      refine (lport_any wq wb i tv sv kv n Ts Ss Ks col ((N : Int) * 1000000) 7 oa oN oM oK oS la ll lc r x0 x1 x2 x3 x4 T HHQ.out HSQ.out hi (l1.below HBQ.out) l2 l3 l4 l5 (by omega) (by omega)).mono ?_
      rintro e W ⟨he, kv', Ks', col', d', q1, q2, q3, q4, q5⟩
      exact ⟨he, col', ⟨tv, sv, kv', n + 1, Ts, _, Ks', q2, q3.later (by omega), plain_set HP.out (q4 (HP.out _ (List.getElem_mem hi))), by omega, by omega, by rw [List.length_set]; omega⟩, q5.under HBQ.out⟩)
    clear HKQ HH HS HP HL HN HHQ HSQ HBQ HD HKI HBK HTV hn
    go_wp2_with fail
    refine CB.out.mono ?_
    rintro e W ⟨rfl, hb⟩
    have HF := hide hb
    clear hb CB hld
    go_wp2
    go_ret
    exact ⟨rfl, HF.out⟩
  · have hld : (xLoadS (.pointer (some ⟨bk, 0, none⟩))).run Tryz.prog wq = .ok (.agg #[.int .i64 13, .int .i64 oa, .int .i64 oN, .int .i64 oM, .int .i64 oK, .string oS, .slice la ll lc, .int .i64 r.id, .int .i64 r.pr, .int .i64 r.k0, .int .i64 r.v0, .int .i64 r.m0, .int .i64 r.k1, .int .i64 r.v1, .int .i64 r.m1, .int .i64 r.k2, .int .i64 r.v2, .int .i64 r.m2, .int .i64 r.k3, .int .i64 r.v3, .int .i64 r.m3, .int .i64 r.k4, .int .i64 r.v4, .int .i64 r.m4, .int .i64 r.ac, .int .i64 r.po, .int .i64 x0, .int .i64 x1, .int .i64 x2, .int .i64 x3, .int .i64 x4]) wq := run_loadAt_mid _ bk 0 41 [.int .i64 13, .int .i64 oa, .int .i64 oN, .int .i64 oM, .int .i64 oK, .string oS, .slice la ll lc, .int .i64 r.id, .int .i64 r.pr, .int .i64 r.k0, .int .i64 r.v0, .int .i64 r.m0, .int .i64 r.k1, .int .i64 r.v1, .int .i64 r.m1, .int .i64 r.k2, .int .i64 r.v2, .int .i64 r.m2, .int .i64 r.k3, .int .i64 r.v3, .int .i64 r.m3, .int .i64 r.k4, .int .i64 r.v4, .int .i64 r.m4, .int .i64 r.ac, .int .i64 r.po, .int .i64 x0, .int .i64 x1, .int .i64 x2, .int .i64 x3, .int .i64 x4] ds HKQ.out hus hds sizeStep
    have CB : Hid (Calls Tryz.prog 29 #[.pointer (some ⟨D.p, 0, none⟩), .agg #[.int .i64 13, .int .i64 oa, .int .i64 oN, .int .i64 oM, .int .i64 oK, .string oS, .slice la ll lc, .int .i64 r.id, .int .i64 r.pr, .int .i64 r.k0, .int .i64 r.v0, .int .i64 r.m0, .int .i64 r.k1, .int .i64 r.v1, .int .i64 r.m1, .int .i64 r.k2, .int .i64 r.v2, .int .i64 r.m2, .int .i64 r.k3, .int .i64 r.v3, .int .i64 r.m3, .int .i64 r.k4, .int .i64 r.v4, .int .i64 r.m4, .int .i64 r.ac, .int .i64 r.po, .int .i64 x0, .int .i64 x1, .int .i64 x2, .int .i64 x3, .int .i64 x4]] wq fun e W => e = .returned (.bool true) ∧ ∃ col', BS W wb (N + 1) col' ∧ Left w W col col') := hide (by
      rw [HD.out]
      refine (lsets_tick wq wb i tv sv kv n Ts Ss Ks col ((N : Int) * 1000000) oa oN oM oK oS la ll lc r x0 x1 x2 x3 x4 HHQ.out HSQ.out hi (by omega)).mono ?_
      rintro e W ⟨he, col', d', q2, q3, q4, q5⟩
      exact ⟨he, col', ⟨tv, sv, kv, n, Ts, _, Ks, q2, q3.later (by omega), plain_set HP.out (q4 (HP.out _ (List.getElem_mem hi))), by omega, by omega, by rw [List.length_set]; omega⟩, q5.under HBQ.out⟩)
    clear HKQ HH HS HP HL HN HHQ HSQ HBQ HD HKI HBK HTV hn
    go_wp2_with fail
    refine CB.out.mono ?_
    rintro e W ⟨rfl, hb⟩
    have HF := hide hb
    clear hb CB hld
    go_wp2
    go_ret
    exact ⟨rfl, HF.out⟩
  · have j2 : wq.cell? ⟨bk, 2, none⟩ = some (.int .i64 oN) := HKQ.out 2 _ rfl
    have j5 : wq.cell? ⟨bk, 5, none⟩ = some (.string oS) := HKQ.out 5 _ rfl
    have CB : Hid (Calls Tryz.prog 28 #[.pointer (some ⟨wb, 0, none⟩), .pointer (some ⟨D.p, 0, none⟩), .int .i64 oN, .string oS] wq fun e W => e = .returned (.bool true) ∧ ∃ col', BS W wb (N + 1) col' ∧ Left w W col col') := hide (by
      rw [HD.out]
      refine (lframe_any wq wb i tv sv kv n Ts Ss Ks col ((N : Int) * 1000000) oN oS HHQ.out HSQ.out hi (HP.out _ (List.getElem_mem hi)) (by omega) (by omega)).mono ?_
      rintro e W ⟨he, kv', Ks', col', d', q1, q2, q3, q4, q5⟩
      exact ⟨he, col', ⟨tv, sv, kv', n + 1, Ts, _, Ks', q2, q3.later (by omega), plain_set HP.out q4, by omega, by omega, by rw [List.length_set]; omega⟩, q5.under HBQ.out⟩)
    clear HKQ HH HS HP HL HN HHQ HSQ HBQ HD HKI HBK HTV hn
    go_wp2_with fail
    refine CB.out.mono ?_
    rintro e W ⟨rfl, hb⟩
    have HF := hide hb
    clear hb CB
    go_wp2
    go_ret
    exact ⟨rfl, HF.out⟩
  · have CB : Hid (Calls Tryz.prog 13 #[.pointer (some ⟨wb, 0, none⟩), .pointer (some ⟨D.p, 0, none⟩)] wq fun e W => e = .returned (.bool true) ∧ ∃ col', BS W wb (N + 1) col' ∧ Left w W col col') := hide (by
      rw [HD.out]
      refine (lknown_any wq wb i tv sv kv n Ts Ss Ks col ((N : Int) * 1000000) HHQ.out HSQ.out hi (by omega) (by omega) (by omega)).mono ?_
      rintro e W ⟨he, kv', Ks', col', q1, q2, q3, q5⟩
      exact ⟨he, col', ⟨tv, sv, kv', n + 1, Ts, _, Ks', q2, q3.later (by omega), HP.out, by omega, by omega, by omega⟩, q5.under HBQ.out⟩)
    clear HKQ HH HS HP HL HN HHQ HSQ HBQ HD HKI HBK HTV hn
    go_wp2_with fail
    refine CB.out.mono ?_
    rintro e W ⟨rfl, hb⟩
    have HF := hide hb
    clear hb CB
    go_wp2
    go_ret
    exact ⟨rfl, HF.out⟩
end Go.Proofs.YtnjalelblbjfiaaGreatDoor
