import Derived.Test.YtnjalelblbjfiaaGreatDoorP44
import Derived.Test.YtnjalelblbjfiaaGreatDoorP45
import Derived.BigQuiet
import Derived.Test.YtnjalelblbjfiaaGreatDoorP17
import Derived.Deep.RegionHeld3
namespace Go.Proofs.YtnjalelblbjfiaaGreatDoor
open Go.RowKit

section
variable {w W : World} {d : SwD} {X : Nat → Prop}
/-- The program's switch when its ports have turned, and things beside it. -/
theorem SwD.Imp.ported' (h : d.Imp w) (hn : 0 < d.P.length) (hc : Chg X w W) (hX : ∀ x, X x → x < w.heap.size → d.pv.ownBlock = some x ∨ (Far w x ∧ ¬ d.mine x ∧ x ≠ 1)) {P' : List Prt} {Q' : List (Int × Value)} (hp : PortsO W d.pv P' Q') : SwD.Imp W { d with P := P', Q := Q' } := by
  have hB := fun b (hb : d.pv.ownBlock = some b) => h.pbeside hn hb
  have no : ∀ b, (d.mine b ∨ b = 1) → (d.pv.ownBlock = some b → False) → ¬ X b := fun b hm hnk hx => by
    have hbl : b < w.heap.size := hm.elim h.lt fun e => by rw [e]; exact means_lt h.p.hm
    rcases hX b hx hbl with e | ⟨_, e, e1⟩
    · exact hnk e
    · exact hm.elim e e1
  have ns : ¬ X d.s := no _ (.inl (.inl rfl)) fun e => (hB _ e).1 rfl
  have nk : ¬ X d.k := no _ (.inl (.inr (.inl rfl))) fun e => (hB _ e).2.1 rfl
  have nm : ∀ b, KX d.m d.sv b → ¬ X b := fun b hb => no b (.inl (by
    rcases hb with e | e
    · exact .inr (.inr (.inl e))
    · exact .inr (.inr (.inr (.inl e))))) fun e => (hB _ e).2.2.1 hb
  have n1 : ¬ X 1 := no _ (.inr rfl) fun e => (hB _ e).2.2.2.2.2.2.2.2.2.2 rfl
  have nf : ¬ X d.fm := no _ (.inl (.inr (.inr (.inr (.inr (.inr (.inr (.inl rfl)))))))) fun e => (hB _ e).2.2.2.1 rfl
  have nfs : ∀ g, d.fsv.ownBlock = some g → ¬ X g := fun g hg => no _ (.inl (.inr (.inr (.inr (.inr (.inr (.inr (.inr (.inl hg))))))))) fun e => (hB _ e).2.2.2.2.1 hg
  have nv : ¬ X d.vb := no _ (.inl (.inr (.inr (.inr (.inr (.inr (.inr (.inr (.inr (.inl rfl)))))))))) fun e => (hB _ e).2.2.2.2.2.1 rfl
  have nF : ∀ b, d.F b → ¬ X b := fun b hF => no _ (.inl (.inr (.inr (.inr (.inr (.inr (.inr (.inr (.inr (.inr (.inl hF))))))))))) fun e => (hB _ e).2.2.2.2.2.2.1 hF
  have nr : ¬ X d.rb := no _ (.inl (.inr (.inr (.inr (.inr (.inr (.inr (.inr (.inr (.inr (.inr (.inl rfl)))))))))))) fun e => (hB _ e).2.2.2.2.2.2.2.1 rfl
  have nh : ¬ X d.hb := no _ (.inl (.inr (.inr (.inr (.inr (.inr (.inr (.inr (.inr (.inr (.inr (.inr (.inl rfl))))))))))))) fun e => (hB _ e).2.2.2.2.2.2.2.2.1 rfl
  have nhs : ∀ g, d.hsv.ownBlock = some g → ¬ X g := fun g hg => no _ (.inl (.inr (.inr (.inr (.inr (.inr (.inr (.inr (.inr (.inr (.inr (.inr (.inr hg))))))))))))) fun e => (hB _ e).2.2.2.2.2.2.2.2.2.1 hg
  have hl := h.r.hT.laid
  have hc' : Chg (fun x => X x ∧ x < w.heap.size) w W := ⟨hc.os, hc.tape, hc.output, hc.size, fun b hb hnx => hc.block b hb fun hx => hnx ⟨hx, hb⟩⟩
  have hfar : ∀ x, (X x ∧ x < w.heap.size) → Far w x := fun x hx => by
    rcases hX x hx.1 hx.2 with e | ⟨e, _⟩
    · obtain ⟨n, z, p0, p1⟩ := h.p.port0 hn e
      exact far_tags hl p0 p1
    · exact e
  obtain ⟨ov, hov, -⟩ := h.r.hV.obj
  obtain ⟨f0, f1, f2, f3, f4⟩ := h.r.hF
  refine ⟨⟨hc.block.cell ns h.p.h0, hp.at, hc.block.cell ns h.p.h5, h.p.hK.keep fun b hb e => hc.block b hb ?_, hc.block.cell n1 h.p.hm.1, hc.block.cell n1 h.p.hm.2.1, hc.block.cell n1 h.p.hm.2.2.1, hc.block.cell n1 h.p.hm.2.2.2⟩, ⟨hc.block.cell ns h.r.h1, ⟨hc.block.cell nf f0, hc.block.cell nf f1, ownsRow_blk f2 fun g hg => hc.block g (ownsRow_lt f2 hg).2 (nfs g hg), fun j => (World.frozen?_of_block (a := ⟨d.fm, j, none⟩) (hc.block d.fm (block_lt_of_cell f0) nf)).trans (f3 j), f4⟩, h.r.sF, fun g hg => ?_, hc.block.cell ns h.r.h3, h.r.hT.far hc' hfar fun x hF hx => nF x hF hx.1, hc.block.cell ns h.r.h4, h.r.hV.same (hc.block d.vb (lt_of_heap hov) nv), h.r.hD⟩, h.h.keep hc ns nr nh nhs, hp⟩
  · rcases e with rfl | e
    · exact nk
    · exact nm b e
  · obtain ⟨n, v, d0, d1⟩ := h.r.hH g hg
    exact ⟨n, v, hc.block.cell (nfs g hg) d0, hc.block.cell (nfs g hg) d1⟩
end
section
variable {w W : World} {wb n n' : Nat} {tv sv kv kv' : Value} {Ts : List TabD} {Ss : List SwD} {Ks Ks' : List KeptD} {col col' : Nat → Nat} {M : Int}
/-- Port of both, and the caller's list behind it. -/
theorem port_done (h : LW w wb tv sv kv n Ts Ks col) (hs : LS w sv Ss col M) {i : Nat} (hi : i < Ss.length) {P' : List Prt} {Q' : List (Int × Value)} {XQ : List XPt}
    (hp : PortsO W Ss[i].pv P' Q') (hq : ∀ q ∈ Q', q ∈ Ss[i].Q ∨ ∃ b, q.2 = .map (some b) ∧ col' b = 6 * i + 10)
    (hx2 : XSw W Ss[i].y { Ss[i].x with Q := XQ }) (hxq : ∀ q ∈ XQ, q ∈ Ss[i].x.Q ∨ ∀ b, q.tv.ownBlock = some b → col' b = 6 * i + 13)
    (tot : Chg (fun b => (Ss[i].pv.ownBlock = some b ∨ Ss[i].x.pv.ownBlock = some b) ∨ (b = wb ∨ kv.ownBlock = some b)) w W)
    (hW : WS W wb tv sv kv' n' Ks' col') (hcol : ∀ x, x < w.heap.size → col x ≠ 0 → col' x = col x)
    (eP : P' = XQ.map XPt.prt) (hlen : XQ.length = Ss[i].x.Q.length) (tl : ∀ q ∈ XQ, q.T.length ≤ 1000000000) (nt : ∀ q ∈ XQ, 0 ≤ q.nat ∧ q.nat < 4096) :
    LW W wb tv sv kv' n' Ts Ks' col' ∧ LS W sv (Ss.set i { Ss[i] with P := P', Q := Q', x := { Ss[i].x with Q := XQ } }) col' M := by
  have hd := hs.sw i hi
  obtain ⟨d, hde⟩ : ∃ d, d = Ss[i] := ⟨_, rfl⟩
  rw [← hde] at hd hp hq hx2 hxq tot hlen ⊢
  have hP : d.P.length = d.x.Q.length := by rw [hd.eP]; unfold XSt.P; rw [List.length_map]
  have hn0 : 0 < d.P.length := by rw [hP]; exact hd.n0
  have mX : ∀ b, d.pv.ownBlock = some b → d.mine b := fun b e => .inr (.inr (.inr (.inr (.inl e))))
  have yX : ∀ b, d.x.pv.ownBlock = some b → d.x.blocks d.y b := fun b e => .inr (.inl e)
  have hfar : ∀ x, ((d.pv.ownBlock = some x ∨ d.x.pv.ownBlock = some x) ∨ (x = wb ∨ kv.ownBlock = some x)) → Far w x := fun x hx => by
    rcases hx with (e | e) | (e | e)
    · exact hd.farP h.laid e
    · exact hd.farXP h.laid e
    · rw [e]; exact h.farW
    · exact h.farK e
  have hc : ∀ x, ((d.pv.ownBlock = some x ∨ d.x.pv.ownBlock = some x) ∨ (x = wb ∨ kv.ownBlock = some x)) → col x = 6 * i + 10 ∨ col x = 6 * i + 13 ∨ col x = 1 ∨ col x = 3 := fun x hx => by
    rcases hx with (e | e) | (e | e)
    · exact .inl (hd.cI x (mX x e))
    · exact .inr (.inl (hd.cX x (yX x e)))
    · rw [e]; exact .inr (.inr (.inl h.cw))
    · exact .inr (.inr (.inr (h.cK x e)))
  have hpl : d.p < w.heap.size := block_lt_of_cell hd.c0
  have hnp : ¬ ((d.pv.ownBlock = some d.p ∨ d.x.pv.ownBlock = some d.p) ∨ (d.p = wb ∨ kv.ownBlock = some d.p)) := fun e => by have := hc _ e; rw [hd.cp] at this; omega
  have old : ∀ b c, b < w.heap.size → col b = c → c ≠ 0 → col' b = c := fun b c hb e h0 => (hcol b hb (by rw [e]; exact h0)).trans e
  have om : ∀ b, d.mine b → col' b = 6 * i + 10 := fun b e => old b _ (hd.imp.lt e) (hd.cI b e) (by omega)
  have ox : ∀ b, d.x.blocks d.y b → col' b = 6 * i + 13 := fun b e => old b _ (hd.ref.lts e) (hd.cX b e) (by omega)
  have hkl : d.k < w.heap.size := hd.imp.lt (.inr (.inl rfl))
  have hnk : ¬ ((d.pv.ownBlock = some d.k ∨ d.x.pv.ownBlock = some d.k) ∨ (d.k = wb ∨ kv.ownBlock = some d.k)) := fun e => by
    have e7 := hd.cI d.k (.inr (.inl rfl))
    rcases e with (e | e) | (e | e)
    · exact (hd.imp.pbeside hn0 e).2.1 rfl
    · have e1 := hd.cX d.k (yX _ e); rw [e7] at e1; omega
    · have e1 := h.cw; rw [← e, e7] at e1; omega
    · have e1 := h.cK _ e; rw [e7] at e1; omega
  refine ⟨h.whole tot (fun x hx => ⟨hfar x hx, by have := hc x hx; omega⟩) hcol hW, hs.step hi (by rw [← hde]) tot (fun x hx _ => ⟨hfar x hx, hc x hx⟩) hcol (Int.le_refl _) ?_⟩
  refine ⟨tot.block.cell hnp hd.c0, tot.block.cell hnp hd.c1, old _ _ hpl hd.cp (by omega), ?_, fun b hb => ?_, ?_, hx2, fun b hb => ?_, eP, hd.eK, ?_, ?_, hd.k64, tl, ?_, nt, hd.yg, hd.nil, hd.now⟩
  · have hI := hd.imp.ported' hn0 tot (fun x hx hxl => ?_) hp
    · exact ⟨hI.p, hI.r, hI.h, hI.o⟩
    · have far := hfar x hx
      rcases hx with (e | e) | e
      · exact .inl e
      · refine .inr ⟨far, fun hm => ?_, fun e1 => ?_⟩
        · have e1 := hd.cX x (yX x e); rw [hd.cI x hm] at e1; omega
        · have e2 := hd.cX x (yX x e); rw [e1, hs.c1] at e2; omega
      · have e2 : col x = 1 ∨ col x = 3 := by
          rcases e with e | e
          · rw [e]; exact .inl h.cw
          · exact .inr (h.cK x e)
        refine .inr ⟨far, fun hm => ?_, fun e1 => ?_⟩
        · rw [hd.cI x hm] at e2; omega
        · rw [e1, hs.c1] at e2; omega
  · rcases hb with e | e | e | e | e | ⟨q, hq', e⟩ | e
    · exact om b (.inl e)
    · exact om b (.inr (.inl e))
    · exact om b (.inr (.inr (.inl e)))
    · exact om b (.inr (.inr (.inr (.inl e))))
    · exact om b (.inr (.inr (.inr (.inr (.inl e)))))
    · rcases hq q hq' with e' | ⟨b', e', hb'⟩
      · exact om b (.inr (.inr (.inr (.inr (.inr (.inl ⟨q, e', e⟩))))))
      · rw [e] at e'
        obtain rfl : b = b' := by simpa using e'
        exact hb'
    · exact om b (.inr (.inr (.inr (.inr (.inr (.inr e))))))
  · exact (World.cell?_of_block (a := ⟨d.k, 1, none⟩) (tot.block d.k hkl hnk)).trans hd.one
  · rcases hb with e | e | e | e | e | e | ⟨q, hq', e⟩
    · exact ox b (.inl e)
    · exact ox b (.inr (.inl e))
    · exact ox b (.inr (.inr (.inl e)))
    · exact ox b (.inr (.inr (.inr (.inl e))))
    · exact ox b (.inr (.inr (.inr (.inr (.inl e)))))
    · exact ox b (.inr (.inr (.inr (.inr (.inr (.inl e))))))
    · rcases hxq q hq' with e' | e'
      · exact ox b (.inr (.inr (.inr (.inr (.inr (.inr ⟨q, e', e⟩))))))
      · exact e' b e
  · show 0 < XQ.length
    rw [hlen]
    exact hd.n0
  · show XQ.length ≤ 8
    rw [hlen]
    exact hd.n8
  · show ∀ e ∈ d.x.K, (0 ≤ e.port ∧ e.port < XQ.length) ∧ isGrp e.mac = false
    rw [hlen]
    exact hd.kp
end
end Go.Proofs.YtnjalelblbjfiaaGreatDoor

namespace Go.Proofs.YtnjalelblbjfiaaGreatDoor
open Go.RowKit

/-- append of one list to the kept ones. -/
theorem append_kept1 {w : World} {kv : Value} {Ks N : List KeptD} {A : Array Value} (h : RowIs w 78 5 kv Ks.length (rowK Ks)) (hn : Ks.length + 1 ≤ 1000000000) (hs : 1 ≤ w.heap.size) (hN : N.length = 1) (hA : A.toList = rowK N) (h1 : ∀ u ∈ rowK N, u.oneCell' = true) : ∃ g cap w', (Builtin.append_ #[29, 29] 29 #[kv, .slice (some ⟨w.heap.size, 0, none⟩) 1 1]).run Tryz.prog (w.alloc (.cells A 78)).drew = .ok (.slice (some ⟨g, 0, none⟩) (Ks.length + 1) cap) w' ∧ w'.ownsRow 1 78 5 (.slice (some ⟨g, 0, none⟩) (Ks.length + 1) cap) (Ks.length + 1) (rowK (Ks ++ N)) ∧ Chg (fun x => kv.ownBlock = some x) w w' ∧ (kv.ownBlock = some g ∨ w.heap.size ≤ g) := by
  obtain ⟨i0, hi, hz0, hz1, hz2⟩ := info_parts infoKept
  have hrd : (w.alloc (.cells A 78)).drew.ownsRow 1 78 5 kv Ks.length (rowK Ks) := h.1.alloc _
  have hcn : ∀ j u, (rowK N)[j]? = some u → (w.alloc (.cells A 78)).drew.cell? ((⟨w.heap.size, 0, none⟩ : Addr).add j) = some u := fun j u hu => by
    rw [Addr.add_mid]
    exact range_new w A 78 j u (by rw [hA]; exact hu)
  have hs' : (w.alloc (.cells A 78)).drew.heap.size = w.heap.size + 1 := by simp
  obtain ⟨v', w', hap, hown', hgr, hiff⟩ := run_append_own (P := Tryz.prog) (w.alloc (.cells A 78)).drew 1 29 29 78 i0 _ 5 104 underKepts hi hz0 hz1 hz2 rfl (by decide) kv Ks.length (rowK Ks) hrd ⟨w.heap.size, 0, none⟩ 1 1 (rowK N) (by rw [rowK_length, hN]) hcn h1 (by unfold maxLen; omega) (by omega) (by omega)
  have hbl := append_block (P := Tryz.prog) (w.alloc (.cells A 78)).drew 1 29 29 78 i0 _ 5 104 underKepts hi hz0 hz1 hz2 kv Ks.length (rowK Ks) hrd ⟨w.heap.size, 0, none⟩ 1 1 (rowK N) (by rw [rowK_length, hN]) hcn h1 (by unfold maxLen; omega) (by omega) hap
  have hv' : ∃ g cap, v' = .slice (some ⟨g, 0, none⟩) (Ks.length + 1) cap := by
    rcases hown'.2 with ⟨e, e2⟩ | ⟨g, cap, _, e, _⟩
    · omega
    · exact ⟨g, cap, e⟩
  obtain ⟨g, cap, rfl⟩ := hv'
  refine ⟨g, cap, w', hap, ?_, ?_, ?_⟩
  · rw [rowK_append]
    exact hown'
  · have c1 : Chg (fun b => kv.ownBlock = some b) w (w.alloc (.cells A 78)).drew := Chg.of_below (((Below.refl _ w).alloc (Nat.le_refl _) _).drew)
    exact c1.trans (Chg.grown hgr fun _ hk => hk)
  · rcases hbl g rfl with h | h
    · exact .inl h
    · exact .inr (by omega)
def keptI (m : Nat) (u : Value) : KeptD := ⟨m, .slice none 0 0, .slice none 0 0, .slice none 0 0, u⟩
theorem buildKeptI (x : Int) (a : Option Addr) (l c : Nat) (w : World) : (Instr.buildSlice 29 1 #[(0, .agg #[.int .i64 x, .slice none 0 0, .slice none 0 0, .slice none 0 0, .slice a l c])]).run Tryz.prog w = .ok (.slice (some ⟨w.heap.size, 0, none⟩) 1 1) (w.alloc (.cells #[.int .i64 x, .slice none 0 0, .slice none 0 0, .slice none 0 0, .slice a l c] 78)) := by kernel_rfl
section
variable {w W6 W7 : World} {wb n m g len cap : Nat} {tv sv kv kv' : Value} {Ks : List KeptD} {col : Nat → Nat}
/-- A list of numbers that has become the caller's. -/
theorem int_done (h : WS w wb tv sv kv n Ks col) (hg0 : col g = 0) (hgl : g < w.heap.size) (c6 : Chg (fun x => x = wb ∨ x = g) w W6)
    (d0 : W6.cell? ⟨wb, 0, none⟩ = some tv) (d1 : W6.cell? ⟨wb, 1, none⟩ = some sv) (d2 : W6.cell? ⟨wb, 2, none⟩ = some (.int .i64 m)) (d3 : W6.cell? ⟨wb, 3, none⟩ = some kv) (df : ∀ j, W6.frozen? ⟨wb, j, none⟩ = false)
    (hl : len ≤ 1000000000) (hm : m ≤ 1000000000) (hf : ∀ k, k < len → W6.rangeAt g (k * 1) (markI m))
    (c8 : Chg (fun x => kv.ownBlock = some x) W6 W7) (hK' : ∀ x, kv'.ownBlock = some x → kv.ownBlock = some x ∨ W6.heap.size ≤ x)
    (hr : W7.ownsRow 1 78 5 kv' (Ks.length + 1) (rowK (Ks ++ [keptI m (.slice (some ⟨g, 0, none⟩) len cap)]))) :
    Chg (fun x => x = wb ∨ kv.ownBlock = some x ∨ x = g) w (W7.setCell ⟨wb, 3, none⟩ kv') ∧ WS (W7.setCell ⟨wb, 3, none⟩ kv') wb tv sv kv' m (Ks ++ [keptI m (.slice (some ⟨g, 0, none⟩) len cap)]) (inked col (.slice (some ⟨g, 0, none⟩) len cap) w.heap.size w.heap.size) ∧ ∀ x, x < w.heap.size → col x ≠ 0 → inked col (.slice (some ⟨g, 0, none⟩) len cap) w.heap.size w.heap.size x = col x := by
  have hwl : wb < w.heap.size := block_lt_of_cell h.c0
  have own : ∀ x, (Value.slice (some ⟨g, 0, none⟩) len cap).ownBlock = some x → x = g := fun x hx => (Option.some.inj hx).symm
  have hgw : g ≠ wb := fun e => by rw [e, h.cw] at hg0; omega
  have hvw : (Value.slice (some ⟨g, 0, none⟩) len cap).ownBlock ≠ some wb := fun e => hgw (own _ e).symm
  have hkw : kv.ownBlock ≠ some wb := fun e => by have := h.cK wb e; rw [h.cw] at this; omega
  have hkl : ∀ x, kv.ownBlock = some x → x < w.heap.size := fun x hx => h.rK.lt hx
  have hkg : kv.ownBlock ≠ some g := fun e => by have := h.cK g e; rw [hg0] at this; omega
  have hvk : ∀ x, kv.ownBlock = some x → (Value.slice (some ⟨g, 0, none⟩) len cap).ownBlock ≠ some x := fun x hx e => hkg (by rw [hx, own x e])
  have s6 := c6.size
  have s8 := c8.size
  have hkw' : kv'.ownBlock ≠ some wb := fun e => by rcases hK' wb e with e | e; exact hkw e; omega
  have hcol : ∀ x, x < w.heap.size → col x ≠ 0 → inked col (.slice (some ⟨g, 0, none⟩) len cap) w.heap.size w.heap.size x = col x := fun x hx h0 => inked_lt (fun e => h0 (by rw [own x e]; exact hg0)) hx
  have c9 : Chg (fun x => x = wb ∨ kv.ownBlock = some x) W6 (W7.setCell ⟨wb, 3, none⟩ kv') := Chg.setCell (p := ⟨wb, 3, none⟩) (c8.mono fun x _ hx => .inr hx) (.inl (.inl rfl)) kv'
  have tot : Chg (fun x => x = wb ∨ kv.ownBlock = some x ∨ x = g) w (W7.setCell ⟨wb, 3, none⟩ kv') := (c6.mono fun x _ hx => hx.imp id .inr).trans (c9.mono fun x _ hx => hx.imp id .inl)
  have o7 : ∀ j, W7.cell? ⟨wb, j, none⟩ = W6.cell? ⟨wb, j, none⟩ ∧ W7.frozen? ⟨wb, j, none⟩ = W6.frozen? ⟨wb, j, none⟩ := fun j => OnlyAt.of_block (c8.block wb (by omega) hkw) j
  have o9 := OnlyAt.set (o := 3) o7 kv'
  refine ⟨tot, ⟨(o9 0 (by decide)).1.trans d0, (o9 1 (by decide)).1.trans d1, (o9 2 (by decide)).1.trans d2, ?_, fun j => ?_, ⟨?_, fun e => by simp at e⟩, ?_, fun x hx => ?_, fun k hk => ?_⟩, hcol⟩
  · exact World.cell?_setCell_same _ _ _ ((o7 3).1.trans d3)
  · by_cases hj : j = 3
    · subst hj
      rw [World.frozen?_setCell]
      exact (o7 3).2.trans (df 3)
    · exact (o9 j hj).2.trans (df j)
  · have hr' := ownsRow_same (w' := W7.setCell ⟨wb, 3, none⟩ kv') hr fun g hg => Below.heap_setCell _ _ _ _ fun e => hkw' (by rw [hg]; exact congrArg some e)
    rw [List.length_append]
    exact hr'
  · rw [inked_lt hvw hwl, h.cw]
  · rcases hK' x hx with e | e
    · rw [inked_lt (hvk x e) (hkl x e), h.cK x e]
    · exact inked_ge (fun e' => by have := own x e'; omega) (by omega) (by omega)
  · rcases List.mem_append.1 hk with hk | hk
    · refine (h.kept k hk).keep tot (fun x hx _ => ?_) hcol
      rcases hx with rfl | hx | rfl
      · rw [h.cw]; omega
      · rw [h.cK x hx]; omega
      · rw [hg0]; omega
    · rw [List.mem_singleton] at hk
      subst hk
      refine ⟨hm, Full.nil _ _, Full.nil _ _, Full.nil _ _, (full_of (b := g) hl (inked_own rfl) (by omega) hf).keep c9 (fun x hx _ => ?_) fun _ _ _ => rfl⟩
      rcases hx with rfl | hx
      · rw [inked_lt hvw hwl, h.cw]; omega
      · rw [inked_lt (hvk x hx) (hkl x hx), h.cK x hx]; omega
end
/-- append of two numbers behind a list of one's own. -/
theorem append77 {w : World} {B : Nat} {a : Option Addr} {c : Nat} {T : List Int} (h : w.ownsRow B 3 1 (.slice a T.length c) T.length (T.map fun t => .int .i64 t)) (hB : B ≤ w.heap.size) (_hB1 : 0 < B) (hl : T.length ≤ 1000000000) : ∃ g cap w', (Builtin.append_ #[32, 32] 32 #[.slice a T.length c, .slice (some ⟨w.heap.size, 0, none⟩) 2 2]).run Tryz.prog (w.alloc (.cells #[.int .i64 77, .int .i64 77] 3)) = .ok (.slice (some ⟨g, 0, none⟩) (T.length + 2) cap) w' ∧ w'.ownsRow B 3 1 (.slice (some ⟨g, 0, none⟩) (T.length + 2) cap) (T.length + 2) ((T ++ [77, 77]).map fun t => .int .i64 t) ∧ Below B w w' := by
  obtain ⟨i0, hi, hz0, hz1, hz2⟩ := info_parts infoInt
  have hb : Below w.heap.size w (w.alloc (.cells #[.int .i64 77, .int .i64 77] 3)) := (Below.refl _ w).alloc (Nat.le_refl _) _
  have hrd : (w.alloc (.cells #[.int .i64 77, .int .i64 77] 3)).ownsRow B 3 1 (.slice a T.length c) T.length (T.map fun t => .int .i64 t) := h.alloc _
  have hcn : ∀ j u, [Value.int .i64 77, .int .i64 77][j]? = some u → (w.alloc (.cells #[.int .i64 77, .int .i64 77] 3)).cell? ((⟨w.heap.size, 0, none⟩ : Addr).add j) = some u := fun j u hu => by
    rw [Addr.add_mid]
    exact range_new w #[.int .i64 77, .int .i64 77] 3 j u hu
  obtain ⟨v', w', hap, hown', hgr, hiff⟩ := run_append_own (P := Tryz.prog) (w.alloc (.cells #[.int .i64 77, .int .i64 77] 3)) B 32 32 3 i0 _ 1 8 underInts hi hz0 hz1 hz2 rfl (by decide) (.slice a T.length c) T.length (T.map fun t => .int .i64 t) hrd ⟨w.heap.size, 0, none⟩ 2 2 [.int .i64 77, .int .i64 77] rfl hcn (by simp [Value.oneCell']) (by unfold maxLen; omega) (by omega) (Nat.le_trans hB hb.size)
  have hv' : ∃ g cap, v' = .slice (some ⟨g, 0, none⟩) (T.length + 2) cap := by
    rcases hown'.2 with ⟨e, e2⟩ | ⟨g, cap, _, e, _⟩
    · omega
    · exact ⟨g, cap, e⟩
  obtain ⟨g, cap, rfl⟩ := hv'
  refine ⟨g, cap, w', hap, ?_, ?_⟩
  · rw [List.map_append]
    exact hown'
  · exact (hb.mono hB).trans (Below.of_grown hgr (Nat.le_trans hB hb.size) fun x hx => (h.lt x hx).1)
/-- append of all numbers to none. -/
theorem append_nums {w : World} {tv : Value} {T : List Int} (h : NumsO w tv T) (hl : T.length ≤ 1000000000) (_hp : 0 < w.heap.size) : ∃ ta c w', (Builtin.append_ #[32, 32] 32 #[.slice (some ⟨w.heap.size, 0, none⟩) 0 0, tv]).run Tryz.prog (w.alloc (.cells #[] 3)) = .ok (.slice ta T.length c) w' ∧ w'.ownsRow w.heap.size 3 1 (.slice ta T.length c) T.length (T.map fun t => .int .i64 t) ∧ Below w.heap.size w w' := by
  obtain ⟨i0, hi, hz0, hz1, hz2⟩ := info_parts infoInt
  have hb : Below w.heap.size w (w.alloc (.cells #[] 3)) := (Below.refl _ w).alloc (Nat.le_refl _) _
  have hO : (w.alloc (.cells #[] 3)).ownsRow w.heap.size 3 1 (.slice (some ⟨w.heap.size, 0, none⟩) 0 0) 0 [] := ⟨rfl, .inr ⟨w.heap.size, 0, #[], rfl, Nat.le_refl _, heap_alloc_new w _, Nat.le_refl _, by unfold maxLen; omega, rfl, rfl⟩⟩
  obtain ⟨a, cap, b, off, rfl, hc⟩ := h
  by_cases h0 : T = []
  · subst h0
    refine ⟨some ⟨w.heap.size, 0, none⟩, 0, (w.alloc (.cells #[] 3)), ?_, hO, hb⟩
    cases a <;> simp [Builtin.append_, run_underlying underInts, sizeOf, typeInfo, hi, Builtin.lenOf, Builtin.firstCells, loadCells, loadCellsFrom, storeCells]
  · have hl0 : 0 < T.length := List.length_pos_iff.2 h0
    obtain ⟨rfl, -⟩ := hc 0 hl0
    have hnews : ∀ j u, (T.map fun t => Value.int .i64 t)[j]? = some u → (w.alloc (.cells #[] 3)).cell? ((⟨b, off, none⟩ : Addr).add j) = some u := fun j u hu => by
      have hj : j < T.length := by have := (List.getElem?_eq_some_iff.1 hu).1; rwa [List.length_map] at this
      rw [List.getElem?_map, List.getElem?_eq_getElem hj] at hu
      cases hu
      rw [Addr.add_mid]
      exact cell_later hb (hc j hj).2
    obtain ⟨v', w', hap, hown', hgr, hiff⟩ := run_append_own (P := Tryz.prog) (w.alloc (.cells #[] 3)) w.heap.size 32 32 3 i0 _ 1 8 underInts hi hz0 hz1 hz2 rfl (by decide) (.slice (some ⟨w.heap.size, 0, none⟩) 0 0) 0 [] hO ⟨b, off, none⟩ T.length cap (T.map fun t => .int .i64 t) (by simp) hnews (by simp [Value.oneCell']) (by unfold maxLen; omega) (by omega) (by simp)
    rw [Nat.zero_add, List.nil_append] at hown'
    have hv' : ∃ ta c, v' = .slice ta T.length c := by
      rcases hown'.2 with ⟨e, e2⟩ | ⟨g, cap, _, e, _⟩
      · omega
      · exact ⟨_, _, e⟩
    obtain ⟨ta, c, rfl⟩ := hv'
    exact ⟨ta, c, w', hap, hown', hb.trans (Below.of_grown hgr hb.size fun x hx => by cases hx; exact Nat.le_refl _)⟩
end Go.Proofs.YtnjalelblbjfiaaGreatDoor

namespace Go.Proofs.YtnjalelblbjfiaaGreatDoor
open Go.RowKit
attribute [local go_sem] Oper.semAt_some cell?_regrown
attribute [local go_sem ↓ high] buildKeptI
attribute [local go_sem ↓ high] xApp_fold

theorem portOk_nat {nat : Int} {T : List Int} (h : portOk nat T = true) : 0 ≤ nat ∧ nat < 4096 := by
  unfold portOk at h
  rw [Bool.and_eq_true, Bool.or_eq_true, beq_iff_eq] at h
  rcases h.1 with e | e
  · omega
  · have e' : (decide (1 ≤ nat) && decide (nat ≤ 4094)) = true := e
    rw [Bool.and_eq_true, decide_eq_true_eq, decide_eq_true_eq] at e'
    omega
theorem portRes_ok {P : List Prt} {q nat : Int} {T : List Int} (h : portRes P q nat T = 0) : portOk nat T = true := by
  unfold portRes at h
  split at h
  · split at h
    · assumption
    · cases h
  · cases h
/-- The colours behind a port of the program's. -/
def portCol (col : Nat → Nat) (s s3 i : Nat) : Nat → Nat := fun x => if x < s then col x else if x < s3 then 0 else 6 * i + 10
theorem nums_cells {w : World} {B g cap : Nat} {T : List Int} (h : w.ownsRow B 3 1 (.slice (some ⟨g, 0, none⟩) (T.length + 2) cap) (T.length + 2) ((T ++ [77, 77]).map fun t => .int .i64 t)) : (∀ j (hj : j < T.length), w.cell? ⟨g, j, none⟩ = some (.int .i64 T[j])) ∧ w.cell? ⟨g, T.length, none⟩ = some (.int .i64 77) ∧ w.cell? ⟨g, T.length + 1, none⟩ = some (.int .i64 77) ∧ T.length + 2 ≤ cap ∧ B ≤ g ∧ g < w.heap.size ∧ ∃ cur, w.heap[g]? = some (.cells cur 3 (0, 0)) ∧ cur.size = cap * 1 := by
  have hc : ∀ j u, ((T ++ [77, 77]).map fun t => Value.int .i64 t)[j]? = some u → w.cell? ⟨g, j, none⟩ = some u := fun j u hu => by
    have := h.cells (g := g) rfl j u hu
    rwa [Addr.add_mid, Nat.zero_add] at this
  refine ⟨fun j hj => hc j _ ?_, hc _ _ ?_, hc _ _ ?_, ?_⟩
  · rw [List.getElem?_map, List.getElem?_append_left hj, List.getElem?_eq_getElem hj]; rfl
  · rw [List.getElem?_map, List.getElem?_append_right (Nat.le_refl _), Nat.sub_self]; rfl
  · rw [List.getElem?_map, List.getElem?_append_right (Nat.le_succ _), show T.length + 1 - T.length = 1 by omega]; rfl
  · rcases h.2 with ⟨e, _⟩ | ⟨g', cap', cur, e, hb, hg, h1, h2, h3, h4⟩
    · cases e
    · cases e
      exact ⟨h1, hb, lt_of_heap hg, cur, hg, h3⟩
theorem NumsO.moved {w W : World} {la : Option Addr} {ll lc : Nat} {T : List Int} (h : NumsO w (.slice la ll lc) T) (hk : ∀ b, (Value.slice la ll lc).ownBlock = some b → 0 < T.length → b < w.heap.size → W.heap[b]? = w.heap[b]?) : NumsO W (.slice la ll lc) T := by
  obtain ⟨a, cap, b, off, e, hc⟩ := h
  refine ⟨a, cap, b, off, e, fun j hj => ⟨(hc j hj).1, ?_⟩⟩
  obtain ⟨ha, q⟩ := hc j hj
  have hb : (Value.slice la ll lc).ownBlock = some b := by rw [e, ha]; rfl
  exact (World.cell?_of_block (a := ⟨b, off + j, none⟩) (hk b hb (by omega) (block_lt_of_cell q))).trans q
theorem Mkd.put {wr wq : World} {g cap len j m : Nat} (h : Mkd wr 3 1 (markI m) (.slice (some ⟨g, 0, none⟩) len cap) len j) (hb : Below wr.heap.size wr wq) (hj : j < len) : wq.frozen? ⟨g, j, none⟩ = false ∧ (∃ u, wq.cell? ⟨g, j, none⟩ = some u) ∧ Mkd (wq.setCell ⟨g, j, none⟩ (.int .i64 (-(m : Int)))) 3 1 (markI m) (.slice (some ⟨g, 0, none⟩) len cap) len (j + 1) := by
  have h' : Mkd wq 3 1 (markI m) (.slice (some ⟨g, 0, none⟩) len cap) len j := by
    rcases h with h | ⟨g', cap', cur, e, hg, h1, h2, h3⟩
    · exact .inl h
    · exact .inr ⟨g', cap', cur, e, (hb.block g' (lt_of_heap hg)).trans hg, h1, h2, fun k hk => rangeAt_below (h3 k hk) hb⟩
  obtain ⟨ht, hn⟩ := h'.step rfl hj
  rw [Nat.mul_one] at ht hn
  obtain ⟨t1, t2⟩ := ht 0 (by omega)
  exact ⟨t2, Option.isSome_iff_exists.1 t1, hn⟩
section
variable {w W3 w4 W6 W7 W8 : World} {wb n m g l2 cap i : Nat} {tv sv kv kv' : Value} {Ts : List TabD} {Ss : List SwD} {Ks : List KeptD} {col : Nat → Nat} {M oN oM : Int} {T : List Int} {Q' : List (Int × Value)}
/-- All that Port of both leaves, and the caller's list. -/
theorem lport_fin (h : LW w wb tv sv kv n Ts Ks col) (hs : LS w sv Ss col M) (hi : i < Ss.length) (hTl : T.length ≤ 100000000) (hm : m = n + 1) (hn : n < 1000000000) (hl2 : l2 ≤ 1000000000)
    (hb03 : Below w.heap.size w W3) (hgw : w.heap.size ≤ g) (hgl : g < W3.heap.size)
    (hP : PortsO w4 Ss[i].pv (portSet Ss[i].P oN oM T) Q') (hNT : NewTags W3 Ss[i].Q Q') (hc4 : Chg (fun b => Ss[i].pv.ownBlock = some b) W3 w4)
    (c6 : Chg (fun x => x = wb ∨ x = g) w4 W6) (o6 : OnlyAt w4 W6 wb 2) (d2 : W6.cell? ⟨wb, 2, none⟩ = some (.int .i64 m)) (f2 : W6.frozen? ⟨wb, 2, none⟩ = false) (hf : ∀ k, k < l2 → W6.rangeAt g (k * 1) (markI m))
    (c8 : Chg (fun x => kv.ownBlock = some x) W6 W7) (hK' : ∀ x, kv'.ownBlock = some x → kv.ownBlock = some x ∨ W6.heap.size ≤ x)
    (hr : W7.ownsRow 1 78 5 kv' (Ks.length + 1) (rowK (Ks ++ [keptI m (.slice (some ⟨g, 0, none⟩) l2 cap)]))) (hW8 : W8 = W7.setCell ⟨wb, 3, none⟩ kv') :
    (XSw W8 Ss[i].y Ss[i].x ∧ ∀ b, b < w.heap.size → col b = 4 → W8.heap[b]? = w.heap[b]?) ∧ ∀ W9, XPorted Ss[i].y Ss[i].x oN oM T W8 (portRes Ss[i].x.P oN oM T) W9 → ∃ kv' Ks' col' d', Ks'.length = Ks.length + 1 ∧ LW W9 wb tv sv kv' (n + 1) Ts Ks' col' ∧ LS W9 sv (Ss.set i d') col' M ∧ (Ss[i].Plain → d'.Plain) ∧ Left w W9 col col' := by
  have hd := hs.sw i hi
  have s3 := hb03.size
  have s4 := hc4.size
  have s6 := c6.size
  have s7 := c8.size
  have hwl : wb < w.heap.size := block_lt_of_cell h.c0
  have hpvl : ∀ b, Ss[i].pv.ownBlock = some b → b < w.heap.size ∧ col b = 6 * i + 10 := fun b hb => ⟨hd.imp.lt (.inr (.inr (.inr (.inr (.inl hb))))), hd.cI b (.inr (.inr (.inr (.inr (.inl hb)))))⟩
  have hwp : Ss[i].pv.ownBlock ≠ some wb := fun e => by have := (hpvl _ e).2; rw [h.cw] at this; omega
  have c04 : Chg (fun b => Ss[i].pv.ownBlock = some b) w w4 := (Chg.of_below hb03).trans hc4
  obtain ⟨cp, hcp⟩ : ∃ cp, cp = portCol col w.heap.size W3.heap.size i := ⟨_, rfl⟩
  have ip : ∀ x, x < w.heap.size → cp x = col x := fun x hx => by rw [hcp]; unfold portCol; rw [if_pos hx]
  have ig : cp g = 0 := by rw [hcp]; unfold portCol; rw [if_neg (by omega), if_pos hgl]
  have inw : ∀ x, W3.heap.size ≤ x → cp x = 6 * i + 10 := fun x hx => by rw [hcp]; unfold portCol; rw [if_neg (by omega), if_neg (by omega)]
  have ws4 : WS w4 wb tv sv kv n Ks cp := h.ws.keep c04 (fun x hx _ => by have := (hpvl x hx).2; omega) fun x hx _ => ip x hx
  have ob : ∀ j, w4.cell? ⟨wb, j, none⟩ = w.cell? ⟨wb, j, none⟩ ∧ w4.frozen? ⟨wb, j, none⟩ = w.frozen? ⟨wb, j, none⟩ := fun j => OnlyAt.of_block (c04.block wb hwl hwp) j
  have df : ∀ j, W6.frozen? ⟨wb, j, none⟩ = false := fun j => by
    by_cases e : j = 2
    · rw [e]; exact f2
    · exact ((o6 j e).2.trans (ob j).2).trans (h.frz j)
  obtain ⟨c48, ws8, ink8⟩ := int_done ws4 ig (by omega) c6 ((o6 0 (by decide)).1.trans ws4.c0) ((o6 1 (by decide)).1.trans ws4.c1) d2 ((o6 3 (by decide)).1.trans ws4.c3) df hl2 (by omega) hf c8 hK' hr
  rw [← hW8] at c48 ws8
  obtain ⟨cq, hcq⟩ : ∃ cq, cq = inked cp (.slice (some ⟨g, 0, none⟩) l2 cap) w4.heap.size w4.heap.size := ⟨_, rfl⟩
  rw [← hcq] at ws8 ink8
  have s8 := c48.size
  have hxv : ∀ b, Ss[i].x.pv.ownBlock = some b → b < w.heap.size ∧ col b = 6 * i + 13 := fun b hb => ⟨hd.ref.lts (.inr (.inl hb)), hd.cX b (.inr (.inl hb))⟩
  -- what is neither the struct's, nor what is kept, nor the list's
  have keep8 : ∀ b, b < w4.heap.size → cp b ≠ 0 → cp b ≠ 1 → cp b ≠ 3 → W8.heap[b]? = w4.heap[b]? := fun b hb h0 h1 h3 => c48.block b hb (by
    rintro (e | e | e)
    · exact h1 (by rw [e, ip _ hwl]; exact h.cw)
    · exact h3 (by rw [ip _ (h.rK.lt e)]; exact h.cK b e)
    · exact h0 (by rw [e]; exact ig))
  have keepo : ∀ b, b < w.heap.size → col b ≠ 0 → col b ≠ 1 → col b ≠ 3 → col b ≠ 6 * i + 10 → W8.heap[b]? = w.heap[b]? := fun b hb h0 h1 h3 h7 => (keep8 b (by omega) (by rw [ip b hb]; exact h0) (by rw [ip b hb]; exact h1) (by rw [ip b hb]; exact h3)).trans (c04.block b hb fun e => h7 (hpvl b e).2)
  have hx8 : XSw W8 Ss[i].y Ss[i].x := hd.ref.keep fun b hb hbl => keepo b hbl (by rw [hd.cX b hb]; omega) (by rw [hd.cX b hb]; omega) (by rw [hd.cX b hb]; omega) (by rw [hd.cX b hb]; omega)
  refine ⟨⟨hx8, fun b hb h4 => keepo b hb (by omega) (by omega) (by omega) (by omega)⟩, fun W9 hX => ?_⟩
  have hPe : Ss[i].P = Ss[i].x.P := hd.eP
  -- the last colours
  obtain ⟨cf, hcf⟩ : ∃ cf : Nat → Nat, cf = fun x => if x < W8.heap.size then cq x else 6 * i + 13 := ⟨_, rfl⟩
  have if8 : ∀ x, x < W8.heap.size → cf x = cq x := fun x hx => by rw [hcf]; exact if_pos hx
  have ifn : ∀ x, W8.heap.size ≤ x → cf x = 6 * i + 13 := fun x hx => by rw [hcf]; exact if_neg (by omega)
  have inkf : ∀ x, x < w.heap.size → col x ≠ 0 → cf x = col x := fun x hx h0 => by
    rw [if8 x (by omega), ink8 x (by omega) (by rw [ip x hx]; exact h0), ip x hx]
  have c89 : Chg (fun b => Ss[i].x.pv.ownBlock = some b) W8 W9 := by
    rcases hX with ⟨-, hb⟩ | ⟨-, -, tv', -, hc, -⟩
    · exact Chg.of_below hb
    · exact hc
  have s9 := c89.size
  have ws9 : WS W9 wb tv sv kv' m (Ks ++ [keptI m (.slice (some ⟨g, 0, none⟩) l2 cap)]) cf := ws8.keep c89 (fun x hx hl => by
    obtain ⟨a1, a2⟩ := hxv x hx
    rw [ink8 x (by omega) (by rw [ip x a1]; omega), ip x a1]
    omega) fun x hx _ => if8 x hx
  have t48 : Chg (fun b => (Ss[i].pv.ownBlock = some b ∨ Ss[i].x.pv.ownBlock = some b) ∨ (b = wb ∨ kv.ownBlock = some b)) w W8 := Chg.trans2 (X := fun b => (Ss[i].pv.ownBlock = some b ∨ Ss[i].x.pv.ownBlock = some b) ∨ (b = wb ∨ kv.ownBlock = some b)) (c04.mono fun x _ hx => .inl (.inl hx)) c48 fun x hx hxl => by
    rcases hx with e | e | e
    · exact .inr (.inl e)
    · exact .inr (.inr e)
    · omega
  have tot : Chg (fun b => (Ss[i].pv.ownBlock = some b ∨ Ss[i].x.pv.ownBlock = some b) ∨ (b = wb ∨ kv.ownBlock = some b)) w W9 := t48.trans (c89.mono fun x _ hx => .inl (.inr hx))
  have cfnew : ∀ b, W3.heap.size ≤ b → b < w4.heap.size → cf b = 6 * i + 10 := fun b h1 h2 => by
    rw [if8 b (by omega), ink8 b h2 (by rw [inw b h1]; omega), inw b h1]
  -- a block of the program's ports behind all
  have keepP : ∀ b, b < w4.heap.size → cp b = 6 * i + 10 → W9.heap[b]? = w4.heap[b]? := fun b hb he => by
    rw [c89.block b (by omega) (fun e => by
      obtain ⟨a1, a2⟩ := hxv b e
      rw [ip b a1, a2] at he
      omega), keep8 b hb (by omega) (by omega) (by omega)]
  have tagl : ∀ q ∈ Q', ∀ b, q.2 = .map (some b) → b < w4.heap.size ∧ cp b = 6 * i + 10 ∧ (q ∈ Ss[i].Q ∨ W3.heap.size ≤ b) := fun q hq b e => by
    obtain ⟨j, hj, rfl⟩ := List.getElem_of_mem hq
    have hbl := (hP.each j (by have := hP.len; omega)).2.lt e
    rcases hNT _ hq with e' | ⟨b', e1, e2⟩
    · have hmn : Ss[i].mine b := .inr (.inr (.inr (.inr (.inr (.inl ⟨_, e', e⟩)))))
      refine ⟨hbl, ?_, .inl e'⟩
      rw [ip b (hd.imp.lt hmn)]
      exact hd.cI b hmn
    · rw [e] at e1
      obtain rfl : b = b' := by simpa using e1
      exact ⟨hbl, inw b e2, .inr e2⟩
  have hP9 : PortsO W9 Ss[i].pv (portSet Ss[i].P oN oM T) Q' := ⟨hP.len, ownsRow_blk hP.own fun b hb => keepP b (by have := (hpvl b hb).1; omega) (by rw [ip b (hpvl b hb).1]; exact (hpvl b hb).2), fun j hj => ⟨(hP.each j hj).1, (hP.each j hj).2.keepB fun b e => by
    obtain ⟨a1, a2, -⟩ := tagl _ (List.getElem_mem _) b e
    exact keepP b a1 a2⟩⟩
  have hq9 : ∀ q ∈ Q', q ∈ Ss[i].Q ∨ ∃ b, q.2 = .map (some b) ∧ cf b = 6 * i + 10 := fun q hq => by
    rcases hNT q hq with e | ⟨b, e1, e2⟩
    · exact .inl e
    · exact .inr ⟨b, e1, cfnew b e2 (tagl q hq b e1).1⟩
  have left : Left w W9 col cf := ⟨⟨_, tot, fun x hx _ => by
    rcases hx with (e | e) | (e | e)
    · have := (hpvl x e).2; omega
    · have := (hxv x e).2; omega
    · rw [e, h.cw]; omega
    · rw [h.cK x e]; omega⟩, inkf⟩
  have plain : ∀ (P' : List Prt) (XQ : List XPt), Ss[i].Plain → SwD.Plain { Ss[i] with P := P', Q := Q', x := { Ss[i].x with Q := XQ } } := fun P' XQ hp => ⟨hp.fs, hp.l, hp.v, hp.r, hp.xf, hp.xr, hp.xh⟩
  rcases hX with ⟨hr0, hb⟩ | ⟨hr0, hq0, tv', hx9, -, htv⟩
  · have hps : portSet Ss[i].P oN oM T = Ss[i].x.Q.map XPt.prt := by
      unfold portSet
      rw [if_neg (by rw [hPe]; exact hr0)]
      exact hPe
    obtain ⟨f1, f2⟩ := port_done h hs hi hP9 hq9 (XQ := Ss[i].x.Q) (hx8.below hb) (fun q hq => .inl hq) tot ws9 inkf hps rfl hd.tl hd.nt
    rw [hm] at f1
    exact ⟨_, _, _, _, by rw [List.length_append]; rfl, f1, f2, plain _ _, left⟩
  · have hps : portSet Ss[i].P oN oM T = (Ss[i].x.Q.set oN.toNat ⟨oM, tv', T⟩).map XPt.prt := by
      unfold portSet
      rw [if_pos (by rw [hPe]; exact hr0), List.map_set, hPe]
      rfl
    obtain ⟨f1, f2⟩ := port_done h hs hi hP9 hq9 (XQ := Ss[i].x.Q.set oN.toNat ⟨oM, tv', T⟩) hx9 (fun q hq => by
      rcases List.mem_or_eq_of_mem_set hq with e | e
      · exact .inl e
      · exact .inr fun b hb => ifn b (htv b (by rw [e] at hb; exact hb))) tot ws9 inkf hps (List.length_set ..) (fun q hq => by
      rcases List.mem_or_eq_of_mem_set hq with e | e
      · exact hd.tl q e
      · rw [e]; show T.length ≤ 1000000000; omega) (fun q hq => by
      rcases List.mem_or_eq_of_mem_set hq with e | e
      · exact hd.nt q e
      · rw [e]; exact portOk_nat (portRes_ok hr0))
    rw [hm] at f1
    exact ⟨_, _, _, _, by rw [List.length_append]; rfl, f1, f2, plain _ _, left⟩
end
end Go.Proofs.YtnjalelblbjfiaaGreatDoor

namespace Go.Proofs.YtnjalelblbjfiaaGreatDoor
open Go.RowKit
attribute [local go_sem] Oper.semAt_some cell?_regrown

theorem tickL_mem {sec : Int} {K : List Mc} {e : Mc} (h : e ∈ tickL sec K) : e.age ≤ 300 ∧ ∃ q ∈ K, e.vlan = q.vlan ∧ e.mac = q.mac ∧ e.port = q.port ∧ e.age = q.age + sec := by
  unfold tickL at h
  rw [List.mem_filter, List.mem_map, decide_eq_true_eq] at h
  obtain ⟨⟨q, hq, rfl⟩, ha⟩ := h
  exact ⟨ha, q, hq, rfl, rfl, rfl, rfl⟩
theorem LW.still {w W : World} {wb n : Nat} {tv sv kv : Value} {Ts : List TabD} {Ks : List KeptD} {col : Nat → Nat} (h : LW w wb tv sv kv n Ts Ks col) (hb : Below w.heap.size w W) : LW W wb tv sv kv n Ts Ks col := h.below hb fun _ _ _ => rfl
theorem LS.still {w W : World} {sv : Value} {Ss : List SwD} {col : Nat → Nat} {M : Int} (h : LS w sv Ss col M) (hb : Below w.heap.size w W) : LS W sv Ss col M := h.keep (X := fun _ => False) (Chg.of_below hb) (fun _ hx => hx.elim) fun _ _ _ => rfl
theorem LS.later {w : World} {sv : Value} {Ss : List SwD} {col : Nat → Nat} {M M' : Int} (h : LS w sv Ss col M) (hM : M ≤ M') : LS w sv Ss col M' := ⟨h.mean, h.c1, h.row, h.cS, h.pS, fun i hi => (h.sw i hi).later hM⟩

set_option maxRecDepth 100000 in
set_option maxHeartbeats 4000000 in
theorem lsets_tick (w : World) (wb i : Nat) (tv sv kv : Value) (n : Nat) (Ts : List TabD) (Ss : List SwD) (Ks : List KeptD) (col : Nat → Nat) (M : Int) (oa oN oM oK : Int) (oS : ByteArray) (la : Option Addr) (ll lc : Nat) (r : Rl) (x0 x1 x2 x3 x4 : Int) (h : LW w wb tv sv kv n Ts Ks col) (hs : LS w sv Ss col M) (hi : i < Ss.length) (hM : M ≤ 1000000000000000000) :
    Calls Tryz.prog 29 #[.pointer (some ⟨Ss[i].p, 0, none⟩), .agg #[.int .i64 13, .int .i64 oa, .int .i64 oN, .int .i64 oM, .int .i64 oK, .string oS, .slice la ll lc, .int .i64 r.id, .int .i64 r.pr, .int .i64 r.k0, .int .i64 r.v0, .int .i64 r.m0, .int .i64 r.k1, .int .i64 r.v1, .int .i64 r.m1, .int .i64 r.k2, .int .i64 r.v2, .int .i64 r.m2, .int .i64 r.k3, .int .i64 r.v3, .int .i64 r.m3, .int .i64 r.k4, .int .i64 r.v4, .int .i64 r.m4, .int .i64 r.ac, .int .i64 r.po, .int .i64 x0, .int .i64 x1, .int .i64 x2, .int .i64 x3, .int .i64 x4]] w fun e W => e = .returned (.bool true) ∧ ∃ col' d', LW W wb tv sv kv n Ts Ks col' ∧ LS W sv (Ss.set i d') col' (M + 1000000) ∧ (Ss[i].Plain → d'.Plain) ∧ Left w W col col' := by
  obtain ⟨W1, hW1⟩ : ∃ W1, W1 = w.alloc (.cells #[.int .i64 13, .int .i64 oa, .int .i64 oN, .int .i64 oM, .int .i64 oK, .string oS, .slice la ll lc, .int .i64 r.id, .int .i64 r.pr, .int .i64 r.k0, .int .i64 r.v0, .int .i64 r.m0, .int .i64 r.k1, .int .i64 r.v1, .int .i64 r.m1, .int .i64 r.k2, .int .i64 r.v2, .int .i64 r.m2, .int .i64 r.k3, .int .i64 r.v3, .int .i64 r.m3, .int .i64 r.k4, .int .i64 r.v4, .int .i64 r.m4, .int .i64 r.ac, .int .i64 r.po, .int .i64 x0, .int .i64 x1, .int .i64 x2, .int .i64 x3, .int .i64 x4] 41) := ⟨_, rfl⟩
  obtain ⟨bk, hbk⟩ : ∃ bk, bk = w.heap.size := ⟨_, rfl⟩
  have hb1 : Below w.heap.size w W1 := by rw [hW1]; exact (Below.refl _ w).alloc (Nat.le_refl _) _
  have hk : W1.rangeAt bk 0 [.int .i64 13, .int .i64 oa, .int .i64 oN, .int .i64 oM, .int .i64 oK, .string oS, .slice la ll lc, .int .i64 r.id, .int .i64 r.pr, .int .i64 r.k0, .int .i64 r.v0, .int .i64 r.m0, .int .i64 r.k1, .int .i64 r.v1, .int .i64 r.m1, .int .i64 r.k2, .int .i64 r.v2, .int .i64 r.m2, .int .i64 r.k3, .int .i64 r.v3, .int .i64 r.m3, .int .i64 r.k4, .int .i64 r.v4, .int .i64 r.m4, .int .i64 r.ac, .int .i64 r.po, .int .i64 x0, .int .i64 x1, .int .i64 x2, .int .i64 x3, .int .i64 x4] := by rw [hW1, hbk]; exact range_new _ _ _
  have k0 : W1.cell? ⟨bk, 0, none⟩ = some (.int .i64 13) := hk 0 _ rfl
  have k2 : W1.cell? ⟨bk, 2, none⟩ = some (.int .i64 oN) := hk 2 _ rfl
  have hbl : bk < W1.heap.size := block_lt_of_cell k0
  have hA := (h.still hb1).still ((Below.refl _ W1).drew)
  have hsA := (hs.still hb1).still ((Below.refl _ W1).drew)
  have hd := hsA.sw i hi
  obtain ⟨d, hde⟩ : ∃ d, d = Ss[i] := ⟨_, rfl⟩
  rw [← hde] at hd ⊢
  have q0 : W1.cell? ⟨d.p, 0, none⟩ = some (.pointer (some ⟨d.s, 0, none⟩)) := hd.c0
  have q1 : W1.cell? ⟨d.p, 1, none⟩ = some (.pointer (some ⟨d.y, 0, none⟩)) := hd.c1
  have hpl : d.p < W1.heap.size := block_lt_of_cell q0
  have hP : d.P.length = d.x.Q.length := by rw [hd.eP]; unfold XSt.P; rw [List.length_map]
  have hn0 : 0 < d.P.length := by rw [hP]; exact hd.n0
  have hbA : Below w.heap.size w W1.drew := hb1.drew
  have hkl : d.k < w.heap.size := by rw [hde]; exact (hs.sw i hi).imp.lt (.inr (.inl rfl))
  have hyl : d.y < w.heap.size := by rw [hde]; exact (hs.sw i hi).ref.lt
  have hnb : ¬ bk = d.k := by omega
  have hpk : ¬ d.p = d.k := fun e => by have := hd.cI d.k (.inr (.inl rfl)); rw [← e, hd.cp] at this; omega
  by_cases hsec : 0 ≤ oN ∧ oN ≤ 1000000
  · have CT := hide (sTick_more d.s d.k d.m d.sv d.K oN W1.drew hd.imp.p.h5 hd.imp.p.hK (by rw [hd.eK]; have := hd.k64; omega) hsec (by rw [hd.eK]; exact hd.yg))
    have HA := hide hA
    have HS := hide hsA
    have HD := hide hd
    have HDE := hide hde
    have HSEC := hide hsec
    have HBA := hide hbA
    have HQ := hide (And.intro k2 q1)
    have HM := hide hM
    clear h hs hA hsA hd hde hsec hb1 hbA hk hM hP hn0
    go_enter Tryz.func29, Tryz.ntmps29
    go_wp2_with fail
    rw [← hW1, ← hbk]
    clear hW1 hbk
    go_region_with
      (first | (go_at_call 82; refine CT.out.mono ?_; rintro e w2 ⟨rfl, hI⟩; have HI := hide hI; clear hI))
    all_goals
      obtain ⟨m1, sv1, hkn, hm1, ho1, hc1, hone⟩ := HI.out
      have hd := HD.out
      have c2 : w2.cell? ⟨bk, 2, none⟩ = some (.int .i64 oN) := hc1.block.cell hnb HQ.out.1
      have p1 : w2.cell? ⟨d.p, 1, none⟩ = some (.pointer (some ⟨d.y, 0, none⟩)) := hc1.block.cell hpk HQ.out.2
      have hbl2 : bk < w2.heap.size := block_lt_of_cell c2
      have hpl2 : d.p < w2.heap.size := block_lt_of_cell p1
      have hck : col d.k = 6 * i + 10 := hd.cI d.k (.inr (.inl rfl))
      have hx1 : XSw w2.drew d.y d.x := (hd.ref.keep fun b hb hbl => hc1.block b hbl fun e => by
        have e1 := hd.cX b hb
        rw [e, hck] at e1
        omega).below ((Below.refl _ w2).drew)
      have CX := hide (xTick_any d.y d.x oN w2.drew hx1 HSEC.out hd.k64 ⟨hd.now.1, Int.le_trans hd.now.2 HM.out⟩ hd.yg)
      have FIN : Hid (∀ W, XTicked d.y d.x oN w2.drew W → ∃ col' d', LW W wb tv sv kv n Ts Ks col' ∧ LS W sv (Ss.set i d') col' (M + 1000000) ∧ (d.Plain → d'.Plain) ∧ Left w W col col') := hide (by
        rintro W ⟨kv2, hx2, hc2, ho2, hnil⟩
        have hc2' : Chg (fun b => b = d.y) w2 W := (Chg.of_below ((Below.refl _ w2).drew)).trans hc2
        have hde := HDE.out
        subst hde
        have hone' : w2.cell? ⟨Ss[i].k, 1, none⟩ = none := hone.trans hd.one
        have hk2 : KnownAt w2 Ss[i].k m1 sv1 (tickL oN Ss[i].x.K) := by rw [← hd.eK]; exact hkn
        have hfin := both_learned (M' := M + 1000000) HA.out HS.out hi hk2 (.inr hm1) (fun b hb => .inr (ho1 b hb)) (hc1.mono fun _ _ e => .inl e) hone' hx2 (fun b hb => .inr (ho2 b hb)) (hc2'.mono fun _ _ e => .inl e) (Nat.le_trans (tickL_length _ _) hd.k64) (fun e he => by
          obtain ⟨-, q, hq, e1, e2, e3, e4⟩ := tickL_mem he
          rw [e2, e3]
          exact hd.kp q hq) (fun e he => by
          obtain ⟨h3, q, hq, e1, e2, e3, e4⟩ := tickL_mem he
          have hy := hd.yg q hq
          have := HSEC.out
          unfold Young at hy ⊢
          omega) hnil (by have := hd.now; have := HSEC.out; omega) (by omega)
        refine ⟨_, _, hfin.1, hfin.2, fun hp => ⟨hp.fs, hp.l, hp.v, hp.r, hp.xf, hp.xr, hp.xh⟩, Left.under ⟨⟨fun b => b = Ss[i].k ∨ b = Ss[i].y, (hc1.mono fun _ _ e => .inl e).trans (hc2'.mono fun _ _ e => .inr e), fun x hx _ => ?_⟩, fun x hx _ => ?_⟩ HBA.out⟩
        · rcases hx with rfl | rfl
          · rw [hck]; omega
          · rw [hd.cX _ (.inl rfl)]; omega
        · unfold learnt; rw [if_pos hx])
      clear hkn hm1 ho1 hc1 hone hd hx1 HI HA HS HD HDE HSEC HBA HQ HM CT hck hkl hyl q0 q1 k0 k2 hbl hpl
      go_wp2_with fail
      go_region_with
        (first | (go_at_call 83; refine CX.out.mono ?_; rintro e W ⟨rfl, hX⟩; have HF := hide (FIN.out W hX); clear hX))
      all_goals
        clear CX FIN c2 p1 hbl2 hpl2
        have CN := hide (lnum_any 0 W)
        go_wp2_with fail
        refine CN.out.mono ?_
        rintro e W' ⟨rfl, hww⟩
        rw [hww]
        clear hww W' CN
        go_wp2
        go_ret
        exact ⟨rfl, HF.out⟩
  · have CT := hide (sTick_no d.s oN W1.drew hsec)
    have hsec2 : oN < 0 ∨ 1000000 < oN := by omega
    have CX := hide (xTick_bad d.y oN W1.drew.drew hsec2)
    have HF : Hid (∀ W, Below W1.heap.size W1 W → ∃ col' d', LW W wb tv sv kv n Ts Ks col' ∧ LS W sv (Ss.set i d') col' (M + 1000000) ∧ (d.Plain → d'.Plain) ∧ Left w W col col') := hide fun W hW => by
      refine ⟨col, Ss[i], (h.still hb1).still hW, ?_, fun hp => by rw [← hde]; exact hp, Left.under ⟨⟨fun _ => False, Chg.of_below hW, fun _ hx => hx.elim⟩, fun _ _ _ => rfl⟩ hb1⟩
      rw [List.set_getElem_self]
      exact ((hs.still hb1).still hW).later (by omega)
    clear h hs hA hsA hd hde hsec hsec2 hb1 hbA hk hM hP hn0
    go_enter Tryz.func29, Tryz.ntmps29
    go_wp2_with fail
    rw [← hW1, ← hbk]
    clear hW1 hbk
    go_region_with
      (first | (go_at_call 82; refine CT.out.mono ?_; rintro e w2 ⟨rfl, hww⟩; rw [hww]; clear hww w2))
    all_goals
      go_wp2_with fail
      go_region_with
        (first | (go_at_call 83; refine CX.out.mono ?_; rintro e w2 ⟨rfl, hww⟩; rw [hww]; clear hww w2))
      all_goals
        have CN := hide (lnum_any 9 W1.drew.drew)
        go_wp2_with fail
        refine CN.out.mono ?_
        rintro e W' ⟨rfl, hww⟩
        rw [hww]
        clear hww W' CN
        go_wp2
        go_ret
        exact ⟨rfl, HF.out _ ((Below.refl _ W1).drew.drew)⟩
end Go.Proofs.YtnjalelblbjfiaaGreatDoor
