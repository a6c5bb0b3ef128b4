import Derived.Test.YtnjalelblbjfiaaGreatDoorP19
namespace Go.Proofs.YtnjalelblbjfiaaGreatDoor
open Go.RowKit
attribute [local go_sem] Oper.semAt_some cell?_regrown
attribute [local go_sem ↓ high] buildKeptR
attribute [local go_sem ↓ high] xLoad_fold xStore_fold xApp_fold

theorem Chg.setCells {X : Nat → Prop} {a : World} {g : Nat} : ∀ (vs : List Value) (o : Nat) {b : World}, X g ∨ a.heap.size ≤ g → Chg X a b → Chg X a (b.setCells g o vs)
  | [], _, _, _, h => h
  | v :: vs, o, _, hx, h => Chg.setCells vs (o + 1) hx (Chg.setCell (p := ⟨g, o, none⟩) h hx v)
theorem news_mark (W : World) (x : Int) (j : Nat) : ∀ q u, (rep [.int .i64 x, .int .i64 0, .int .i64 0, .int .i64 0, .int .i64 0, .int .i64 0, .int .i64 0, .int .i64 0, .int .i64 0, .int .i64 0, .int .i64 0, .int .i64 0, .int .i64 0, .int .i64 0, .int .i64 0, .int .i64 0, .int .i64 0, .int .i64 0, .int .i64 0] j)[q]? = some u → (W.alloc (.cells (markA x j) 37)).cell? ((⟨W.heap.size, 0, none⟩ : Addr).add q) = some u := fun q u hu => by
  rw [Addr.add_mid]
  exact range_new W (markA x j) 37 q u (by unfold markA; rw [List.toList_toArray]; exact hu)
theorem Hld.alloc {w : World} {e : TypeId} {s len : Nat} {M : List Value} {v : Value} (h : Hld w e s M v len) (b : Obj) : Hld (w.alloc b) e s M v len := by
  rcases h with h | ⟨g, cap, cur, e1, hg, h2, h3, hf⟩
  · exact .inl h
  · have hl : g < w.heap.size := (Array.getElem?_eq_some_iff.1 hg).1
    exact .inr ⟨g, cap, cur, e1, (heap_alloc_old w b hl).trans hg, h2, h3, fun k hk q u hu => (World.cell?_of_block (a := ⟨g, k * s + q, none⟩) (heap_alloc_old w b hl)).trans (hf k hk q u hu)⟩
/-- One append of marks, as the walk needs it. -/
theorem mark_append {W : World} {x : Int} {v : Value} {len : Nat} (h : Hld W 37 19 [.int .i64 x, .int .i64 0, .int .i64 0, .int .i64 0, .int .i64 0, .int .i64 0, .int .i64 0, .int .i64 0, .int .i64 0, .int .i64 0, .int .i64 0, .int .i64 0, .int .i64 0, .int .i64 0, .int .i64 0, .int .i64 0, .int .i64 0, .int .i64 0, .int .i64 0] v len) (j : Nat) (hj : 0 < j ∧ j ≤ 3) (hl : len ≤ 1000) : ∃ b cap W', (xApp #[54, 54] 54 #[v, .slice (some ⟨W.heap.size, 0, none⟩) j j]).run Tryz.prog (W.alloc (.cells (markA x j) 37)) = .ok (.value (.slice (some ⟨b, 0, none⟩) (len + j) cap)) W' ∧ Grew W W' 37 19 [.int .i64 x, .int .i64 0, .int .i64 0, .int .i64 0, .int .i64 0, .int .i64 0, .int .i64 0, .int .i64 0, .int .i64 0, .int .i64 0, .int .i64 0, .int .i64 0, .int .i64 0, .int .i64 0, .int .i64 0, .int .i64 0, .int .i64 0, .int .i64 0, .int .i64 0] v len j b := by
  obtain ⟨i0, hi, hz0, hz1, hz2⟩ := info_parts infoRule
  have hb0 : Below W.heap.size W (W.alloc (.cells (markA x j) 37)) := (Below.refl _ W).alloc (Nat.le_refl _) _
  obtain ⟨b, cap, W', hr, G⟩ := grow_marks (P := Tryz.prog) (ty := 54) (c := j) underRules hi hz0 hz1 hz2 (M := [.int .i64 x, .int .i64 0, .int .i64 0, .int .i64 0, .int .i64 0, .int .i64 0, .int .i64 0, .int .i64 0, .int .i64 0, .int .i64 0, .int .i64 0, .int .i64 0, .int .i64 0, .int .i64 0, .int .i64 0, .int .i64 0, .int .i64 0, .int .i64 0, .int .i64 0]) rfl (by simp [Value.oneCell']) (h.alloc (.cells (markA x j) 37)) j (news_mark W x j) hj.1 (by unfold maxLen; omega) (by omega)
  refine ⟨b, cap, W', xApp_run hr, ⟨(Chg.of_below hb0).trans G.chg, G.blk.imp id fun h => Nat.le_trans hb0.size h, G.lt, G.full, G.hld, fun g k h => G.still g k (rangeAt_below h hb0)⟩⟩

set_option maxRecDepth 100000 in
set_option maxHeartbeats 2000000 in
theorem lrules_any (w : World) (wb : Nat) (tv sv kv v : Value) (n len : Nat) (Ks : List KeptD) (col : Nat → Nat) (h : WS w wb tv sv kv n Ks col) (hv : Lst w 37 19 v len) (hc : ∀ x, v.ownBlock = some x → col x = 0) (hl : len ≤ 1000) (hn : n < 1000000000) (hK : Ks.length + 4 ≤ 1000000000) :
    Calls Tryz.prog 30 #[.pointer (some ⟨wb, 0, none⟩), v] w fun e W => e = .returned (.tuple #[]) ∧ ∃ kv' Ks' col', Ks'.length = Ks.length + 4 ∧ WS W wb tv sv kv' (n + 1) Ks' col' ∧ Chg (fun x => x = wb ∨ kv.ownBlock = some x ∨ v.ownBlock = some x) w W ∧ ∀ x, x < w.heap.size → col x ≠ 0 → col' x = col x := by
  obtain ⟨dr, hur, hdr⟩ := underRule
  obtain ⟨m, hm⟩ : ∃ m : Nat, m = n + 1 := ⟨_, rfl⟩
  have hw1 : IntKind.i64.wrap ((n : Int) + 1) = (m : Int) := by rw [IntKind.wrap_i64]; omega
  have hw2 : IntKind.i64.wrap (-(m : Int)) = -(m : Int) := by rw [IntKind.wrap_i64]; omega
  have h2 := h.c2
  have h3 := h.c3
  have hwl : wb < w.heap.size := block_lt_of_cell h2
  have f2 := h.frz 2
  have hsv : (∃ a c, v = .slice a len c) ∧ ∀ x, v.ownBlock = some x → x < w.heap.size := by
    rcases hv with ⟨rfl, rfl⟩ | ⟨g, cap, cur, rfl, hg, -⟩
    · exact ⟨⟨_, _, rfl⟩, fun x hx => by cases hx⟩
    · exact ⟨⟨_, _, rfl⟩, fun x hx => by cases hx; exact (Array.getElem?_eq_some_iff.1 hg).1⟩
  obtain ⟨⟨av, cv, hve⟩, hvl⟩ := hsv
  have hvw : v.ownBlock ≠ some wb := fun e => by have := hc wb e; rw [h.cw] at this; omega
  obtain ⟨W2, hW2⟩ : ∃ W2, W2 = (w.setCell ⟨wb, 2, none⟩ (.int .i64 m)).alloc (.cells #[.int .i64 (-(m : Int)), .int .i64 0, .int .i64 0, .int .i64 0, .int .i64 0, .int .i64 0, .int .i64 0, .int .i64 0, .int .i64 0, .int .i64 0, .int .i64 0, .int .i64 0, .int .i64 0, .int .i64 0, .int .i64 0, .int .i64 0, .int .i64 0, .int .i64 0, .int .i64 0] 37) := ⟨_, rfl⟩
  have hsz : (w.setCell ⟨wb, 2, none⟩ (.int .i64 m)).heap.size = w.heap.size := by simp
  have hst : (xStore (.pointer (some ⟨w.heap.size, 0, none⟩)) (.agg #[.int .i64 (-(m : Int)), .int .i64 0, .int .i64 0, .int .i64 0, .int .i64 0, .int .i64 0, .int .i64 0, .int .i64 0, .int .i64 0, .int .i64 0, .int .i64 0, .int .i64 0, .int .i64 0, .int .i64 0, .int .i64 0, .int .i64 0, .int .i64 0, .int .i64 0, .int .i64 0])).run Tryz.prog ((w.setCell ⟨wb, 2, none⟩ (.int .i64 m)).alloc (.cells #[.int .i64 0, .int .i64 0, .int .i64 0, .int .i64 0, .int .i64 0, .int .i64 0, .int .i64 0, .int .i64 0, .int .i64 0, .int .i64 0, .int .i64 0, .int .i64 0, .int .i64 0, .int .i64 0, .int .i64 0, .int .i64 0, .int .i64 0, .int .i64 0, .int .i64 0] 37)) = .ok () W2 := by
    have := run_storeAt_new (P := Tryz.prog) (w.setCell ⟨wb, 2, none⟩ (.int .i64 m)) 37 #[.int .i64 0, .int .i64 0, .int .i64 0, .int .i64 0, .int .i64 0, .int .i64 0, .int .i64 0, .int .i64 0, .int .i64 0, .int .i64 0, .int .i64 0, .int .i64 0, .int .i64 0, .int .i64 0, .int .i64 0, .int .i64 0, .int .i64 0, .int .i64 0, .int .i64 0] #[.int .i64 (-(m : Int)), .int .i64 0, .int .i64 0, .int .i64 0, .int .i64 0, .int .i64 0, .int .i64 0, .int .i64 0, .int .i64 0, .int .i64 0, .int .i64 0, .int .i64 0, .int .i64 0, .int .i64 0, .int .i64 0, .int .i64 0, .int .i64 0, .int .i64 0, .int .i64 0] sizeRule rfl (by simp [Value.oneCell'])
    rw [hsz] at this
    rw [hW2]
    exact this
  have c1 : Chg (fun x => x = wb) w (w.setCell ⟨wb, 2, none⟩ (.int .i64 m)) := Chg.setCell (X := fun x => x = wb) (p := ⟨wb, 2, none⟩) (Chg.refl _ w) (.inl rfl) _
  have c2 : Chg (fun x => x = wb) w W2 := by rw [hW2]; exact c1.trans (Chg.of_below ((Below.refl _ _).alloc (Nat.le_refl _) _))
  have o1 : OnlyAt w (w.setCell ⟨wb, 2, none⟩ (.int .i64 m)) wb 2 := OnlyAt.set (fun _ => ⟨rfl, rfl⟩) _
  have ob : ∀ j, W2.cell? ⟨wb, j, none⟩ = (w.setCell ⟨wb, 2, none⟩ (.int .i64 m)).cell? ⟨wb, j, none⟩ ∧ W2.frozen? ⟨wb, j, none⟩ = (w.setCell ⟨wb, 2, none⟩ (.int .i64 m)).frozen? ⟨wb, j, none⟩ := fun j => by
    rw [hW2]
    exact OnlyAt.of_block (heap_alloc_old _ _ (by rw [hsz]; exact hwl)) j
  have d0 := (ob 0).1.trans ((o1 0 (by decide)).1.trans h.c0)
  have d1 := (ob 1).1.trans ((o1 1 (by decide)).1.trans h.c1)
  have d2 := (ob 2).1.trans (World.cell?_setCell_same _ _ _ h2)
  have d3 := (ob 3).1.trans ((o1 3 (by decide)).1.trans h3)
  have df : ∀ j, W2.frozen? ⟨wb, j, none⟩ = false := fun j => (ob j).2.trans ((World.frozen?_setCell _ _ _ _).trans (h.frz j))
  have bx : W2.rangeAt w.heap.size 0 [.int .i64 (-(m : Int)), .int .i64 0, .int .i64 0, .int .i64 0, .int .i64 0, .int .i64 0, .int .i64 0, .int .i64 0, .int .i64 0, .int .i64 0, .int .i64 0, .int .i64 0, .int .i64 0, .int .i64 0, .int .i64 0, .int .i64 0, .int .i64 0, .int .i64 0, .int .i64 0] := by
    rw [hW2, ← hsz]
    exact range_new _ _ _
  have s2 : w.heap.size < W2.heap.size := by rw [hW2]; simp
  have mk0 : Mkd W2 37 19 [.int .i64 (-(m : Int)), .int .i64 0, .int .i64 0, .int .i64 0, .int .i64 0, .int .i64 0, .int .i64 0, .int .i64 0, .int .i64 0, .int .i64 0, .int .i64 0, .int .i64 0, .int .i64 0, .int .i64 0, .int .i64 0, .int .i64 0, .int .i64 0, .int .i64 0, .int .i64 0] v len 0 := by
    rcases hv with h | ⟨g, cap, cur, e, hg, h2, h3⟩
    · exact .inl h
    · refine .inr ⟨g, cap, cur, e, ?_, h2, h3, fun k hk => absurd hk (Nat.not_lt_zero k)⟩
      have hgw : g ≠ wb := fun e' => hvw (by rw [e, ← e']; rfl)
      exact (c2.block g (Array.getElem?_eq_some_iff.1 hg).1 hgw).trans hg
  have HH := hide h
  have HV := hide fun x (hx : v.ownBlock = some x) => And.intro (hc x hx) (hvl x hx)
  have HC2 := hide c2
  have HD := hide (And.intro d0 (And.intro d1 (And.intro d2 (And.intro d3 df))))
  have HBX := hide bx
  have HMK := hide mk0
  have HVW := hide hvw
  have HM := hide hm
  have HL := hide hl
  have HKL := hide hK
  have HN := hide hn
  have HS2 := hide s2
  have hlen : (len : Int) ≤ 1000 := by omega
  subst hve
  clear h hv hc hvl hvw hsz c1 c2 o1 ob d0 d1 d2 d3 df bx mk0 hW2 hm hl hK hn s2 h3
  go_enter Tryz.func30, Tryz.ntmps30
  go_wp2_with fail
  clear hst hw1 h2 f2 hwl
  go_loopw [5] (fun i wr => ∃ j : Nat, j ≤ len ∧ i = .int .i64 j ∧ Chg (fun x => (Value.slice av len cv).ownBlock = some x) W2 wr ∧ Mkd wr 37 19 [.int .i64 (-(m : Int)), .int .i64 0, .int .i64 0, .int .i64 0, .int .i64 0, .int .i64 0, .int .i64 0, .int .i64 0, .int .i64 0, .int .i64 0, .int .i64 0, .int .i64 0, .int .i64 0, .int .i64 0, .int .i64 0, .int .i64 0, .int .i64 0, .int .i64 0, .int .i64 0] (.slice av len cv) len j) (fun i _ => len - (intOf i).toNat)
  case atStart => exact ⟨0, by omega, rfl, ⟨rfl, rfl, rfl, Nat.le_refl _, fun _ _ _ => rfl⟩, HMK.out⟩
  case round =>
    obtain ⟨j, hj, rfl, hcg, hmk⟩ := hrel
    have hnb : (Value.slice av len cv).ownBlock ≠ some w.heap.size := fun e => by have := (HV.out _ e).2; omega
    have bxr : wr.rangeAt w.heap.size 0 [.int .i64 (-(m : Int)), .int .i64 0, .int .i64 0, .int .i64 0, .int .i64 0, .int .i64 0, .int .i64 0, .int .i64 0, .int .i64 0, .int .i64 0, .int .i64 0, .int .i64 0, .int .i64 0, .int .i64 0, .int .i64 0, .int .i64 0, .int .i64 0, .int .i64 0, .int .i64 0] := fun i u hu => hcg.block.cell hnb (HBX.out i u hu)
    have hld : (xLoad (.pointer (some ⟨w.heap.size, 0, none⟩))).run Tryz.prog wr = .ok (.agg #[.int .i64 (-(m : Int)), .int .i64 0, .int .i64 0, .int .i64 0, .int .i64 0, .int .i64 0, .int .i64 0, .int .i64 0, .int .i64 0, .int .i64 0, .int .i64 0, .int .i64 0, .int .i64 0, .int .i64 0, .int .i64 0, .int .i64 0, .int .i64 0, .int .i64 0, .int .i64 0]) wr := run_loadAt_mid wr w.heap.size 0 37 [.int .i64 (-(m : Int)), .int .i64 0, .int .i64 0, .int .i64 0, .int .i64 0, .int .i64 0, .int .i64 0, .int .i64 0, .int .i64 0, .int .i64 0, .int .i64 0, .int .i64 0, .int .i64 0, .int .i64 0, .int .i64 0, .int .i64 0, .int .i64 0, .int .i64 0, .int .i64 0] dr bxr hur hdr sizeRule
    have hxl : w.heap.size < wr.heap.size := block_lt_of_cell (cell_at0 bxr)
    have HCG := hide hcg
    have HMJ := hide hmk
    clear hcg hmk
    by_cases hjl : j < len
    · have hji : (j : Int) < len := by omega
      obtain ⟨g, hav⟩ : ∃ g, av = some ⟨g, 0, none⟩ := by
        rcases HMJ.out with ⟨-, e⟩ | ⟨g, cap, cur, e, -⟩
        · omega
        · cases e; exact ⟨g, rfl⟩
      subst hav
      obtain ⟨ht, hmk'⟩ := HMJ.out.step rfl hjl
      obtain ⟨Wn, hWn⟩ : ∃ Wn, Wn = wr.setCells g (j * 19) [.int .i64 (-(m : Int)), .int .i64 0, .int .i64 0, .int .i64 0, .int .i64 0, .int .i64 0, .int .i64 0, .int .i64 0, .int .i64 0, .int .i64 0, .int .i64 0, .int .i64 0, .int .i64 0, .int .i64 0, .int .i64 0, .int .i64 0, .int .i64 0, .int .i64 0, .int .i64 0] := ⟨_, rfl⟩
      have hsto : (xStore (.pointer (some ⟨g, j * 19, none⟩)) (.agg #[.int .i64 (-(m : Int)), .int .i64 0, .int .i64 0, .int .i64 0, .int .i64 0, .int .i64 0, .int .i64 0, .int .i64 0, .int .i64 0, .int .i64 0, .int .i64 0, .int .i64 0, .int .i64 0, .int .i64 0, .int .i64 0, .int .i64 0, .int .i64 0, .int .i64 0, .int .i64 0])).run Tryz.prog wr = .ok () Wn := by
        rw [hWn]
        exact run_storeAt_mid (P := Tryz.prog) wr g (j * 19) 37 #[.int .i64 (-(m : Int)), .int .i64 0, .int .i64 0, .int .i64 0, .int .i64 0, .int .i64 0, .int .i64 0, .int .i64 0, .int .i64 0, .int .i64 0, .int .i64 0, .int .i64 0, .int .i64 0, .int .i64 0, .int .i64 0, .int .i64 0, .int .i64 0, .int .i64 0, .int .i64 0] ht sizeRule (by simp [Value.oneCell'])
      have HCN : Hid (Chg (fun x => (Value.slice (some ⟨g, 0, none⟩) len cv).ownBlock = some x) W2 Wn) := hide (by
        rw [hWn]
        exact Chg.setCells [.int .i64 (-(m : Int)), .int .i64 0, .int .i64 0, .int .i64 0, .int .i64 0, .int .i64 0, .int .i64 0, .int .i64 0, .int .i64 0, .int .i64 0, .int .i64 0, .int .i64 0, .int .i64 0, .int .i64 0, .int .i64 0, .int .i64 0, .int .i64 0, .int .i64 0, .int .i64 0] (j * 19) (.inl rfl) HCG.out)
      have HMN : Hid (Mkd Wn 37 19 [.int .i64 (-(m : Int)), .int .i64 0, .int .i64 0, .int .i64 0, .int .i64 0, .int .i64 0, .int .i64 0, .int .i64 0, .int .i64 0, .int .i64 0, .int .i64 0, .int .i64 0, .int .i64 0, .int .i64 0, .int .i64 0, .int .i64 0, .int .i64 0, .int .i64 0, .int .i64 0] (.slice (some ⟨g, 0, none⟩) len cv) len (j + 1)) := hide (by rw [hWn]; exact hmk')
      have hgl : g < wr.heap.size := by
        rcases HMJ.out with ⟨e, -⟩ | ⟨g', cap, cur, e, hg, -⟩
        · cases e
        · cases e; exact (Array.getElem?_eq_some_iff.1 hg).1
      clear hWn ht hmk' bxr
      go_wp2_with fail
      go_roundw
      case rel => exact ⟨j + 1, by omega, by go_num, HCN.out, HMN.out⟩
      case measure => simp [intOf]; omega
    · have hji : ¬ (j : Int) < len := by omega
      have hje : j = len := by omega
      have hH : Hld wr 37 19 [.int .i64 (-(m : Int)), .int .i64 0, .int .i64 0, .int .i64 0, .int .i64 0, .int .i64 0, .int .i64 0, .int .i64 0, .int .i64 0, .int .i64 0, .int .i64 0, .int .i64 0, .int .i64 0, .int .i64 0, .int .i64 0, .int .i64 0, .int .i64 0, .int .i64 0, .int .i64 0] (.slice av len cv) len := by
        have := HMJ.out
        rw [hje] at this
        exact this
      obtain ⟨ba, ca, W3, ha, GA⟩ := mark_append hH 1 (by omega) HL.out
      obtain ⟨bb, cb, W5, hb, GB⟩ := mark_append GA.hld 2 (by omega) HL.out
      obtain ⟨bc, cc, W7, hcc, GC⟩ := mark_append GB.hld 3 (by omega) HL.out
      have ha' : (xApp #[54, 54] 54 #[.slice av len cv, .slice (some ⟨wr.heap.size, 0, none⟩) 1 1]).run Tryz.prog (wr.alloc (.cells #[.int .i64 (-(m : Int)), .int .i64 0, .int .i64 0, .int .i64 0, .int .i64 0, .int .i64 0, .int .i64 0, .int .i64 0, .int .i64 0, .int .i64 0, .int .i64 0, .int .i64 0, .int .i64 0, .int .i64 0, .int .i64 0, .int .i64 0, .int .i64 0, .int .i64 0, .int .i64 0] 37)) = .ok (.value (.slice (some ⟨ba, 0, none⟩) (len + 1) ca)) W3 := ha
      have hb' : (xApp #[54, 54] 54 #[.slice av len cv, .slice (some ⟨W3.heap.size, 0, none⟩) 2 2]).run Tryz.prog (W3.alloc (.cells #[.int .i64 (-(m : Int)), .int .i64 0, .int .i64 0, .int .i64 0, .int .i64 0, .int .i64 0, .int .i64 0, .int .i64 0, .int .i64 0, .int .i64 0, .int .i64 0, .int .i64 0, .int .i64 0, .int .i64 0, .int .i64 0, .int .i64 0, .int .i64 0, .int .i64 0, .int .i64 0, .int .i64 (-(m : Int)), .int .i64 0, .int .i64 0, .int .i64 0, .int .i64 0, .int .i64 0, .int .i64 0, .int .i64 0, .int .i64 0, .int .i64 0, .int .i64 0, .int .i64 0, .int .i64 0, .int .i64 0, .int .i64 0, .int .i64 0, .int .i64 0, .int .i64 0, .int .i64 0] 37)) = .ok (.value (.slice (some ⟨bb, 0, none⟩) (len + 2) cb)) W5 := hb
      have hc' : (xApp #[54, 54] 54 #[.slice av len cv, .slice (some ⟨W5.heap.size, 0, none⟩) 3 3]).run Tryz.prog (W5.alloc (.cells #[.int .i64 (-(m : Int)), .int .i64 0, .int .i64 0, .int .i64 0, .int .i64 0, .int .i64 0, .int .i64 0, .int .i64 0, .int .i64 0, .int .i64 0, .int .i64 0, .int .i64 0, .int .i64 0, .int .i64 0, .int .i64 0, .int .i64 0, .int .i64 0, .int .i64 0, .int .i64 0, .int .i64 (-(m : Int)), .int .i64 0, .int .i64 0, .int .i64 0, .int .i64 0, .int .i64 0, .int .i64 0, .int .i64 0, .int .i64 0, .int .i64 0, .int .i64 0, .int .i64 0, .int .i64 0, .int .i64 0, .int .i64 0, .int .i64 0, .int .i64 0, .int .i64 0, .int .i64 0, .int .i64 (-(m : Int)), .int .i64 0, .int .i64 0, .int .i64 0, .int .i64 0, .int .i64 0, .int .i64 0, .int .i64 0, .int .i64 0, .int .i64 0, .int .i64 0, .int .i64 0, .int .i64 0, .int .i64 0, .int .i64 0, .int .i64 0, .int .i64 0, .int .i64 0, .int .i64 0] 37)) = .ok (.value (.slice (some ⟨bc, 0, none⟩) (len + 3) cc)) W7 := hcc
      clear ha hb hcc
      have bx3 : W3.rangeAt w.heap.size 0 [.int .i64 (-(m : Int)), .int .i64 0, .int .i64 0, .int .i64 0, .int .i64 0, .int .i64 0, .int .i64 0, .int .i64 0, .int .i64 0, .int .i64 0, .int .i64 0, .int .i64 0, .int .i64 0, .int .i64 0, .int .i64 0, .int .i64 0, .int .i64 0, .int .i64 0, .int .i64 0] := fun i u hu => GA.chg.block.cell hnb (bxr i u hu)
      have bx5 : W5.rangeAt w.heap.size 0 [.int .i64 (-(m : Int)), .int .i64 0, .int .i64 0, .int .i64 0, .int .i64 0, .int .i64 0, .int .i64 0, .int .i64 0, .int .i64 0, .int .i64 0, .int .i64 0, .int .i64 0, .int .i64 0, .int .i64 0, .int .i64 0, .int .i64 0, .int .i64 0, .int .i64 0, .int .i64 0] := fun i u hu => GB.chg.block.cell hnb (bx3 i u hu)
      have hld3 : (xLoad (.pointer (some ⟨w.heap.size, 0, none⟩))).run Tryz.prog W3 = .ok (.agg #[.int .i64 (-(m : Int)), .int .i64 0, .int .i64 0, .int .i64 0, .int .i64 0, .int .i64 0, .int .i64 0, .int .i64 0, .int .i64 0, .int .i64 0, .int .i64 0, .int .i64 0, .int .i64 0, .int .i64 0, .int .i64 0, .int .i64 0, .int .i64 0, .int .i64 0, .int .i64 0]) W3 := run_loadAt_mid W3 w.heap.size 0 37 [.int .i64 (-(m : Int)), .int .i64 0, .int .i64 0, .int .i64 0, .int .i64 0, .int .i64 0, .int .i64 0, .int .i64 0, .int .i64 0, .int .i64 0, .int .i64 0, .int .i64 0, .int .i64 0, .int .i64 0, .int .i64 0, .int .i64 0, .int .i64 0, .int .i64 0, .int .i64 0] dr bx3 hur hdr sizeRule
      have hld5 : (xLoad (.pointer (some ⟨w.heap.size, 0, none⟩))).run Tryz.prog W5 = .ok (.agg #[.int .i64 (-(m : Int)), .int .i64 0, .int .i64 0, .int .i64 0, .int .i64 0, .int .i64 0, .int .i64 0, .int .i64 0, .int .i64 0, .int .i64 0, .int .i64 0, .int .i64 0, .int .i64 0, .int .i64 0, .int .i64 0, .int .i64 0, .int .i64 0, .int .i64 0, .int .i64 0]) W5 := run_loadAt_mid W5 w.heap.size 0 37 [.int .i64 (-(m : Int)), .int .i64 0, .int .i64 0, .int .i64 0, .int .i64 0, .int .i64 0, .int .i64 0, .int .i64 0, .int .i64 0, .int .i64 0, .int .i64 0, .int .i64 0, .int .i64 0, .int .i64 0, .int .i64 0, .int .i64 0, .int .i64 0, .int .i64 0, .int .i64 0] dr bx5 hur hdr sizeRule
      have c7 : Chg (fun x => (Value.slice av len cv).ownBlock = some x) W2 W7 := ((HCG.out.trans GA.chg).trans GB.chg).trans GC.chg
      have hwl2 : wb < W2.heap.size := block_lt_of_cell HD.out.1
      have e2 : W7.cell? ⟨wb, 2, none⟩ = some (.int .i64 m) := c7.block.cell HVW.out HD.out.2.2.1
      have e3 : W7.cell? ⟨wb, 3, none⟩ = some kv := c7.block.cell HVW.out HD.out.2.2.2.1
      have hwl7 : wb < W7.heap.size := block_lt_of_cell e2
      have rk7 : RowIs W7 78 5 kv Ks.length (rowK Ks) := by
        have hkw : kv.ownBlock ≠ some wb := fun e => by have := HH.out.cK wb e; rw [HH.out.cw] at this; omega
        refine HH.out.rK.keep fun x hx => (c7.block x (Nat.lt_of_lt_of_le (HH.out.rK.lt hx) HC2.out.size) fun e => ?_).trans (HC2.out.block x (HH.out.rK.lt hx) fun e => hkw (by rw [hx, e]))
        have := (HV.out x e).1
        rw [HH.out.cK x hx] at this
        omega
      obtain ⟨g8, cap8, W8, hap, hown8, c8, hg8⟩ := append_kept (N := [keptR m (.slice av len cv), keptR m (.slice (some ⟨ba, 0, none⟩) (len + 1) ca), keptR m (.slice (some ⟨bb, 0, none⟩) (len + 2) cb), keptR m (.slice (some ⟨bc, 0, none⟩) (len + 3) cc)]) (A := #[.int .i64 m, .slice av len cv, .slice none 0 0, .slice none 0 0, .slice none 0 0, .int .i64 m, .slice (some ⟨ba, 0, none⟩) (len + 1) ca, .slice none 0 0, .slice none 0 0, .slice none 0 0, .int .i64 m, .slice (some ⟨bb, 0, none⟩) (len + 2) cb, .slice none 0 0, .slice none 0 0, .slice none 0 0, .int .i64 m, .slice (some ⟨bc, 0, none⟩) (len + 3) cc, .slice none 0 0, .slice none 0 0, .slice none 0 0]) rk7 HKL.out (by omega) rfl rfl (by simp [rowK, keptR, KeptD.cells, Value.oneCell'])
      have hap8 := xApp_run hap
      have hkw : kv.ownBlock ≠ some wb := fun e => by have := HH.out.cK wb e; rw [HH.out.cw] at this; omega
      have e8 : W8.cell? ⟨wb, 3, none⟩ = some kv := c8.block.cell hkw e3
      have hwl8 : wb < W8.heap.size := block_lt_of_cell e8
      have f8 : W8.frozen? ⟨wb, 3, none⟩ = false := by
        rw [(OnlyAt.of_block (c8.block wb hwl7 hkw) 3).2, (OnlyAt.of_block (c7.block wb hwl2 HVW.out) 3).2]
        exact HD.out.2.2.2.2 3
      have hx3 : w.heap.size < W3.heap.size := block_lt_of_cell (cell_at0 bx3)
      have hx5 : w.heap.size < W5.heap.size := block_lt_of_cell (cell_at0 bx5)
      have FIN := hide (marks_done (keptR m) HH.out HV.out HC2.out HD.out.1 HD.out.2.1 HD.out.2.2.1 HD.out.2.2.2.1 HD.out.2.2.2.2 c7 GC.hld (by have := HL.out; omega) (GA.blk.imp id fun h => Nat.le_trans HCG.out.size h) (GB.blk.imp id fun h => Nat.le_trans HCG.out.size (Nat.le_trans GA.chg.size h)) (GC.blk.imp id fun h => Nat.le_trans HCG.out.size (Nat.le_trans GA.chg.size (Nat.le_trans GB.chg.size h))) (Nat.lt_of_lt_of_le GA.lt (Nat.le_trans GB.chg.size GC.chg.size)) (Nat.lt_of_lt_of_le GB.lt GC.chg.size) GC.lt (ca := ca) (cb := cb) (cc := cc) (fun k hk => GC.still _ _ (GB.still _ _ (GA.full k hk))) (fun k hk => GC.still _ _ (GB.full k hk)) GC.full c8 (kv' := .slice (some ⟨g8, 0, none⟩) (Ks.length + 4) cap8) (fun x hx => by cases hx; exact hg8) hown8 (keptR_ok (by have := HN.out; have := HM.out; omega)))
      clear hH GA GB GC bx3 bx5 c7 rk7 hap hown8 c8 hg8 hkw bxr HCG HMJ
      go_wp2_with fail
      go_region
      go_end0
      refine ⟨rfl, _, _, _, ?_, HM.out ▸ FIN.out.2.1, FIN.out.1, FIN.out.2.2⟩
      simp
end Go.Proofs.YtnjalelblbjfiaaGreatDoor
