import Derived.Test.YtnjalelblbjfiaaGreatDoorP21
namespace Go.Proofs.YtnjalelblbjfiaaGreatDoor
open Go.RowKit

theorem mem_zeroCells {z : Array Value} {n : Nat} {u : Value} (h : u ∈ (Builtin.zeroCells z n).toList) : u ∈ z := by
  simp only [Builtin.zeroCells, Array.toList_map, List.mem_map, Array.mem_toList_iff, Array.mem_range] at h
  obtain ⟨i, hi, rfl⟩ := h
  have hz : 0 < z.size := by
    rcases Nat.eq_zero_or_pos z.size with h0 | h0
    · rw [h0] at hi; simp at hi
    · exact h0
  have hl : i % z.size < z.size := Nat.mod_lt _ hz
  rw [getElem!_pos z _ hl]
  exact Array.getElem_mem hl
/-- All cells of a row that append leaves are of one kind. -/
theorem append_all {P : Program} (Q : Value → Prop) (w : World) (base : Nat) (t ty e : TypeId) (i : TypeInfo) (z : Value) (size bytes : Nat) (ht : P.underlying t = some (.slice e)) (hi : P.info? e = some i) (hz : i.zero = some z)
    (hsize : i.size = size) (hby : i.bytes = bytes)
    (v : Value) (n : Nat) (xs : List Value) (hown : w.ownsRow base e size v n xs)
    (a : Addr) (m c : Nat) (news : List Value) (hl : news.length = m * size) (hnews : ∀ j u, news[j]? = some u → w.cell? (a.add j) = some u) (h1 : ∀ u ∈ news, u.oneCell' = true)
    (h63 : n + m ≤ maxLen) (hbytes : (n + m) * bytes ≤ 140737488355328) (hm : 0 < m) (qz : ∀ u ∈ z.cells, Q u) (qo : ∀ g j u, v.ownBlock = some g → w.cell? ⟨g, j, none⟩ = some u → Q u) (qn : ∀ u ∈ news, Q u) {v' : Value} {w' : World} (hr' : (Builtin.append_ #[t, t] ty #[v, .slice (some a) m c]).run P w = .ok v' w') : ∀ b j u, v'.ownBlock = some b → w'.cell? ⟨b, j, none⟩ = some u → Q u := by
  subst hsize
  subst hby
  have hsmall : n + m ≤ 9223372036854775807 := by simp only [maxLen] at h63; omega
  rcases hown.2 with ⟨rfl, rfl⟩ | ⟨g, cap, cur, rfl, hbg, hg, hnc, hcm, hcs, htake⟩
  · have hr := run_append_nil (P := P) w t ty e i z ht hi hz a m c news hl hnews (by omega) (by omega) (by have hb := hbytes; simp only [Nat.zero_add] at hb; omega)
    rw [hr] at hr'
    cases hr'
    intro b j u hb hu
    cases hb
    have hu' := (cell_of_heap (g := w.heap.size) (heap_alloc_new w.drew _)).symm.trans hu
    rw [Array.toList_append, List.toList_toArray] at hu'
    rcases List.mem_append.1 (List.mem_of_getElem? hu') with h | h
    · exact qn u h
    · exact qz u (mem_zeroCells h)
  · by_cases hroom : n + m ≤ cap
    · have hfit : n * i.size + news.length ≤ cur.size := by rw [hl, hcs, ← Nat.add_mul]; exact Nat.mul_le_mul_right _ hroom
      have hr := run_append_room (P := P) w t ty e i ht hi g n cap cur hg a m c news hl hnews h1 hroom hfit
      have hh := setRow_heap w g cur (cur.toList.take (n * i.size) ++ news ++ cur.toList.drop (n * i.size + news.length)).toArray e _ hg
      rw [hr] at hr'
      cases hr'
      intro b j u hb hu
      cases hb
      have old : ∀ x ∈ cur.toList, Q x := fun x hx => by
        obtain ⟨k, hk, rfl⟩ := List.getElem_of_mem hx
        exact qo g k _ rfl ((cell_of_heap hg).trans (List.getElem?_eq_getElem hk))
      have hu' := (cell_of_heap hh).symm.trans hu
      rw [List.toList_toArray] at hu'
      rcases List.mem_append.1 (List.mem_of_getElem? hu') with h | h
      · rcases List.mem_append.1 h with h | h
        · exact old u (List.mem_of_mem_take h)
        · exact qn u h
      · exact old u (List.mem_of_mem_drop h)
    · have holds : ∀ j u, xs[j]? = some u → w.cell? ((⟨g, 0, none⟩ : Addr).add j) = some u := hown.cells (g := g) rfl
      have hr := run_append_grow (P := P) w t ty e i z ht hi hz ⟨g, 0, none⟩ n cap xs hown.1 holds a m c news hl hnews (by omega) (by omega) (growslice_fits (by omega) hbytes)
      rw [hr] at hr'
      cases hr'
      intro b j u hb hu
      cases hb
      have hu' := (cell_of_heap (g := w.heap.size) (heap_alloc_new w.drew _)).symm.trans hu
      simp only [Array.toList_append] at hu'
      rcases List.mem_append.1 (List.mem_of_getElem? hu') with h | h
      · rcases List.mem_append.1 h with h | h
        · obtain ⟨k, hk, rfl⟩ := List.getElem_of_mem h
          have hc := holds k _ (List.getElem?_eq_getElem hk)
          rw [Addr.add_mid] at hc
          exact qo g _ _ rfl hc
        · exact qn u h
      · exact qz u (mem_zeroCells h)
theorem infoPtab : (Tryz.prog.info? 44).map (fun i => (i.zero, i.size, i.bytes)) = some (some (.pointer none), 1, 8) := by kernel_rfl
theorem underPtabs : Tryz.prog.underlying 27 = some (.slice 44) := by kernel_rfl
/-- append of one table. -/
theorem append_tab {w : World} {tv : Value} {n p : Nat} {xs : List Value} (h : RowIs w 44 1 tv n xs) (hq : ∀ x j u, tv.ownBlock = some x → w.cell? ⟨x, j, none⟩ = some u → ∃ q, u = .pointer q) (hn : n ≤ 1000000000) (hs : 1 ≤ w.heap.size) : ∃ g cap w', (Builtin.append_ #[27, 27] 27 #[tv, .slice (some ⟨w.heap.size, 0, none⟩) 1 1]).run Tryz.prog (w.alloc (.cells #[.pointer (some ⟨p, 0, none⟩)] 44)) = .ok (.slice (some ⟨g, 0, none⟩) (n + 1) cap) w' ∧ w'.ownsRow 1 44 1 (.slice (some ⟨g, 0, none⟩) (n + 1) cap) (n + 1) (xs ++ [.pointer (some ⟨p, 0, none⟩)]) ∧ Chg (fun x => tv.ownBlock = some x) w w' ∧ (tv.ownBlock = some g ∨ w.heap.size ≤ g) ∧ ∀ j u, w'.cell? ⟨g, j, none⟩ = some u → ∃ q, u = .pointer q := by
  obtain ⟨i0, hi, hz0, hz1, hz2⟩ := info_parts infoPtab
  have hrd : (w.alloc (.cells #[.pointer (some ⟨p, 0, none⟩)] 44)).ownsRow 1 44 1 tv n xs := h.1.alloc _
  have hcn : ∀ j u, [Value.pointer (some ⟨p, 0, none⟩)][j]? = some u → (w.alloc (.cells #[.pointer (some ⟨p, 0, none⟩)] 44)).cell? ((⟨w.heap.size, 0, none⟩ : Addr).add j) = some u := fun j u hu => by
    rw [Addr.add_mid]
    exact range_new w #[.pointer (some ⟨p, 0, none⟩)] 44 j u hu
  have h1 : ∀ u ∈ [Value.pointer (some ⟨p, 0, none⟩)], u.oneCell' = true := by simp [Value.oneCell']
  have hs' : (w.alloc (.cells #[.pointer (some ⟨p, 0, none⟩)] 44)).heap.size = w.heap.size + 1 := by simp
  obtain ⟨v', w', hap, hown', hgr, hiff⟩ := run_append_own (P := Tryz.prog) (w.alloc (.cells #[.pointer (some ⟨p, 0, none⟩)] 44)) 1 27 27 44 i0 _ 1 8 underPtabs hi hz0 hz1 hz2 rfl (by decide) tv n xs hrd ⟨w.heap.size, 0, none⟩ 1 1 [.pointer (some ⟨p, 0, none⟩)] rfl hcn h1 (by unfold maxLen; omega) (by omega) (by omega)
  have hbl := append_block (P := Tryz.prog) (w.alloc (.cells #[.pointer (some ⟨p, 0, none⟩)] 44)) 1 27 27 44 i0 _ 1 8 underPtabs hi hz0 hz1 hz2 tv n xs hrd ⟨w.heap.size, 0, none⟩ 1 1 [.pointer (some ⟨p, 0, none⟩)] rfl hcn h1 (by unfold maxLen; omega) (by omega) hap
  have hall := append_all (P := Tryz.prog) (fun u => ∃ q, u = .pointer q) (w.alloc (.cells #[.pointer (some ⟨p, 0, none⟩)] 44)) 1 27 27 44 i0 _ 1 8 underPtabs hi hz0 hz1 hz2 tv n xs hrd ⟨w.heap.size, 0, none⟩ 1 1 [.pointer (some ⟨p, 0, none⟩)] rfl hcn h1 (by unfold maxLen; omega) (by omega) (by decide) (by intro u hu; simp [Value.cells] at hu; exact ⟨_, hu⟩) (fun g j u hg hu => hq g j u hg (by rwa [(OnlyAt.of_block (heap_alloc_old w _ (h.lt hg)) j).1] at hu)) (by intro u hu; simp at hu; exact ⟨_, hu⟩) hap
  have hv' : ∃ g cap, v' = .slice (some ⟨g, 0, none⟩) (n + 1) cap := by
    rcases hown'.2 with ⟨e, e2⟩ | ⟨g, cap, _, e, _⟩
    · omega
    · exact ⟨g, cap, e⟩
  obtain ⟨g, cap, rfl⟩ := hv'
  refine ⟨g, cap, w', hap, hown', ?_, ?_, fun j u => hall g j u rfl⟩
  · have c1 : Chg (fun b => tv.ownBlock = some b) w (w.alloc (.cells #[.pointer (some ⟨p, 0, none⟩)] 44)) := Chg.of_below ((Below.refl _ w).alloc (Nat.le_refl _) _)
    exact c1.trans (Chg.grown hgr fun _ hk => hk)
  · rcases hbl g rfl with h | h
    · exact .inl h
    · exact .inr (by omega)
section
variable {w w1 w2 w3 W : World} {wb n i : Nat} {tv sv kv : Value} {Ts : List TabD} {Ks : List KeptD} {col : Nat → Nat}
theorem LW.farR (h : LW w wb tv sv kv n Ts Ks col) {x : Nat} (hx : tv.ownBlock = some x) : Far w x := by
  have h0 : 0 < Ts.length := by
    rcases Nat.eq_zero_or_pos Ts.length with h0 | h0
    · rw [h.rT.2 h0] at hx; cases hx
    · exact h0
  have c0 : w.cell? ⟨x, 0, none⟩ = some (.pointer (some ⟨Ts[0].p, 0, none⟩)) := by
    have := h.rT.1.cells (g := x) hx 0 (.pointer (some ⟨Ts[0].p, 0, none⟩)) (by rw [List.getElem?_map, List.getElem?_eq_getElem h0]; rfl)
    rwa [Addr.add_mid] at this
  refine far_ptr c0 (h.tab 0 h0).c0 (fun n e => by cases e) (fun f hf => ?_) h.laid
  obtain ⟨q, e⟩ := h.pT x 1 _ hx hf
  cases e
theorem take_done {x : Int} {e : Ending} (h : LW w wb tv sv kv n Ts Ks col) (hi : i < Ts.length) (ha : Agree Ts) (hb : Below w.heap.size w w1) (hT : TabIs w2 Ts[i].t Ts[i].F (Ts[i].L.filter fun a => a.2.id != x)) (hc : Chg Ts[i].F w1 w2) (hb2 : Below w2.heap.size w2 w3) (hX : XDel 1 Ts[i].y 0 Ts[i].rs x w3 e W) :
    e = .returned (.int .i64 (if (Ts[i].L.any fun a => a.2.id == x) then 0 else 7)) ∧ ∃ Ts' col', Ts'.length = Ts.length ∧ Agree Ts' ∧ LW W wb tv sv kv n Ts' Ks col' ∧ Went w W col col' := by
  have hrs : Ts[i].rs = rls Ts[i].L := ha _ (List.getElem_mem hi)
  have h3 := h.mid hi hb hT (fun _ hx => .inl hx) hc hb2
  have hi' : i < (Ts.set i { Ts[i] with F := Ts[i].F, L := Ts[i].L.filter fun a => a.2.id != x }).length := by rw [List.length_set]; exact hi
  have ink1 : ∀ y, y < w.heap.size → col y ≠ 0 → paint col w1.heap.size (3 * i + 5) y = col y := fun y hy _ => paint_lt (Nat.lt_of_lt_of_le hy hb.size)
  have c13 : Chg (fun y => Ts[i].F y ∨ y = Ts[i].y ∨ Ts[i].v.ownBlock = some y) w w3 := ((Chg.of_below hb).trans (hc.mono fun y _ hy => .inl hy)).trans (Chg.of_below hb2)
  rcases hX with ⟨rfl, rfl, hno⟩ | ⟨k, hk, hid, rfl, v', hr', hcW, hoW, hvW⟩
  · have hn : ∀ a ∈ Ts[i].L, a.2.id ≠ x := fun a h1 => hno a.2 (by rw [hrs]; exact List.mem_map.2 ⟨a, h1, rfl⟩)
    have hany : (Ts[i].L.any fun a => a.2.id == x) = false := by
      rw [List.any_eq_false]
      intro a h1
      rw [beq_iff_eq]
      exact hn a h1
    refine ⟨by rw [hany]; rfl, _, _, List.length_set .., ha.set ?_, h3, ⟨⟨_, c13, fun y hy _ => h.farT hi hy⟩, ink1⟩⟩
    show Ts[i].rs = rls (Ts[i].L.filter fun a => a.2.id != x)
    rw [del_none hn]
    exact hrs
  · have hkl : k < Ts[i].L.length := by rw [hrs] at hk; simpa using hk
    have hkx : Ts[i].L[k].2.id = x := by
      have : Ts[i].rs[k] = Ts[i].L[k].2 := by simp only [hrs, List.getElem_map]
      rw [← this]
      exact hid
    have hany : (Ts[i].L.any fun a => a.2.id == x) = true := by
      rw [List.any_eq_true]
      exact ⟨_, List.getElem_mem hkl, by rw [beq_iff_eq]; exact hkx⟩
    have hsame := del_same hkl hkx (h.tab i hi).tab.ids
    have hR3 := h3.refStep (i := i) hi' (v' := v') (rs' := Ts[i].rs.take k ++ Ts[i].rs.drop (k + 1)) (by rw [List.getElem_set_self]; exact hr') (by rw [List.getElem_set_self]; exact fun b hb => .inr (hvW b hb)) (by rw [List.getElem_set_self]; exact hcW.mono fun _ _ h => .inl h) (by rw [List.getElem_set_self]; exact hoW)
    refine ⟨by rw [hany]; rfl, _, _, by rw [List.length_set, List.length_set], Agree.set2 ha ?_, hR3, ⟨⟨_, c13.trans (hcW.mono fun y _ hy => .inr (.inl hy)), fun y hy _ => h.farT hi hy⟩, fun y hy h0 => ?_⟩⟩
    · rw [List.getElem_set_self]
      show Ts[i].rs.take k ++ Ts[i].rs.drop (k + 1) = rls (Ts[i].L.filter fun a => a.2.id != x)
      rw [hrs]
      exact hsame.symm
    · rw [paint_lt (Nat.lt_of_lt_of_le hy c13.size)]
      exact ink1 y hy h0
end
end Go.Proofs.YtnjalelblbjfiaaGreatDoor

namespace Go.Proofs.YtnjalelblbjfiaaGreatDoor
open Go.RowKit

section
variable {w w2 W4 W5 : World} {wb n : Nat} {tv sv kv : Value} {Ts : List TabD} {Ks : List KeptD} {col : Nat → Nat}
/-- The colours behind a new table. -/
def newCol (col : Nat → Nat) (s s2 i : Nat) : Nat → Nat := fun x => if x < s then col x else if x < s2 then 3 * i + 5 else if x = s2 then 3 * i + 6 else if x = s2 + 1 then 4 else 2
theorem new_done {t g cap : Nat} {F : Nat → Prop} (h : LW w wb tv sv kv n Ts Ks col) (ha : Agree Ts) (hb : Below w.heap.size w w2) (hT : TabIs w2 t F []) (hF : ∀ x, F x → w.heap.size ≤ x)
    (hW4 : W4 = (w2.alloc (.cells #[.slice none 0 0] 83)).alloc (.cells #[.pointer (some ⟨t, 0, none⟩), .pointer (some ⟨w2.heap.size, 0, none⟩)] 81))
    (hown : W5.ownsRow 1 44 1 (.slice (some ⟨g, 0, none⟩) (Ts.length + 1) cap) (Ts.length + 1) ((Ts.map fun d => Value.pointer (some ⟨d.p, 0, none⟩)) ++ [.pointer (some ⟨w2.heap.size + 1, 0, none⟩)])) (hc : Chg (fun x => tv.ownBlock = some x) W4 W5) (hg : tv.ownBlock = some g ∨ W4.heap.size ≤ g) (hq : ∀ j u, W5.cell? ⟨g, j, none⟩ = some u → ∃ q, u = .pointer q) :
    ∃ Ts' col', Ts'.length = Ts.length + 1 ∧ Agree Ts' ∧ LW (W5.setCell ⟨wb, 0, none⟩ (.slice (some ⟨g, 0, none⟩) (Ts.length + 1) cap)) wb (.slice (some ⟨g, 0, none⟩) (Ts.length + 1) cap) sv kv n Ts' Ks col' ∧ Went w (W5.setCell ⟨wb, 0, none⟩ (.slice (some ⟨g, 0, none⟩) (Ts.length + 1) cap)) col col' := by
  have hwl : wb < w.heap.size := block_lt_of_cell h.c0
  have s2 := hb.size
  have s4 : W4.heap.size = w2.heap.size + 2 := by rw [hW4]; simp
  have hb24 : Below w2.heap.size w2 W4 := by rw [hW4]; exact ((Below.refl _ w2).alloc (Nat.le_refl _) _).alloc (by simp) _
  have hb4 : Below w.heap.size w W4 := hb.trans (hb24.mono s2)
  have htl : ∀ x, tv.ownBlock = some x → x < w.heap.size := fun x hx => h.rT.lt hx
  have htw : tv.ownBlock ≠ some wb := fun e => by have := h.cT wb e; rw [h.cw] at this; omega
  have hgw : g ≠ wb := fun e => by
    rcases hg with hg | hg
    · exact htw (by rw [hg, e])
    · omega
  have c25 : Chg (fun x => x = wb ∨ tv.ownBlock = some x) w2 W5 := (Chg.of_below hb24).trans (hc.mono fun x _ hx => .inr hx)
  have c2W : Chg (fun x => x = wb ∨ tv.ownBlock = some x) w2 (W5.setCell ⟨wb, 0, none⟩ (.slice (some ⟨g, 0, none⟩) (Ts.length + 1) cap)) := Chg.setCell (p := ⟨wb, 0, none⟩) c25 (.inl (.inl rfl)) _
  have cW : Chg (fun x => x = wb ∨ tv.ownBlock = some x) w (W5.setCell ⟨wb, 0, none⟩ (.slice (some ⟨g, 0, none⟩) (Ts.length + 1) cap)) := (Chg.of_below hb).trans c2W
  have h2 : LW w2 wb tv sv kv n Ts Ks col := h.below hb fun _ _ _ => rfl
  have hX : ∀ x, (x = wb ∨ tv.ownBlock = some x) → Far w x := fun x hx => by
    rcases hx with rfl | hx
    · exact h.farW
    · exact h.farR hx
  have hX2 : ∀ x, (x = wb ∨ tv.ownBlock = some x) → Far w2 x := fun x hx => by
    rcases hx with rfl | hx
    · exact h2.farW
    · exact h2.farR hx
  have hC : ∀ x, (x = wb ∨ tv.ownBlock = some x) → col x = 1 ∨ col x = 2 := fun x hx => by
    rcases hx with rfl | hx
    · exact .inl h.cw
    · exact .inr (h.cT x hx)
  have hlt : ∀ x, (x = wb ∨ tv.ownBlock = some x) → x < w.heap.size := fun x hx => by
    rcases hx with rfl | hx
    · exact hwl
    · exact htl x hx
  have ink : ∀ x, x < w.heap.size → newCol col w.heap.size w2.heap.size Ts.length x = col x := fun x hx => by unfold newCol; rw [if_pos hx]
  have n4 : ∀ x, w.heap.size ≤ x → x < W4.heap.size → (W5.setCell ⟨wb, 0, none⟩ (.slice (some ⟨g, 0, none⟩) (Ts.length + 1) cap)).heap[x]? = W4.heap[x]? := fun x h1 h3 => (Below.heap_setCell _ _ _ _ (by show x ≠ wb; omega)).trans (hc.block x h3 fun e => by have := htl x e; omega)
  have hy : (W5.setCell ⟨wb, 0, none⟩ (.slice (some ⟨g, 0, none⟩) (Ts.length + 1) cap)).heap[w2.heap.size]? = some (.cells #[.slice none 0 0] 83 (0, 0)) := by
    rw [n4 _ s2 (by omega), hW4]
    exact (heap_alloc_old _ _ (by simp)).trans (heap_alloc_new w2 _)
  have hp : (W5.setCell ⟨wb, 0, none⟩ (.slice (some ⟨g, 0, none⟩) (Ts.length + 1) cap)).heap[w2.heap.size + 1]? = some (.cells #[.pointer (some ⟨t, 0, none⟩), .pointer (some ⟨w2.heap.size, 0, none⟩)] 81 (0, 0)) := by
    rw [n4 _ (by omega) (by omega), hW4]
    have := heap_alloc_new (w2.alloc (.cells #[.slice none 0 0] 83)) (.cells #[.pointer (some ⟨t, 0, none⟩), .pointer (some ⟨w2.heap.size, 0, none⟩)] 81)
    rwa [World.size_alloc] at this
  have hl5 : W5.cell? ⟨wb, 0, none⟩ = some tv := hc.block.cell htw (cell_later hb4 h.c0)
  have ob : ∀ j, W5.cell? ⟨wb, j, none⟩ = w.cell? ⟨wb, j, none⟩ ∧ W5.frozen? ⟨wb, j, none⟩ = w.frozen? ⟨wb, j, none⟩ := fun j => OnlyAt.of_block ((hc.block wb (by omega) htw).trans (hb4.block wb hwl)) j
  have o := OnlyAt.set (o := 0) ob (.slice (some ⟨g, 0, none⟩) (Ts.length + 1) cap)
  have hrow : (W5.setCell ⟨wb, 0, none⟩ (.slice (some ⟨g, 0, none⟩) (Ts.length + 1) cap)).heap[g]? = W5.heap[g]? := Below.heap_setCell _ _ _ _ hgw
  have hnew : TabD.Ok (W5.setCell ⟨wb, 0, none⟩ (.slice (some ⟨g, 0, none⟩) (Ts.length + 1) cap)) (newCol col w.heap.size w2.heap.size Ts.length) Ts.length ⟨w2.heap.size + 1, t, w2.heap.size, F, [], .slice none 0 0, []⟩ := by
    refine ⟨(cell_of_heap hp).trans rfl, (cell_of_heap hp).trans rfl, ?_, hT.far c2W hX2 fun x hx hx' => ?_, fun x hx => ?_, ⟨(cell_of_heap hy).trans rfl, ?_, RulesOwn.nil _ (by decide), Nat.zero_le _, Nat.zero_le _⟩, ⟨(cell_of_heap hy).trans rfl, (cell_of_heap hy).trans rfl⟩, ?_, fun x hx => by cases hx⟩
    · show newCol col w.heap.size w2.heap.size Ts.length (w2.heap.size + 1) = 4
      unfold newCol
      rw [if_neg (by omega), if_neg (by omega), if_neg (by omega), if_pos rfl]
    · have := hF x hx
      have := hlt x hx'
      omega
    · have h1 := hF x hx
      have h3 := hT.lt hx
      unfold newCol
      rw [if_neg (by omega), if_pos h3]
    · simp [World.frozen?, hy]
    · show newCol col w.heap.size w2.heap.size Ts.length w2.heap.size = 3 * Ts.length + 6
      unfold newCol
      rw [if_neg (by omega), if_neg (by omega), if_pos rfl]
  refine ⟨Ts ++ [⟨w2.heap.size + 1, t, w2.heap.size, F, [], .slice none 0 0, []⟩], newCol col w.heap.size w2.heap.size Ts.length, by simp, fun d hd => ?_, ⟨h.laid.far cW.block hX, World.cell?_setCell_same _ _ _ hl5, (o 1 (by decide)).1.trans h.c1, (o 2 (by decide)).1.trans h.c2, (o 3 (by decide)).1.trans h.c3, h.sS, fun j => ?_, ⟨?_, fun e => by simp at e⟩, h.rK.keep fun x hx => cW.block x (h.rK.lt hx) fun hx' => ?_, (ink wb hwl).trans h.cw, fun x hx => ?_, fun x j u hx hu => ?_, fun x hx => (ink x (h.rK.lt hx)).trans (h.cK x hx), fun i hi => ?_, fun k hk => (h.kept k hk).keep cW (fun x hx _ => ?_) fun x hx _ => ink x hx⟩, ⟨⟨_, cW, fun x hx _ => ⟨hX x hx, ?_⟩⟩, fun x hx _ => ink x hx⟩⟩
  · rcases List.mem_append.1 hd with hd | hd
    · exact ha d hd
    · rw [List.mem_singleton] at hd
      rw [hd]
      rfl
  · rw [World.frozen?_setCell, (ob j).2]
    exact h.frz j
  · rw [List.length_append, List.map_append]
    exact ownsRow_same hown fun x hx => by cases hx; exact hrow
  · have := hC x hx'
    rw [h.cK x hx] at this
    omega
  · have hx' : g = x := Option.some.inj hx
    subst hx'
    rcases hg with hg | hg
    · exact (ink g (htl g hg)).trans (h.cT g hg)
    · unfold newCol
      rw [if_neg (by omega), if_neg (by omega), if_neg (by omega), if_neg (by omega)]
  · have hx' : g = x := Option.some.inj hx
    subst hx'
    rw [(OnlyAt.of_block hrow j).1] at hu
    exact hq j u hu
  · by_cases hl : i < Ts.length
    · rw [List.getElem_append_left hl]
      refine (h.tab i hl).keep cW hX (fun x hx _ => ?_) fun x hx _ => ink x hx
      have := hC x hx
      omega
    · have hi' : i = Ts.length := by rw [List.length_append] at hi; simp at hi; omega
      subst hi'
      rw [List.getElem_append_right (Nat.le_refl _)]
      simp only [Nat.sub_self, List.getElem_cons_zero]
      exact hnew
  · have := hC x hx
    omega
  · have := hC x hx
    unfold Tc
    omega
end
end Go.Proofs.YtnjalelblbjfiaaGreatDoor

namespace Go.Proofs.YtnjalelblbjfiaaGreatDoor
open Go.RowKit

theorem RowIs.tabs {w : World} {tv : Value} {Ts : List TabD} (h : RowIs w 44 1 tv Ts.length (Ts.map fun d => .pointer (some ⟨d.p, 0, none⟩))) : ∃ a cap g, tv = .slice a Ts.length cap ∧ ∀ k (hk : k < Ts.length), a = some ⟨g, 0, none⟩ ∧ w.cell? ⟨g, k, none⟩ = some (.pointer (some ⟨Ts[k].p, 0, none⟩)) := by
  rcases h.1.2 with ⟨e, e2⟩ | ⟨g, cap, cur, e, _⟩
  · exact ⟨none, 0, 0, by rw [e, e2], fun k hk => by omega⟩
  · refine ⟨some ⟨g, 0, none⟩, cap, g, e, fun k hk => ⟨rfl, ?_⟩⟩
    have := h.1.cells (g := g) (by rw [e]; rfl) k (.pointer (some ⟨Ts[k].p, 0, none⟩)) (by rw [List.getElem?_map, List.getElem?_eq_getElem hk]; rfl)
    rwa [Addr.add_mid, Nat.zero_add] at this
theorem rangeAt_part {W : World} {b : Nat} {A B C : List Value} (h : W.rangeAt b 0 (A ++ (B ++ C))) : W.rangeAt b A.length B := fun j u hu => by
  have hj : j < B.length := (List.getElem?_eq_some_iff.1 hu).1
  have := h (A.length + j) u (by rw [List.getElem?_append_right (by omega), Nat.add_sub_cancel_left, List.getElem?_append_left hj]; exact hu)
  rwa [Nat.zero_add] at this
theorem step_rule {W : World} {bk : Nat} {ki oa oN oM oK : Int} {oS : ByteArray} {la : Option Addr} {ll lc : Nat} {r : Rl} {x0 x1 x2 x3 x4 : Int} (h : W.rangeAt bk 0 [.int .i64 ki, .int .i64 oa, .int .i64 oN, .int .i64 oM, .int .i64 oK, .string oS, .slice la ll lc, .int .i64 r.id, .int .i64 r.pr, .int .i64 r.k0, .int .i64 r.v0, .int .i64 r.m0, .int .i64 r.k1, .int .i64 r.v1, .int .i64 r.m1, .int .i64 r.k2, .int .i64 r.v2, .int .i64 r.m2, .int .i64 r.k3, .int .i64 r.v3, .int .i64 r.m3, .int .i64 r.k4, .int .i64 r.v4, .int .i64 r.m4, .int .i64 r.ac, .int .i64 r.po, .int .i64 x0, .int .i64 x1, .int .i64 x2, .int .i64 x3, .int .i64 x4]) : W.rangeAt bk 7 [.int .i64 r.id, .int .i64 r.pr, .int .i64 r.k0, .int .i64 r.v0, .int .i64 r.m0, .int .i64 r.k1, .int .i64 r.v1, .int .i64 r.m1, .int .i64 r.k2, .int .i64 r.v2, .int .i64 r.m2, .int .i64 r.k3, .int .i64 r.v3, .int .i64 r.m3, .int .i64 r.k4, .int .i64 r.v4, .int .i64 r.m4, .int .i64 r.ac, .int .i64 r.po] :=
  rangeAt_part (A := [.int .i64 ki, .int .i64 oa, .int .i64 oN, .int .i64 oM, .int .i64 oK, .string oS, .slice la ll lc]) (B := [.int .i64 r.id, .int .i64 r.pr, .int .i64 r.k0, .int .i64 r.v0, .int .i64 r.m0, .int .i64 r.k1, .int .i64 r.v1, .int .i64 r.m1, .int .i64 r.k2, .int .i64 r.v2, .int .i64 r.m2, .int .i64 r.k3, .int .i64 r.v3, .int .i64 r.m3, .int .i64 r.k4, .int .i64 r.v4, .int .i64 r.m4, .int .i64 r.ac, .int .i64 r.po]) (C := [.int .i64 x0, .int .i64 x1, .int .i64 x2, .int .i64 x3, .int .i64 x4]) h
/-- Far ahead of a call that changes nothing. -/
theorem Far.back {w w' : World} {x : Nat} (hx : x < w.heap.size) (hb : Below w.heap.size w w') (h : Far w' x) : Far w x := by
  have hc : ∀ j, w'.cell? ⟨x, j, none⟩ = w.cell? ⟨x, j, none⟩ := fun j => (OnlyAt.of_block (hb.block x hx) j).1
  have he : ∀ e r, EntAt w e r → EntAt w' e r := fun e r h => EntAt.far (X := fun _ => False) (Chg.of_below hb).block (fun _ hx => hx.elim) h
  exact ⟨h.zero, fun r hr => h.ent r (he x r hr), fun a n c h0 => by have := h.leaf a n c ((hc 0).trans h0); rwa [hc 3] at this, fun f l bl h1 h2 => by have := h.node f l bl ((hc 1).trans h1) ((hc 2).trans h2); rwa [hc 3] at this, fun e r h0 hr => h.bunch e r ((hc 0).trans h0) (he e r hr)⟩
theorem Went.under {w w' W : World} {col col' : Nat → Nat} (h : Went w' W col col') (hb : Below w.heap.size w w') : Went w W col col' := by
  obtain ⟨⟨X, hc, hX⟩, hk⟩ := h
  exact ⟨⟨X, (Chg.of_below hb).trans hc, fun x hx hl => ⟨Far.back hl hb (hX x hx (Nat.lt_of_lt_of_le hl hb.size)).1, (hX x hx (Nat.lt_of_lt_of_le hl hb.size)).2⟩⟩, fun x hx => hk x (Nat.lt_of_lt_of_le hx hb.size)⟩
theorem step_key {W : World} {bk : Nat} {ki oa oN oM oK : Int} {oS : ByteArray} {la : Option Addr} {ll lc : Nat} {r : Rl} {x0 x1 x2 x3 x4 : Int} (h : W.rangeAt bk 0 [.int .i64 ki, .int .i64 oa, .int .i64 oN, .int .i64 oM, .int .i64 oK, .string oS, .slice la ll lc, .int .i64 r.id, .int .i64 r.pr, .int .i64 r.k0, .int .i64 r.v0, .int .i64 r.m0, .int .i64 r.k1, .int .i64 r.v1, .int .i64 r.m1, .int .i64 r.k2, .int .i64 r.v2, .int .i64 r.m2, .int .i64 r.k3, .int .i64 r.v3, .int .i64 r.m3, .int .i64 r.k4, .int .i64 r.v4, .int .i64 r.m4, .int .i64 r.ac, .int .i64 r.po, .int .i64 x0, .int .i64 x1, .int .i64 x2, .int .i64 x3, .int .i64 x4]) : W.cell? ⟨bk, 26, none⟩ = some (.int .i64 x0) ∧ W.cell? ⟨bk, 27, none⟩ = some (.int .i64 x1) ∧ W.cell? ⟨bk, 28, none⟩ = some (.int .i64 x2) ∧ W.cell? ⟨bk, 29, none⟩ = some (.int .i64 x3) ∧ W.cell? ⟨bk, 30, none⟩ = some (.int .i64 x4) :=
  ⟨h 26 _ rfl, h 27 _ rfl, h 28 _ rfl, h 29 _ rfl, h 30 _ rfl⟩
end Go.Proofs.YtnjalelblbjfiaaGreatDoor
