import Derived.Test.YtnjalelblbjfiaaGreatDoorP14
import Derived.BigQuiet
import Derived.Deep.MidRow
import Derived.Test.YtnjalelblbjfiaaGreatDoorP6
namespace Go.Proofs.YtnjalelblbjfiaaGreatDoor
open Go.RowKit

/-- The cells of a list of rules. -/
def rowL (rs : List Rl) : List Value := rs.flatMap fun r => r.cells.toList
theorem cells_length (r : Rl) : r.cells.toList.length = 19 := rfl
theorem rowL_length (rs : List Rl) : (rowL rs).length = rs.length * 19 := by
  induction rs with
  | nil => rfl
  | cons e t ih =>
    have : rowL (e :: t) = e.cells.toList ++ rowL t := rfl
    rw [this, List.length_append, ih, cells_length, List.length_cons]; omega
theorem rowL_append (a b : List Rl) : rowL (a ++ b) = rowL a ++ rowL b := List.flatMap_append
theorem rowL_one (rs : List Rl) : ∀ u ∈ rowL rs, u.oneCell' = true := by
  intro u hu
  obtain ⟨r, _, h⟩ := List.mem_flatMap.1 hu
  simp only [Rl.cells, List.mem_cons, List.not_mem_nil, or_false] at h
  rcases h with h | h | h | h | h | h | h | h | h | h | h | h | h | h | h | h | h | h | h <;> (rw [h]; rfl)
theorem rowL_get : ∀ (rs : List Rl) (k : Nat) (hk : k < rs.length) (j : Nat), j < 19 → (rowL rs)[k * 19 + j]? = rs[k].cells[j]?
  | [], k, hk, _, _ => absurd hk (by simp)
  | e :: t, k, hk, j, hj => by
    have h : rowL (e :: t) = e.cells.toList ++ rowL t := rfl
    rw [h]
    match k, hk with
    | 0, _ => rw [List.getElem?_append_left (by rw [cells_length]; omega)]; simp
    | k + 1, hk =>
      rw [List.getElem?_append_right (by rw [cells_length]; omega), cells_length, show (k + 1) * 19 + j - 19 = k * 19 + j by omega, rowL_get t k (by simpa using hk) j hj]
      rfl
theorem rowL_take (rs : List Rl) (k : Nat) (hk : k ≤ rs.length) : (rowL rs).take (k * 19) = rowL (rs.take k) := by
  have h := rowL_append (rs.take k) (rs.drop k)
  rw [List.take_append_drop] at h
  have hl : (rowL (rs.take k)).length = k * 19 := by rw [rowL_length, List.length_take, Nat.min_eq_left hk]
  rw [h, ← hl, List.take_left]
theorem rowL_drop (rs : List Rl) (k : Nat) (hk : k ≤ rs.length) : (rowL rs).drop (k * 19) = rowL (rs.drop k) := by
  have h := rowL_append (rs.take k) (rs.drop k)
  rw [List.take_append_drop] at h
  have hl : (rowL (rs.take k)).length = k * 19 := by rw [rowL_length, List.length_take, Nat.min_eq_left hk]
  rw [h, ← hl, List.drop_left]

/-- A list of rules that a call has made itself. -/
def RulesOwn (B : Nat) (w : World) (v : Value) (rs : List Rl) : Prop := w.ownsRow B 37 19 v rs.length (rowL rs) ∧ (rs = [] → v = .slice none 0 0) ∧ 0 < B

section
variable {B : Nat} {w w' : World} {v : Value} {rs : List Rl}
theorem RulesOwn.nil (w : World) (hB : 0 < B) : RulesOwn B w (.slice none 0 0) [] := ⟨World.ownsRow_nil w B 37 19, fun _ => rfl, hB⟩
theorem RulesOwn.row (h : RulesOwn B w v rs) : ∃ a cap g, v = .slice a rs.length cap ∧ ∀ k, (hk : k < rs.length) → a = some ⟨g, 0, none⟩ ∧ w.rangeAt g (k * 19) rs[k].cells.toList := by
  rcases h.1.2 with ⟨hv, h0⟩ | ⟨g, cap, cur, hv, _⟩
  · exact ⟨none, 0, 0, by rw [hv, h0], fun j hj => by omega⟩
  · refine ⟨_, cap, g, hv, fun k hk => ⟨rfl, fun j u hu => ?_⟩⟩
    have ho := h.1
    rw [hv] at ho
    have hj : j < 19 := by have := (List.getElem?_eq_some_iff.1 hu).1; rwa [cells_length] at this
    rw [ho.cellAt _ (by omega), rowL_get rs k hk j hj]
    simpa using hu
theorem RulesOwn.shape (h : RulesOwn B w v rs) {g : Nat} (hg : v.ownBlock = some g) : g ≠ 0 ∧ ∃ cs t fr a b c d, w.heap[g]? = some (.cells cs t fr) ∧ cs.size ≠ 29 ∧ w.cell? ⟨g, 0, none⟩ = some (.int .i64 a) ∧ w.cell? ⟨g, 1, none⟩ = some (.int .i64 b) ∧ w.cell? ⟨g, 2, none⟩ = some (.int .i64 c) ∧ w.cell? ⟨g, 3, none⟩ = some (.int .i64 d) := by
  have hne : rs ≠ [] := by
    intro e
    rw [h.2.1 e] at hg
    cases hg
  have h0 : 0 < rs.length := List.length_pos_iff.2 hne
  obtain ⟨a, cap0, g0, hv0, hr⟩ := h.row
  obtain ⟨ha, hr0⟩ := hr 0 h0
  rcases h.1.2 with ⟨hv, _⟩ | ⟨g', cap, cur, hv, hb, hgg, _, _, hsz, _⟩
  · rw [hv] at hg; cases hg
  · rw [hv] at hg hv0
    cases hg
    cases hv0
    cases ha
    exact ⟨by have := h.2.2; simp; omega, cur, _, _, _, _, _, _, hgg, by omega, hr0 0 _ rfl, hr0 1 _ rfl, hr0 2 _ rfl, hr0 3 _ rfl⟩
theorem RulesOwn.foreign (h : RulesOwn B w v rs) {g : Nat} (hg : v.ownBlock = some g) : Foreign w g := .inr (.inr (.inr (.inr (.inr (h.shape hg)))))
theorem RulesOwn.apart (h : RulesOwn B w v rs) {t : Nat} {F : Nat → Prop} {L : List Ent} (hT : TabIs w t F L) {g : Nat} (hg : v.ownBlock = some g) : ¬ F g := by
  obtain ⟨b1, b2, sv1, sv2, LI, T, _, _, rfl⟩ := hT
  obtain ⟨_, _, _, _, a, b, c, d, _, _, c0, c1, c2, c3⟩ := h.shape hg
  rintro (h | (h | h) | (h | h))
  · rw [h, T.c0] at c0; cases c0
  · rw [h, T.mI.1] at c0; cases c0
  · obtain ⟨n, p, d0, d1⟩ := T.hI _ h
    rw [c1] at d1; cases d1
  · rw [h, T.mR.1] at c0; cases c0
  · obtain ⟨n, m, p, d0, d1, d2⟩ := T.hR _ h
    rw [c2] at d2; cases d2
theorem RulesOwn.same (h : RulesOwn B w v rs) (hs : ∀ g, v.ownBlock = some g → w'.heap[g]? = w.heap[g]?) : RulesOwn B w' v rs := ⟨ownsRow_same h.1 hs, h.2⟩
theorem RulesOwn.lt (h : RulesOwn B w v rs) {g : Nat} (hg : v.ownBlock = some g) : g < w.heap.size := (h.1.lt g hg).2
theorem RulesOwn.chg (h : RulesOwn B w v rs) {t : Nat} {F : Nat → Prop} {L : List Ent} (hT : TabIs w t F L) (hc : Chg F w w') : RulesOwn B w' v rs :=
  h.same fun _ hg => hc.block _ (h.lt hg) (h.apart hT hg)
theorem RulesOwn.below (h : RulesOwn B w v rs) (hb : Below w.heap.size w w') : RulesOwn B w' v rs := h.same fun _ hg => hb.block _ (h.lt hg)
/-- A table is as it was, when a list of rules has grown. -/
theorem TabIs.grown {t : Nat} {F : Nat → Prop} {L : List Ent} (hT : TabIs w t F L) (h : RulesOwn B w v rs) (hg : w.grownBy w' v.ownBlock) : TabIs w' t F L := by
  have hap := fun x (hx : v.ownBlock = some x) => h.apart hT hx
  obtain ⟨b1, b2, sv1, sv2, LI, T, hm, hl, rfl⟩ := hT
  exact ⟨b1, b2, sv1, sv2, LI, T.kept (X := fun x => v.ownBlock = some x) (Chg.grown hg fun _ hk => hk) (fun x hx => h.foreign hx) (fun x hx hv => hap x hv hx), hm, hl, rfl⟩
end

theorem infoRule : (Tryz.prog.info? 37).map (fun i => (i.zero, i.size, i.bytes)) = some (some (.agg #[.int .i64 0, .int .i64 0, .int .i64 0, .int .i64 0, .int .i64 0, .int .i64 0, .int .i64 0, .int .i64 0, .int .i64 0, .int .i64 0, .int .i64 0, .int .i64 0, .int .i64 0, .int .i64 0, .int .i64 0, .int .i64 0, .int .i64 0, .int .i64 0, .int .i64 0]), 19, 152) := by kernel_rfl
theorem underRules : Tryz.prog.underlying 54 = some (.slice 37) := by kernel_rfl
/-- Rules are appended to a list of the call's own. -/
theorem wpList_rules {ops : Array Oper} {rest : List Oper} {o : Oper} {a : Act} {Q : Exit → Act → World → Prop} {B : Nat} {w : World} {v : Value} {rs : List Rl} (h : RulesOwn B w v rs) (hgd : o.guard = none) (s x : Operand)
    (ho : o.op = .call { callee := .builtin .append, args := #[s, x], argTypes := #[54, 54] }) (hs : a.eval s = v) (ad : Addr) (m c : Nat) (hx : a.eval x = .slice (some ad) m c) (qs : List Rl) (hq : qs.length = m)
    (hc : ∀ j u, (rowL qs)[j]? = some u → w.cell? (ad.add j) = some u) (hlen : rs.length + m ≤ 1000) (hB : B ≤ w.heap.size)
    (hK : ∀ v' w', RulesOwn B w' v' (rs ++ qs) → w.grownBy w' v.ownBlock → wpList Tryz.prog ops Q rest (a.put o.dst v') w') : wpList Tryz.prog ops Q (o :: rest) a w := by
  obtain ⟨i0, hi, hz0, hz1, hz2⟩ := info_parts infoRule
  refine wpList_append_own w hgd s x 54 ho B 37 i0 _ 19 152 underRules hi hz0 hz1 hz2 rfl (by decide) v rs.length (rowL rs) hs h.1 ad m c (rowL qs) hx (by rw [rowL_length, hq]) hc (rowL_one qs) (by unfold maxLen; omega) (by omega) hB ?_
  intro v' w' hown hgr hnil
  refine hK v' w' ⟨?_, fun e => ?_, h.2.2⟩ hgr
  · rw [rowL_append, List.length_append, hq]; exact hown
  · obtain ⟨e1, e2⟩ := List.append_eq_nil_iff.1 e
    subst e2
    exact hnil.2 ⟨h.2.1 e1, by simpa using hq.symm⟩
/-- The cells of the first rules, and of the last ones. -/
theorem RulesOwn.cells_take {B : Nat} {w : World} {g n cap : Nat} {rs : List Rl} (h : RulesOwn B w (.slice (some ⟨g, 0, none⟩) n cap) rs) (k : Nat) (hk : k ≤ rs.length) : ∀ j u, (rowL (rs.take k))[j]? = some u → w.cell? ((⟨g, 0, none⟩ : Addr).add j) = some u := fun j u hu => by
  refine h.1.cells (g := g) rfl j u ?_
  rw [← rowL_take rs k hk, List.getElem?_take] at hu
  split at hu
  · exact hu
  · cases hu
theorem RulesOwn.cells_drop {B : Nat} {w : World} {g n cap : Nat} {rs : List Rl} (h : RulesOwn B w (.slice (some ⟨g, 0, none⟩) n cap) rs) (k : Nat) (hk : k ≤ rs.length) : ∀ j u, (rowL (rs.drop k))[j]? = some u → w.cell? ((⟨g, k * 19, none⟩ : Addr).add j) = some u := fun j u hu => by
  rw [← rowL_drop rs k hk, List.getElem?_drop] at hu
  have := h.1.cells (g := g) rfl (k * 19 + j) u hu
  rw [Addr.add_mid] at this ⊢
  simpa using this

theorem Below.setCells {B : Nat} {w : World} {b : Nat} (hb : B ≤ b) : ∀ (vs : List Value) (o : Nat) {w' : World}, Below B w w' → Below B w (w'.setCells b o vs)
  | [], _, _, h => h
  | v :: r, o, w', h => by
    rw [World.setCells]
    exact Below.setCells hb r (o + 1) (h.setCell hb v)
theorem there_new (w : World) (cs : Array Value) (t : TypeId) : (w.alloc (.cells cs t)).there w.heap.size 0 cs.size := fun j hj => by
  rw [Nat.zero_add]
  exact ⟨by rw [World.cell?_alloc_new]; simpa using hj, World.frozen?_alloc_at _ _ _ _ rfl⟩
theorem there_at {w : World} {cs : Array Value} {t : TypeId} {b : Nat} (hb : b = w.heap.size) : (w.alloc (.cells cs t)).there b 0 cs.size := hb ▸ there_new w cs t
theorem TabIs.lt {w : World} {t : Nat} {F : Nat → Prop} {L : List Ent} (h : TabIs w t F L) {x : Nat} (hx : F x) : x < w.heap.size := by
  obtain ⟨b1, b2, sv1, sv2, LI, T, _, _, rfl⟩ := h
  rcases hx with rfl | (rfl | h) | (rfl | h)
  · exact block_lt_of_cell T.c0
  · exact block_lt_of_cell T.mI.1
  · exact T.hI.lt h
  · exact block_lt_of_cell T.mR.1
  · exact T.hR.lt h
theorem Below.of_grown {B : Nat} {w w' : World} {row : Option Nat} (h : w.grownBy w' row) (hB : B ≤ w.heap.size) (hr : ∀ x, row = some x → B ≤ x) : Below B w w' :=
  (Chg.grown (X := fun x => row = some x) h fun _ hk => hk).below hB fun x hx => hr x hx
theorem RulesOwn.base {B : Nat} {w : World} {v : Value} {rs : List Rl} (h : RulesOwn B w v rs) : ∀ x, v.ownBlock = some x → B ≤ x := fun x hx => (h.1.lt x hx).1
theorem cells_new (w : World) (R : Rl) (t : TypeId) : ∀ j u, (rowL [R])[j]? = some u → (w.alloc (.cells R.cells t)).cell? ((⟨w.heap.size, 0, none⟩ : Addr).add j) = some u := fun j u hu => by
  rw [Addr.add_mid]
  have h : rowL [R] = R.cells.toList := by simp [rowL]
  rw [h] at hu
  exact range_new w R.cells t j u hu

theorem wpList_store_to {P : Program} {ops : Array Oper} {rest : List Oper} {op : Oper} {a : Act} {w : World} {Q : Exit → Act → World → Prop} (hgd : op.guard = none) (ty : TypeId) (x y : Operand) (ho : op.op = .store ty x y)
    (b o : Nat) (cells : Array Value) (hx : a.eval x = .pointer (some ⟨b, o, none⟩)) (hy : a.eval y = .agg cells)
    (ht : w.there b o cells.size) (hi : (P.info? ty).map (·.size) = some cells.size) (h1 : cells.all (·.oneCell') = true) (W : World) (hW : w.setCells b o cells.toList = W)
    (h : wpList P ops Q rest (a.put op.dst undef) W) : wpList P ops Q (op :: rest) a w := by
  subst hW
  exact wpList_store_mid hgd ty x y ho b o cells hx hy ht hi h1 h
theorem ones (R : Rl) : R.cells.all (·.oneCell') = true := by simp [Rl.cells, Value.oneCell']
theorem buildRules (R : Rl) (w : World) : (Instr.buildSlice 54 1 #[(0, .agg #[.int .i64 R.id, .int .i64 R.pr, .int .i64 R.k0, .int .i64 R.v0, .int .i64 R.m0, .int .i64 R.k1, .int .i64 R.v1, .int .i64 R.m1, .int .i64 R.k2, .int .i64 R.v2, .int .i64 R.m2, .int .i64 R.k3, .int .i64 R.v3, .int .i64 R.m3, .int .i64 R.k4, .int .i64 R.v4, .int .i64 R.m4, .int .i64 R.ac, .int .i64 R.po])]).run Tryz.prog w = .ok (.slice (some ⟨w.heap.size, 0, none⟩) 1 1) (w.alloc (.cells #[.int .i64 R.id, .int .i64 R.pr, .int .i64 R.k0, .int .i64 R.v0, .int .i64 R.m0, .int .i64 R.k1, .int .i64 R.v1, .int .i64 R.m1, .int .i64 R.k2, .int .i64 R.v2, .int .i64 R.m2, .int .i64 R.k3, .int .i64 R.v3, .int .i64 R.m3, .int .i64 R.k4, .int .i64 R.v4, .int .i64 R.m4, .int .i64 R.ac, .int .i64 R.po] 37)) := by kernel_rfl
end Go.Proofs.YtnjalelblbjfiaaGreatDoor

namespace Go.Proofs.YtnjalelblbjfiaaGreatDoor
open Go.RowKit

/-- The document's table in memory: its list of rules. -/
def RefAt (B : Nat) (w : World) (y o : Nat) (v : Value) (rs : List Rl) : Prop := w.cell? ⟨y, o, none⟩ = some v ∧ w.frozen? ⟨y, o, none⟩ = false ∧ RulesOwn B w v rs ∧ rs.length ≤ 200 ∧ o ≤ 3
theorem RefAt.slice {B : Nat} {w : World} {y o : Nat} {v : Value} {rs : List Rl} (h : RefAt B w y o v rs) : ∃ a cap g, v = .slice a rs.length cap ∧ ∀ k, (hk : k < rs.length) → a = some ⟨g, 0, none⟩ ∧ w.rangeAt g (k * 19) rs[k].cells.toList := h.2.2.1.row

/-- Of a block only one cell has changed. -/
def OnlyAt (w W : World) (y o : Nat) : Prop := ∀ j, j ≠ o → W.cell? ⟨y, j, none⟩ = w.cell? ⟨y, j, none⟩ ∧ W.frozen? ⟨y, j, none⟩ = w.frozen? ⟨y, j, none⟩
theorem OnlyAt.set {w w' : World} {y o : Nat} (h : ∀ j, w'.cell? ⟨y, j, none⟩ = w.cell? ⟨y, j, none⟩ ∧ w'.frozen? ⟨y, j, none⟩ = w.frozen? ⟨y, j, none⟩) (v : Value) : OnlyAt w (w'.setCell ⟨y, o, none⟩ v) y o := fun j hj =>
  ⟨(set_other (.inr (Ne.symm hj))).trans (h j).1, (World.frozen?_setCell ..).trans (h j).2⟩
theorem OnlyAt.of_block {w w' : World} {y : Nat} (h : w'.heap[y]? = w.heap[y]?) (j : Nat) : w'.cell? ⟨y, j, none⟩ = w.cell? ⟨y, j, none⟩ ∧ w'.frozen? ⟨y, j, none⟩ = w.frozen? ⟨y, j, none⟩ :=
  ⟨World.cell?_of_block (a := ⟨y, j, none⟩) h, World.frozen?_of_block (a := ⟨y, j, none⟩) h⟩
/-- Where a rule is in a list. -/
def XFind (rs : List Rl) (x : Int) (z : Int) : Prop := (z = -1 ∧ ∀ q ∈ rs, q.id ≠ x) ∨ ∃ k, ∃ hk : k < rs.length, z = k ∧ rs[k].id = x ∧ ∀ j (hj : j < k), (rs[j]'(by omega)).id ≠ x
set_option maxRecDepth 100000 in
set_option maxHeartbeats 1000000 in
theorem xtfind_any (B y o : Nat) (v : Value) (rs : List Rl) (x : Int) (w : World) (h : RefAt B w y o v rs) :
    Calls Tryz.prog 124 #[.pointer (some ⟨y, o, none⟩), .int .i64 x] w fun e w' => w' = w ∧ ∃ z : Int, e = .returned (.int .i64 z) ∧ XFind rs x z := by
  obtain ⟨a, cap, g, rfl, hc⟩ := h.slice
  have h0 := h.1
  have hn := h.2.2.2.1
  have HC := hide hc
  clear h hc
  go_enter Tryz.func124, Tryz.ntmps124
  go_wp2
  go_loopw [5] (fun i wr => Hid (wr = w) ∧ ∃ k : Nat, k ≤ rs.length ∧ i = .int .i64 k ∧ ∀ j (hj : j < k) (hl : j < rs.length), rs[j].id ≠ x) (fun i _ => rs.length - (intOf i).toNat)
  case atStart => exact ⟨hide rfl, 0, by omega, rfl, fun j hj => absurd hj (by omega)⟩
  case round =>
    obtain ⟨hw, k, hk, rfl, hne⟩ := hrel
    obtain rfl := hw.out
    clear hw
    have HNE := hide hne
    clear hne
    by_cases hlt : k < rs.length
    · obtain ⟨rfl, hr⟩ := HC.out k hlt
      have c0 : wr.cell? ⟨g, k * 19, none⟩ = some (.int .i64 rs[k].id) := hr 0 _ rfl
      have hgl := block_lt_of_cell c0
      have hki : (k : Int) < rs.length := by omega
      have HID : Hid (rs[k].id = rs[k].id) := hide rfl
      obtain ⟨z, hz⟩ : ∃ z, z = rs[k].id := ⟨_, rfl⟩
      rw [← hz] at c0
      have HZ := hide hz
      clear hr hz
      by_cases hx : z = x
      · have hb : (z == x) = true := by simp [hx]
        have HX := hide hx
        clear hx
        go_wp2
        go_ret
        exact ⟨rfl, k, rfl, .inr ⟨k, hlt, rfl, HZ.out ▸ HX.out, fun j hj => HNE.out j hj (by omega)⟩⟩
      · have hb : (z == x) = false := by simpa using hx
        have HX := hide hx
        clear hx
        go_wp2
        go_roundw
        case rel =>
          refine ⟨hide (by trivial), k + 1, by omega, by go_num, fun j hj hl => ?_⟩
          rcases Nat.lt_or_eq_of_le (show j ≤ k by omega) with h' | h'
          · exact HNE.out j h' hl
          · subst h'
            rw [← HZ.out]
            exact HX.out
        case measure => simp [intOf]; omega
    · have hki : ¬ (k : Int) < rs.length := by omega
      have HK := hide hk
      go_wp2
      go_ret
      refine ⟨rfl, -1, rfl, .inl ⟨rfl, fun q hq => ?_⟩⟩
      obtain ⟨j, hj, rfl⟩ := List.getElem_of_mem hq
      exact HNE.out j (by omega) hj
end Go.Proofs.YtnjalelblbjfiaaGreatDoor

namespace Go.Proofs.YtnjalelblbjfiaaGreatDoor
open Go.RowKit

theorem ownsRow_baseV {w : World} {B B' : Nat} {t : TypeId} {s n : Nat} {v : Value} {xs : List Value} (h : w.ownsRow B t s v n xs) (hB : B' ≤ B) : w.ownsRow B' t s v n xs := by
  refine ⟨h.1, ?_⟩
  rcases h.2 with h | ⟨g, cap, cur, e, hb, r⟩
  · exact .inl h
  · exact .inr ⟨g, cap, cur, e, Nat.le_trans hB hb, r⟩
/-- What Delete of the document's table leaves. -/
def XDel (B y o : Nat) (rs : List Rl) (x : Int) (w : World) (e : Ending) (W : World) : Prop :=
  (e = .returned (.int .i64 7) ∧ W = w ∧ ∀ q ∈ rs, q.id ≠ x) ∨ ∃ k, ∃ hk : k < rs.length, rs[k].id = x ∧ e = .returned (.int .i64 0) ∧ ∃ v', RefAt B W y o v' (rs.take k ++ rs.drop (k + 1)) ∧ Chg (fun b => b = y) w W ∧ OnlyAt w W y o ∧ ∀ b, v'.ownBlock = some b → w.heap.size ≤ b
theorem XDel.done {B y o : Nat} {rs : List Rl} {x : Int} {w w6 w7 : World} {v v6 v7 : Value} (h : RefAt B w y o v rs) (hB : 0 < B ∧ B ≤ w.heap.size) {k : Nat} (hk : k < rs.length) (hid : rs[k].id = x) (hO6 : RulesOwn w.heap.size w6 v6 (rs.take k)) (hg6 : w.grownBy w6 none) (hO7 : RulesOwn w.heap.size w7 v7 (rs.take k ++ rs.drop (k + 1))) (hg7 : w6.grownBy w7 v6.ownBlock) : XDel B y o rs x w (.returned (.int .i64 0)) (w7.setCell ⟨y, o, none⟩ v7) := by
  have hyl : y < w.heap.size := block_lt_of_cell h.1
  have hb6 : Below w.heap.size w w6 := Below.of_grown hg6 (Nat.le_refl _) fun x hx => by cases hx
  have hb7 : Below w.heap.size w w7 := hb6.trans (Below.of_grown hg7 hb6.size hO6.base)
  have c7 := cell_later hb7 h.1
  have hne : ∀ g, v7.ownBlock = some g → g ≠ y := fun g hg e => by have := hO7.base g hg; omega
  refine .inr ⟨k, hk, hid, rfl, v7, ⟨World.cell?_setCell_same _ _ _ c7, ?_, ?_, ?_, h.2.2.2.2⟩, ?_, OnlyAt.set (fun j => OnlyAt.of_block (hb7.block y hyl) j) _, hO7.base⟩
  · rw [World.frozen?_setCell]
    exact (hb7.frozen (p := ⟨y, o, none⟩) hyl).trans h.2.1
  · have h1 := hO7.same (w' := w7.setCell ⟨y, o, none⟩ v7) fun g hg => Below.heap_setCell _ _ _ _ (hne g hg)
    exact ⟨ownsRow_baseV h1.1 hB.2, h1.2.1, hB.1⟩
  · have := h.2.2.2.1
    simp only [List.length_append, List.length_take, List.length_drop]
    omega
  · exact Chg.setCell (X := fun b => b = y) (p := ⟨y, o, none⟩) (Chg.of_below hb7) (.inl rfl) _

set_option maxRecDepth 100000 in
set_option maxHeartbeats 2000000 in
theorem xDelete_any (B y o : Nat) (v : Value) (rs : List Rl) (x : Int) (w : World) (h : RefAt B w y o v rs) (hB : 0 < B ∧ B ≤ w.heap.size) :
    Calls Tryz.prog 68 #[.pointer (some ⟨y, o, none⟩), .int .i64 x] w (XDel B y o rs x w) := by
  have CF := hide (xtfind_any B y o v rs x w h)
  have h0 := h.1
  have hf0 := h.2.1
  have hn := h.2.2.2.1
  have hyl := block_lt_of_cell h0
  have HH := hide h
  have HDN := hide fun (k : Nat) (hk : k < rs.length) (hid : rs[k].id = x) (w6 w7 : World) (v6 v7 : Value) a b c d => XDel.done (w6 := w6) (w7 := w7) (v6 := v6) (v7 := v7) h hB hk hid a b c d
  have HB := hide hB
  clear h hB
  go_enter Tryz.func68, Tryz.ntmps68
  go_wp2_with fail
  refine CF.out.mono ?_
  rintro e W ⟨hww, z, rfl, hz⟩
  rw [hww]
  clear hww W CF
  rcases hz with ⟨rfl, hno⟩ | ⟨k, hk, rfl, hid, _⟩
  · have HNO := hide hno
    clear hno
    go_wp2
    go_ret
    exact .inl ⟨rfl, rfl, HNO.out⟩
  · obtain ⟨g, cap, rfl⟩ : ∃ g cap, v = .slice (some ⟨g, 0, none⟩) rs.length cap := by
      rcases HH.out.2.2.1.1.2 with ⟨_, h'⟩ | ⟨g, cap, cur, h', _⟩
      · omega
      · exact ⟨g, cap, h'⟩
    have hcap : rs.length ≤ cap := by
      rcases HH.out.2.2.1.1.2 with ⟨h', _⟩ | ⟨g', cap', cur, h', _, _, hc, _⟩
      · cases h'
      · cases h'; exact hc
    have O0 := hide HH.out.2.2.1
    have hpos : 0 < w.heap.size := by omega
    have HDK := hide (HDN.out k hk hid)
    have hki : (k : Int) < rs.length := by omega
    have hki0 : ¬ (k : Int) < 0 := by omega
    have hkc : (k : Int) ≤ cap := by omega
    have hkc1 : (k : Int) + 1 ≤ rs.length := by omega
    have hlc : (rs.length : Int) ≤ cap := by omega
    clear HDN hid HH
    go_wp2_with ((with_reducible show wpList _ _ _ _ _ _); at_builtin; refine wpList_rules (RulesOwn.nil w hpos) rfl _ _ rfl rfl ⟨g, 0, none⟩ k cap rfl (rs.take k) (by simp; omega) (O0.out.cells_take k (by omega)) (by simp; omega) (Nat.le_refl _) ?_)
    intro v6 w6 hO6 hg6
    have OL := hide (O0.out.same fun b hb => hg6.block b (O0.out.lt hb) (by simp [Value.ownBlock]))
    have O6 := hide hO6
    have G6 : Hid (w.grownBy w6 none) := hide hg6
    have hs6 : w.heap.size ≤ w6.heap.size := hg6.size
    have y6 : w6.cell? ⟨y, o, none⟩ = some (.slice (some ⟨g, 0, none⟩) rs.length cap) := cell_later (Below.of_grown G6.out (Nat.le_refl _) fun x hx => by cases hx) h0
    have hyl6 := block_lt_of_cell y6
    clear hO6 hg6
    by_cases hcz : cap = k + 1
    · have hdn : rs.drop (k + 1) = [] := List.drop_eq_nil_of_le (by omega)
      have hcv : ∀ j u, (rowL (rs.drop (k + 1)))[j]? = some u → w6.cell? ((⟨g, 0, none⟩ : Addr).add j) = some u := fun j u hu => by rw [hdn] at hu; cases hu
      have hlen6 : (rs.take k).length + 0 ≤ 1000 := by rw [List.length_take]; omega
      subst hcz
      clear hdn
      go_wp2_with ((with_reducible show wpList _ _ _ _ _ _); at_builtin; refine wpList_rules O6.out rfl _ _ rfl rfl ⟨g, 0, none⟩ 0 _ rfl (rs.drop (k + 1)) (by rw [List.length_drop]; omega) hcv hlen6 hs6 ?_)
      intro l7 w7 hO7 hg7
      obtain ⟨a7, c7, g7, rfl, _⟩ := hO7.row
      have FIN := hide (HDK.out w6 w7 v6 _ O6.out G6.out hO7 hg7)
      generalize (rs.take k ++ rs.drop (k + 1)).length = n7 at FIN ⊢
      have hb67 : Below w.heap.size w w7 := (Below.of_grown G6.out (Nat.le_refl _) fun x hx => by cases hx).trans (Below.of_grown hg7 hs6 O6.out.base)
      have y7 := cell_later hb67 h0
      have f7 := (hb67.frozen (p := ⟨y, o, none⟩) hyl).trans hf0
      have hyl7 := block_lt_of_cell y7
      clear hO7 hg7 hb67 O6 OL O0 G6 HDK hcv y6 hyl6
      go_wp2
      go_ret
      exact FIN.out
    · have hcz1 : k + 1 < cap := by omega
      have hcz2 : ¬ (cap - (k + 1) = 0) := by omega
      go_wp2_with ((with_reducible show wpList _ _ _ _ _ _); at_builtin; refine wpList_rules O6.out rfl _ _ rfl rfl ⟨g, (k + 1) * 19, none⟩ (rs.length - (k + 1)) _ rfl (rs.drop (k + 1)) (by simp) (OL.out.cells_drop (k + 1) (by omega)) (by simp; omega) hs6 ?_)
      intro l7 w7 hO7 hg7
      obtain ⟨a7, c7, g7, rfl, _⟩ := hO7.row
      have FIN := hide (HDK.out w6 w7 v6 _ O6.out G6.out hO7 hg7)
      generalize (rs.take k ++ rs.drop (k + 1)).length = n7 at FIN ⊢
      have hb67 : Below w.heap.size w w7 := (Below.of_grown G6.out (Nat.le_refl _) fun x hx => by cases hx).trans (Below.of_grown hg7 hs6 O6.out.base)
      have y7 := cell_later hb67 h0
      have f7 := (hb67.frozen (p := ⟨y, o, none⟩) hyl).trans hf0
      have hyl7 := block_lt_of_cell y7
      clear hO7 hg7 hb67 O6 OL O0 G6 HDK y6 hyl6
      go_wp2
      go_ret
      exact FIN.out
end Go.Proofs.YtnjalelblbjfiaaGreatDoor

namespace Go.Proofs.YtnjalelblbjfiaaGreatDoor
open Go.RowKit

/-- Values put into a row, one behind the other. -/
def setMany : List Value → Nat → List Value → List Value
  | xs, _, [] => xs
  | xs, o, v :: r => setMany (xs.set o v) (o + 1) r
theorem setMany_mid : ∀ (vs a b c : List Value), b.length = vs.length → setMany (a ++ b ++ c) a.length vs = a ++ vs ++ c
  | [], a, [], c, _ => by simp [setMany]
  | v :: vs, a, x :: b, c, h => by
    have h1 : (a ++ x :: b ++ c).set a.length v = (a ++ [v]) ++ b ++ c := by simp
    rw [setMany, h1]
    have h2 := setMany_mid vs (a ++ [v]) b c (by simpa using h)
    rw [List.length_append, List.length_singleton] at h2
    rw [h2]
    simp
theorem rowL_setMany (rs : List Rl) (i : Nat) (hi : i < rs.length) (r : Rl) : setMany (rowL rs) (i * 19) r.cells.toList = rowL (rs.set i r) := by
  have e1 : rs = rs.take i ++ [rs[i]] ++ rs.drop (i + 1) := by
    rw [List.append_assoc]
    simp
  have e2 : rs.set i r = rs.take i ++ [r] ++ rs.drop (i + 1) := by
    rw [List.set_eq_take_append_cons_drop, if_pos hi, List.append_assoc]
    rfl
  have h := setMany_mid r.cells.toList (rowL (rs.take i)) (rowL [rs[i]]) (rowL (rs.drop (i + 1))) (by rw [rowL_length, cells_length]; rfl)
  rw [← rowL_append, ← rowL_append, ← e1, rowL_length, List.length_take, Nat.min_eq_left (by omega)] at h
  rw [h, e2, rowL_append, rowL_append]
  simp [rowL]
theorem ownsRow_setV {w : World} {B : Nat} {t : TypeId} {s n g cap : Nat} {xs : List Value} (h : w.ownsRow B t s (.slice (some ⟨g, 0, none⟩) n cap) n xs) {j : Nat} (_hj : j < n * s) (v : Value) : (w.setCell ⟨g, j, none⟩ v).ownsRow B t s (.slice (some ⟨g, 0, none⟩) n cap) n (xs.set j v) := by
  refine ⟨by rw [List.length_set]; exact h.1, ?_⟩
  rcases h.2 with ⟨h, _⟩ | ⟨g', cap', cur, e, hb, hg, hc, hm, hs, ht⟩
  · cases h
  · cases e
    refine .inr ⟨g, cap, cur.setIfInBounds j v, rfl, hb, ?_, hc, hm, by simpa using hs, ?_⟩
    · exact heap_setCell_same w g j _ _ v hg
    · rw [← ht]
      simp [List.take_set]
theorem ownsRow_setCells {B : Nat} {t : TypeId} {s n g cap : Nat} : ∀ (vs : List Value) (o : Nat) {w : World} {xs : List Value}, w.ownsRow B t s (.slice (some ⟨g, 0, none⟩) n cap) n xs → o + vs.length ≤ n * s → (w.setCells g o vs).ownsRow B t s (.slice (some ⟨g, 0, none⟩) n cap) n (setMany xs o vs)
  | [], _, _, _, h, _ => h
  | v :: r, o, w, xs, h, hl => by
    rw [World.setCells, setMany]
    exact ownsRow_setCells r (o + 1) (ownsRow_setV h (by simp at hl; omega) v) (by simp at hl; omega)
/-- A rule of a list is replaced. -/
theorem RulesOwn.store {B : Nat} {w : World} {g n cap : Nat} {rs : List Rl} (h : RulesOwn B w (.slice (some ⟨g, 0, none⟩) n cap) rs) (hn : n = rs.length) {i : Nat} (hi : i < rs.length) (r : Rl) : RulesOwn B (w.setCells g (i * 19) r.cells.toList) (.slice (some ⟨g, 0, none⟩) n cap) (rs.set i r) := by
  subst hn
  refine ⟨?_, fun e => ?_, h.2.2⟩
  · have h1 := ownsRow_setCells r.cells.toList (i * 19) h.1 (by rw [cells_length]; omega)
    rw [rowL_setMany rs i hi r] at h1
    rw [List.length_set]
    exact h1
  · have := congrArg List.length e
    rw [List.length_set] at this
    simp at this
    rw [this] at hi
    exact absurd hi (by simp)
/-- One step of the bubble: the last rule moves one place ahead. -/
theorem bubble_step {rs : List Rl} {r : Rl} {j : Nat} (hl : j + 1 ≤ rs.length) : (((rs.take (j + 1) ++ r :: rs.drop (j + 1)).set (j + 1) (rs[j]'(by omega))).set j r) = rs.take j ++ r :: rs.drop j := by
  have e1 : rs.take (j + 1) = rs.take j ++ [rs[j]'(by omega)] := by
    rw [List.take_add_one, List.getElem?_eq_getElem (by omega)]
    rfl
  have e2 : rs.drop j = (rs[j]'(by omega)) :: rs.drop (j + 1) := List.drop_eq_getElem_cons (by omega)
  have hlen : (rs.take j).length = j := by rw [List.length_take]; omega
  rw [e2, e1, List.append_assoc, List.singleton_append]
  rw [List.set_append_right _ _ (by rw [hlen]; omega), hlen, show j + 1 - j = 1 by omega]
  rw [List.set_append_right _ _ (by rw [hlen]; omega), hlen, Nat.sub_self]
  rfl
end Go.Proofs.YtnjalelblbjfiaaGreatDoor
