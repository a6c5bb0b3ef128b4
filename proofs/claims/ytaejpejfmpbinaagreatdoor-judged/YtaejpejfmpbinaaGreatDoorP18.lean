import Derived.Test.YtaejpejfmpbinaaGreatDoorP17
namespace Go.Proofs.YtaejpejfmpbinaaGreatDoor
open Go.RowKit

theorem setCells_row {w : World} {g o : Nat} {cur vs : List Value} {t : TypeId} (hg : w.heap[g]? = some (.cells cur.toArray t (0, 0))) (h : o + vs.length ≤ cur.length) (h1 : ∀ v ∈ vs, v.oneCell' = true) : w.setCells g o vs = w.setRow g (splice cur o vs).toArray := by
  have a := run_storeCells_cells (P := Tryz.prog) g o vs 0 w (fun j hj => by
    have : o + j < cur.length := by omega
    simp [World.cell?, hg, this]) (fun j hj => by simp [World.frozen?, hg]) h1
  have b := run_storeCells_at Tryz.prog g o t vs 0 cur.toArray w hg (by simpa using h) h1
  rw [a] at b
  injection b with _ e
  simpa [splice] using e

theorem step_append_wide {P : Program} {ops : Array Oper} {o : Oper} {a : Act} {w : World} {K : Act → World → Prop} {Q : Exit → Act → World → Prop} {E : Prop}
    (hgd : o.guard = none) (s x : Operand) (t : TypeId) (hop : o.op = Op.call { callee := Callee.builtin Builtin.append, args := #[s, x], argTypes := #[t, t] })
    (e : TypeId) (i : TypeInfo) (size : Nat) (h1 : P.underlying t = some (.slice e)) (h2 : P.info? e = some i) (h4 : i.size = size)
    (b n cap : Nat) (hs : a.eval s = .slice (some ⟨b, 0, none⟩) n cap)
    (ad : Addr) (m c : Nat) (news : List Value) (hx : a.eval x = .slice (some ad) m c) (hn : news.length = m * size) (hc : ∀ j u, news[j]? = some u → w.cell? (ad.add j) = some u) (h1c : ∀ u ∈ news, u.oneCell' = true)
    (hroom : n + m ≤ cap) (cur : List Value) (t' : TypeId) (hg : w.heap[b]? = some (.cells cur.toArray t' (0, 0))) (hfit : n * size + news.length ≤ cur.length)
    (X : Nat → Prop) (w0 : World) (hch : Chg X w0 w) (hX : X b ∨ w0.heap.size ≤ b)
    (hK : ∀ w', Hid (w'.heap[b]? = some (.cells (splice cur (n * size) news).toArray t' (0, 0))) → Hid (Chg X w0 w') → K (a.put o.dst (.slice (some ⟨b, 0, none⟩) (n + m) cap)) w') :
    if Region.wanted o (yielded ops a.tmps) = true then Oper.wp P o a w K Q else E := by
  refine step_append_room hgd s x t hop e i size h1 h2 h4 b 0 n cap hs ad m c news hx hn hc h1c hroom (fun j hj => ?_) ?_
  · have : n * size + j < cur.length := by omega
    simp [World.cell?, World.frozen?, hg, this]
  · rw [Nat.zero_add, setCells_row hg hfit h1c]
    exact hK _ (hide (setRow_heap w b _ _ t' _ hg)) (hide (hch.setRow hX _))

theorem run_clear_wide {P : Program} (w : World) (t e ty : TypeId) (z : Value) (ht : P.underlying t = some (.slice e)) (hv : ∀ w, (zeroValue e).run P w = .ok z w) (zs : List Value) (hz : (Builtin.zeroCells z.cells 1).toList = zs) (h1 : ∀ u ∈ zs, u.oneCell' = true) (g o c : Nat) (cur : List Value) (t' : TypeId)
    (hg : w.heap[g]? = some (.cells cur.toArray t' (0, 0))) (hfit : o + zs.length ≤ cur.length) :
    (Builtin.clear_ #[t] ty #[.slice (some ⟨g, o, none⟩) 1 c]).run P w = .ok (.tuple #[]) (w.setRow g (splice cur o zs).toArray) := by
  have hst := run_storeCells_at P g o t' zs 0 cur.toArray w hg (by simpa using hfit) h1
  simp [Builtin.clear_, run_underlying ht, hv, hz, hst, splice]

theorem wpList_clear_wide {P : Program} {w : World} {ops : Array Oper} {rest : List Oper} {o : Oper} {a : Act} {Q : Exit → Act → World → Prop} (hgd : o.guard = none) (x : Operand) (t : TypeId)
    (ho : o.op = .call { callee := .builtin .clear, args := #[x], argTypes := #[t] }) (e : TypeId) (z : Value) (ht : P.underlying t = some (.slice e)) (hv : ∀ w, (zeroValue e).run P w = .ok z w) (zs : List Value) (hz : (Builtin.zeroCells z.cells 1).toList = zs) (h1 : ∀ u ∈ zs, u.oneCell' = true)
    (g off c : Nat) (hx : a.eval x = .slice (some ⟨g, off, none⟩) 1 c) (cur : List Value) (t' : TypeId) (hg : w.heap[g]? = some (.cells cur.toArray t' (0, 0))) (hfit : off + zs.length ≤ cur.length)
    (X : Nat → Prop) (w0 : World) (hch : Chg X w0 w) (hX : X g ∨ w0.heap.size ≤ g)
    (h : ∀ w', Hid (w'.heap[g]? = some (.cells (splice cur off zs).toArray t' (0, 0))) → Hid (Chg X w0 w') → wpList P ops Q rest (a.put o.dst (.tuple #[])) w') : wpList P ops Q (o :: rest) a w := by
  refine wpList_plain hgd fun K hK => ?_
  have hrun := run_clear_wide (P := P) w t e o.type z ht hv zs hz h1 g off c cur t' hg hfit
  unfold Oper.wp
  simp [execOp, ho, resolve, invoke, builtin, hx, hrun, Result.andThen]
  exact hK _ _ (h _ (hide (setRow_heap w g _ _ t' _ hg)) (hide (hch.setRow hX _)))

/-- The row behind a deletion. -/
theorem del_row {α : Type} (L xs zs : List α) (a N s : Nat) (hx : L.take N = xs) (hl : xs.length = N) (hz : zs.length = s) (ha : a + s ≤ N) (hN : N ≤ L.length) :
    (splice (splice L a (xs.drop (a + s))) (N - s) zs).take (N - s) = xs.take a ++ xs.drop (a + s) := by
  have hd : (xs.drop (a + s)).length = N - (a + s) := by rw [List.length_drop, hl]
  have l1 : (splice L a (xs.drop (a + s))).length = L.length := length_splice _ _ _ (by omega)
  have hxg : ∀ j, j < N → xs[j]? = L[j]? := fun j hj => by rw [← hx, List.getElem?_take, if_pos hj]
  apply List.ext_getElem?
  intro j
  rw [List.getElem?_take, splice_get _ _ _ (by omega), List.getElem?_append, List.length_take, hl, Nat.min_eq_left (by omega : a ≤ N)]
  by_cases h1 : j < N - s
  · rw [if_pos h1, if_pos h1, splice_get _ _ _ (by omega)]
    by_cases h2 : j < a
    · rw [if_pos h2, if_pos h2, List.getElem?_take, if_pos h2, hxg j (by omega)]
    · rw [if_neg h2, if_neg h2, if_pos (by omega)]
  · rw [if_neg h1, if_neg (by omega)]
    symm
    rw [List.getElem?_eq_none_iff]
    omega

end Go.Proofs.YtaejpejfmpbinaaGreatDoor

namespace Go.Proofs.YtaejpejfmpbinaaGreatDoor
end Go.Proofs.YtaejpejfmpbinaaGreatDoor

namespace Go.Proofs.YtaejpejfmpbinaaGreatDoor
end Go.Proofs.YtaejpejfmpbinaaGreatDoor
