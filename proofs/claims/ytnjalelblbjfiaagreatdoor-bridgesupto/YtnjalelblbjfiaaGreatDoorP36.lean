import Derived.Test.YtnjalelblbjfiaaGreatDoorP28
import Derived.Test.YtnjalelblbjfiaaGreatDoorP35
namespace Go.Proofs.YtnjalelblbjfiaaGreatDoor
open Go.RowKit

theorem SwP.below {w W : World} {s k m : Nat} {pv sv : Value} {P : List Prt} {K : List Mc} (h : SwP w s pv P k m sv K) (hb : Below w.heap.size w W) : SwP W s pv P k m sv K := by
  obtain ⟨a, b, c, d⟩ := h.kept (Chg.of_below hb)
  exact ⟨a, b, c, h.hK.below hb, d⟩

end Go.Proofs.YtnjalelblbjfiaaGreatDoor

namespace Go.Proofs.YtnjalelblbjfiaaGreatDoor
open Go.RowKit Go.Maps

/-- What a table of verdicts says that has none. -/
def noV : Int → Int × Int := fun _ => (0, 0)
theorem verd_new {w : World} {b : Nat} (h : w.heap[b]? = some (.map #[] 0)) : VerdAt w b 0 noV := by
  obtain ⟨es, cl, h1, h2, h3, h4⟩ := World.ownsMap_made (H := Unit) w Tryz.prog 3 verdE
  rw [allocN] at h1
  cases h1
  exact ⟨.map [], ⟨#[], 0, h, h2, h3, rfl⟩, fun _ _ => rfl⟩

/-- A new switch has no faces and no rules, also behind frames and ticks. -/
theorem NewI.swR {w Wb W1 w' : World} {fb rb hb t vb k m n : Nat} {F : Nat → Prop} {pv : Value} (h : NewI w fb rb hb t vb k m F Wb n W1) (hC : W1.heap[Wb.heap.size]? = some (.cells (swCells pv fb rb t vb k) 140 (0, 0))) (hc : Chg (fun b => b = k ∨ b = m) W1 w') : SwR w' Wb.heap.size fb t vb (.slice none 0 0) [] F [] noV := by
  have hk : k < Wb.heap.size := block_lt_of_cell h.n.nk.1
  have hm : m < Wb.heap.size := block_lt_of_cell h.n.nk.2.2.1.1.1
  have bs : w'.heap[Wb.heap.size]? = _ := (hc.block _ (lt_of_heap hC) (by rintro (e | e) <;> omega)).trans hC
  have hf1 := (h.lo.block _ (lt_of_heap h.n.nf)).trans h.n.nf
  have hv1 := (h.lo.block _ (lt_of_heap h.n.nv)).trans h.n.nv
  have bf : w'.heap[fb]? = _ := (hc.block _ (lt_of_heap hf1) (by
    have c0 : Wb.cell? ⟨fb, 0, none⟩ = some (.func (.func 33) #[] #[]) := cellRow h.n.nf rfl
    rintro (e | e)
    · subst e; rw [h.n.nk.1] at c0; cases c0
    · subst e; rw [h.n.nk.2.2.1.1.1] at c0; cases c0)).trans hf1
  have bv : w'.heap[vb]? = _ := (hc.block _ (lt_of_heap hv1) (by
    rintro (e | e)
    · subst e; have := h.n.nk.1; rw [noCell h.n.nv rfl] at this; cases this
    · subst e; have := h.n.nk.2.2.1.1.1; rw [noCell h.n.nv rfl] at this; cases this)).trans hv1
  obtain ⟨W0, a, b, c, d⟩ := h.n.tw
  have hB : Below W0.heap.size W0 w' := (b.trans (h.lo.mono b.size)).trans (hc.below (Nat.le_trans b.size h.lo.size) (by rintro x (rfl | rfl) <;> assumption))
  exact ⟨cellRow bs rfl, ⟨cellRow bf rfl, cellRow bf rfl, ⟨rfl, .inl ⟨rfl, rfl⟩⟩, fun j => frzRow bf j, Nat.zero_le _⟩, List.Pairwise.nil, fun g hg => (by cases hg), cellRow bs rfl, a.still hB, cellRow bs rfl, verd_new bv, fun hx => Nat.lt_irrefl _ (h.n.lg _ hx), fun g hg => (by cases hg)⟩
end Go.Proofs.YtnjalelblbjfiaaGreatDoor
