import Derived.Test.YtnjalelblbjfiaaGreatDoorP36
namespace Go.Proofs.YtnjalelblbjfiaaGreatDoor
open Go.RowKit Go.Maps
open Go.Sort (grow)

/-- The load of a rule, not laid open by the walk. -/
def loadR (v : Value) : Sem Value := Instr.loadAt 37 v
theorem loadR_fold (v : Value) : Instr.loadAt 37 v = loadR v := rfl
attribute [local go_sem ↓ high] loadR_fold

theorem VerdAt.same {w w' : World} {b n : Nat} {V : Int → Int × Int} (h : VerdAt w b n V) (hk : w'.heap[b]? = w.heap[b]?) : VerdAt w' b n V := by
  obtain ⟨D, ⟨es, cl, h1, h2⟩, hV⟩ := h
  exact ⟨D, ⟨es, cl, hk.trans h1, h2⟩, hV⟩
theorem VerdAt.obj {w : World} {b n : Nat} {V : Int → Int × Int} (h : VerdAt w b n V) : ∃ o, w.heap[b]? = some o ∧ o.isCells = false := by
  obtain ⟨D, ⟨es, cl, h1, h2⟩, hV⟩ := h
  exact ⟨_, h1, rfl⟩

end Go.Proofs.YtnjalelblbjfiaaGreatDoor
