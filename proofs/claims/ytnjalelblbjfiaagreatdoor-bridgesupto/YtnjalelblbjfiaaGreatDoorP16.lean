import Derived.Test.YtnjalelblbjfiaaGreatDoorP15
namespace Go.Proofs.YtnjalelblbjfiaaGreatDoor
open Go.RowKit
attribute [local go_sem] Oper.semAt_some cell?_regrown
attribute [local go_sem ↓ high] buildKeptR
attribute [local go_sem ↓ high] xLoad_fold xStore_fold xApp_fold

theorem Chg.setCells {X : Nat → Prop} {a : World} {g : Nat} : ∀ (vs : List Value) (o : Nat) {b : World}, X g ∨ a.heap.size ≤ g → Chg X a b → Chg X a (b.setCells g o vs)
  | [], _, _, _, h => h
  | v :: vs, o, _, hx, h => Chg.setCells vs (o + 1) hx (Chg.setCell (p := ⟨g, o, none⟩) h hx v)
theorem Hld.alloc {w : World} {e : TypeId} {s len : Nat} {M : List Value} {v : Value} (h : Hld w e s M v len) (b : Obj) : Hld (w.alloc b) e s M v len := by
  rcases h with h | ⟨g, cap, cur, e1, hg, h2, h3, hf⟩
  · exact .inl h
  · have hl : g < w.heap.size := (Array.getElem?_eq_some_iff.1 hg).1
    exact .inr ⟨g, cap, cur, e1, (heap_alloc_old w b hl).trans hg, h2, h3, fun k hk q u hu => (World.cell?_of_block (a := ⟨g, k * s + q, none⟩) (heap_alloc_old w b hl)).trans (hf k hk q u hu)⟩

end Go.Proofs.YtnjalelblbjfiaaGreatDoor
