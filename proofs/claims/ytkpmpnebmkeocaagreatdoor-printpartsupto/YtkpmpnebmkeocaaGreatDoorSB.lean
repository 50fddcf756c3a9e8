/-
  The walk of proteanref02.Stmts over statements that are the same: they are found so. No conditions.
-/
import Derived.Test.YtkpmpnebmkeocaaGreatDoorSA
import Derived.KernelRfl
set_option linter.unusedVariables false
section
namespace Go.Proofs.YtkpmpnebmkeocaaGreatDoor
open Go.RowKit

theorem pair_new {wr : World} {A B : Obj} : Below wr.heap.size wr ((wr.alloc A).alloc B).drew ∧ ((wr.alloc A).alloc B).drew.heap[wr.heap.size]? = some A ∧ ((wr.alloc A).alloc B).drew.heap[wr.heap.size + 1]? = some B ∧ ((wr.alloc A).alloc B).drew.heap.size = wr.heap.size + 2 := by
  refine ⟨(((Below.refl _ _).alloc (Nat.le_refl _) _).alloc (by simp) _).drew, ?_, ?_, ?_⟩
  · show ((wr.alloc A).alloc B).heap[wr.heap.size]? = _
    exact (Below.heap_alloc _ _ _ (by simp)).trans (heap_alloc_new wr _)
  · show ((wr.alloc A).alloc B).heap[wr.heap.size + 1]? = _
    have := heap_alloc_new (wr.alloc A) B
    rw [World.size_alloc] at this; exact this
  · show ((wr.alloc A).alloc B).heap.size = _
    simp only [World.size_alloc]

end Go.Proofs.YtkpmpnebmkeocaaGreatDoor
end
section
namespace Go.Proofs.YtkpmpnebmkeocaaGreatDoor
open Go.RowKit

end Go.Proofs.YtkpmpnebmkeocaaGreatDoor
end
section
namespace Go.Proofs.YtkpmpnebmkeocaaGreatDoor
open Go.RowKit

theorem slAt_heap {w : World} {g n cap : Nat} {T : TypeId} (cs : List Value) (h : w.heap[g]? = some (.cells cs.toArray T)) (hn : n ≤ 4398046511104) (hcp : n ≤ cap ∧ cap ≤ maxLen := by simp [maxLen]) : SlAt w NoX (.slice (some ⟨g, 0, none⟩) n cap) n cs :=
  ⟨hn, some ⟨g, 0, none⟩, cap, rfl, .inr ⟨g, 0, rfl, (Array.getElem?_eq_some_iff.1 h).1, ⟨fun h => h, hcp⟩, fun i u hu => by rw [Lib.cell_of_heap h]; simpa using hu⟩⟩

end Go.Proofs.YtkpmpnebmkeocaaGreatDoor
end
