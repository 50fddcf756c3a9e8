/-
  The walk of slices.Insert of one field into a row of fields of the call's own: at the end, in the room that there is, or in a new row. Conditions: rows of at most 100000 fields.
-/
import Derived.Test.YtbaaeobdjiglgaaGreatSI
import Derived.Shelf.RegionOpenPlain
import Derived.Laws.Externs
import Derived.Laws.NewBlocks
set_option linter.unusedVariables false
set_option linter.unusedSimpArgs false
namespace Go.Proofs.YtbaaeobdjiglgaaGreat
open Go.RowKit Go.Sort

theorem step_copyK {P : Program} {ops : Array Oper} {o : Oper} {a : Act} {w : World} {K : Act → World → Prop} {Q : Exit → Act → World → Prop} {E : Prop}
    (hg : o.guard = none) (d x : Operand) (dT sT : TypeId) (hop : o.op = Op.call { callee := Callee.builtin Builtin.copy, args := #[d, x], argTypes := #[dT, sT] })
    (v u : Value) (hd : a.eval d = v) (hx : a.eval x = u) {v' : Value} {w' : World} (hr : (Builtin.copy_ #[dT, sT] o.type #[v, u]).run P w = .ok v' w') (hK : K (a.put o.dst v') w') :
    if Region.wanted o (yielded ops a.tmps) = true then Oper.wp P o a w K Q else E := by
  have hw : Region.wanted o (yielded ops a.tmps) = true := by simp [Region.wanted, hg]
  rw [if_pos hw]
  unfold Oper.wp
  simp [execOp, hop, resolve, invoke, builtin, hd, hx, hr, Result.andThen]
  exact hK

theorem blk_fc {w : World} {vb : Nat} {x : Cel} {T : TypeId} (hv : w.heap[vb]? = some (.cells #[.string x.f.nm, .bool x.f.su, .slice x.a x.f.vs.length x.c] T (0, 0))) :
    ∀ j u, (fc x)[j]? = some u → w.cell? ⟨vb, 0 + j, none⟩ = some u := by
  obtain ⟨n1, n2, n3, _⟩ := cells3 hv
  intro j u hu
  rw [Nat.zero_add]
  match j, hu with
  | 0, hu => simp [fc] at hu; rw [← hu]; exact n1
  | 1, hu => simp [fc] at hu; rw [← hu]; exact n2
  | 2, hu => simp [fc] at hu; rw [← hu]; exact n3
  | j + 3, hu => simp [fc] at hu
theorem fc_one1 (x : Cel) : ∀ u ∈ fc x, u.oneCell' = true := by
  intro u hu; simp [fc] at hu; rcases hu with rfl | rfl | rfl <;> rfl

end Go.Proofs.YtbaaeobdjiglgaaGreat
