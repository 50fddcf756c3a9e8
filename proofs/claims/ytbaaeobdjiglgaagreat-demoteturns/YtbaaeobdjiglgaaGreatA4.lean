/-
  The walks of slices.IsSortedFunc and slices.BinarySearchFunc over atoms, with atoms.order. Conditions: lists of at most 2^20 atoms; what is searched is sorted.
-/
import Derived.Test.YtbaaeobdjiglgaaGreatA3
set_option linter.unusedVariables false
namespace Go.Proofs.YtbaaeobdjiglgaaGreat
open Go.RowKit Go.Sort
theorem enters_order : ∀ args w, (callFunc 71 args).run Tryz.prog w = .ok (.enter 71 args) w := enters_of Tryz.func71 (by kernel_rfl) rfl
/-- the value of atoms.order -/
def fnOrder : Value := .func (.func 71) #[] #[]

end Go.Proofs.YtbaaeobdjiglgaaGreat
