/-
  The law of what is written weakly: wherever the property is there or not. No conditions.
-/
import Derived.Test.YtcnikcfnfohoeaaS37a
import Derived.Test.YtcnikcfnfohoeaaS37b
set_option linter.unusedVariables false
namespace Go.Proofs.Ytcnikcfnfohoeaa
open Go.RowKit
theorem weaker_law (w : World) (va v : Value) (sa : M.Shp) (n : ByteArray) (l : List M.Atm) (ha : ShAt w va sa) (hv : AtAt w v l) : Calls Try.prog 6 #[va, .string n, v] w fun e w' => e = .returned (.bool true) ∧ Below w.heap.size w w' := by
  rcases (Bool.eq_false_or_eq_true ((M.getF sa.fs n).isSome)).symm with h | h
  · exact weaker_law0 w va v sa n l ha hv h
  · exact weaker_law1 w va v sa n l ha hv h
end Go.Proofs.Ytcnikcfnfohoeaa
