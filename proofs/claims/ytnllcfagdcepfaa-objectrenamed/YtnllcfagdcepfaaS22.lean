/-
  The law of a renamed join, walked. No conditions.
-/
import Derived.Test.YtnllcfagdcepfaaS22a
import Derived.Test.YtnllcfagdcepfaaS22b
namespace Go.Proofs.Ytnllcfagdcepfaa
open Go.RowKit Go.Sort
theorem renamed_law (w : World) (va : Value) (sa : M.Shp) (ha : ShAt w va sa) (vb : Value) (sb : M.Shp) (hb : ShAt w vb sb) (k : Int) :
    Calls Try.prog 7 #[va, vb, .int .i64 k] w fun e w' => e = .returned (.bool true) ∧ Below w.heap.size w w' := by
  rcases (Bool.eq_false_or_eq_true (M.withinS sa sb)).symm with h | h
  · exact renamed_law0 w va sa ha vb sb hb k h
  · exact renamed_law1 w va sa ha vb sb hb k h
end Go.Proofs.Ytnllcfagdcepfaa
