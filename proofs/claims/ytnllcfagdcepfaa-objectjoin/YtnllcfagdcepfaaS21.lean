/-
  The law of a join, walked. No conditions.
-/
import Derived.Test.YtnllcfagdcepfaaS21a
import Derived.Test.YtnllcfagdcepfaaS21b
import Derived.Test.YtnllcfagdcepfaaS21c
namespace Go.Proofs.Ytnllcfagdcepfaa
open Go.RowKit Go.Sort
theorem join_law (w : World) (va vb vc : Value) (sa sb sc : M.Shp) (ha : ShAt w va sa) (hb : ShAt w vb sb) (hc : ShAt w vc sc) :
    Calls Try.prog 5 #[va, vb, vc] w fun e w' => e = .returned (.bool true) ∧ Below w.heap.size w w' := by
  rcases (Bool.eq_false_or_eq_true (M.withinS sa sc)).symm with h1 | h1
  · exact join_law1 w va sa ha vb sb hb vc sc hc h1
  · rcases (Bool.eq_false_or_eq_true (M.withinS sb sc)).symm with h2 | h2
    · exact join_law2 w va sa ha vb sb hb vc sc hc h1 h2
    · exact join_law3 w va sa ha vb sb hb vc sc hc h1 h2
end Go.Proofs.Ytnllcfagdcepfaa
