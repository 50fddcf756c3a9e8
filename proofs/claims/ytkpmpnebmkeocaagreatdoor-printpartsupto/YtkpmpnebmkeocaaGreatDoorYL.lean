/-
  What the rows' list of package variables gives: the table of powers lies as it should. No conditions.
-/
import Derived.Test.YtkpmpnebmkeocaaGreatDoorY11
import Derived.LaidMore
set_option linter.unusedVariables false
namespace Go.Proofs.YtkpmpnebmkeocaaGreatDoor
open Go.RowKit

theorem gType : (Tryz.prog.globalNamed "internal/strconv.uint64pow10").bind (fun g => (Tryz.prog.globals[g]?).map (·.type)) = some 144 := by kernel_rfl
theorem cellsU : Tryz.prog.cellsOf 114 = 1 := by kernel_rfl
theorem cellsT : Tryz.prog.cellsOf 144 = 20 := by kernel_rfl
theorem tab_of_laid {W : World} (h : laidMetH Tryz.prog Rows.printParsedRow.laid W) : TabW W := by
  have h2 : laidMet Tryz.prog Rows.printParsedRow.laid W := h
  obtain ⟨ps, hv, _⟩ := h2
  obtain ⟨_, _, _, _, _, q1, _, _, _, _, hv1, _⟩ := hv
  obtain ⟨_, _, _, _, _, q2, _, _, _, _, hv2, _⟩ := hv1
  obtain ⟨g', t', cs, fuel, p, q, hg', ht', hvar, hd, _, _⟩ := hv2
  have hty := gType
  rw [hg', Option.bind_some, ht'] at hty
  obtain rfl := Option.some.inj hty
  unfold TabW Lib.TabIs
  rw [hvar, ← Lib.cells_of_tab Tryz.underlying144 Tryz.underlying114 cellsU cellsT hd]
end Go.Proofs.YtkpmpnebmkeocaaGreatDoor
