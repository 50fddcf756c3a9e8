/-
  What is printed is the text of a program that may be. No conditions.
-/
import Derived.Test.YtkpmpnebmkeocaaGreatDoorY13
set_option linter.unusedVariables false
namespace Go.Proofs.YtkpmpnebmkeocaaGreatDoor
open Go.RowKit

theorem prt_text {p : List M.Fn} (h : prB p = true) : M.rProg p ∧ (M.text p).length ≤ 65536 ∧ prT p = ⟨(M.text p).toArray⟩ := by
  by_cases hc : M.rProg p ∧ (M.text p).length ≤ 65536
  · refine ⟨hc.1, hc.2, ?_⟩
    unfold prT
    rw [M.printed_yes hc.1 hc.2]; rfl
  · unfold prB at h
    rw [M.printed_no hc] at h
    cases h
theorem prt_none {p : List M.Fn} (h : prB p = false) : prT p = ⟨#[]⟩ := by
  unfold prB at h
  unfold prT
  cases hp : M.printed p with
  | none => rfl
  | some b => rw [hp] at h; cases h
theorem prt_yes {p : List M.Fn} (h : M.rProg p) (hl : (M.text p).length ≤ 65536) : prT p = ⟨(M.text p).toArray⟩ ∧ prB p = true := by
  unfold prT prB
  rw [M.printed_yes h hl]
  exact ⟨rfl, rfl⟩
end Go.Proofs.YtkpmpnebmkeocaaGreatDoor
