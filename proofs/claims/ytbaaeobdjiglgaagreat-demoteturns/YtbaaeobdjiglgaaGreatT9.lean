/-
  What is fixed of stage 9, as mathematics: the texts of a state behind Alloc, and behind Age. Nothing of the program's code is walked here. No conditions.
-/
import Derived.Test.YtbaaeobdjiglgaaGreatT7
import Derived.Test.YtbaaeobdjiglgaaGreatT6
set_option linter.unusedVariables false
namespace Go.Proofs.YtbaaeobdjiglgaaGreat
namespace M
def fixS : Sta := ⟨false, [(⟨#[120]⟩, [⟨4, 0⟩])], [(⟨4, 0⟩, ⟨[⟨⟨#[112]⟩, true, [⟨2, 0⟩]⟩], [⟨0, 0⟩]⟩)]⟩
def fixO : Shp := ⟨[], [⟨4, 0⟩]⟩
theorem fixS_may : maySt fixS = true := by decide +kernel
theorem fixO_may : mayS fixO = true := by decide +kernel
theorem fix_alloc : textSt (allocSt fixS ⟨#[121]⟩ 0 fixO) = [120, 58, 32, 115, 117, 109, 48, 10, 121, 58, 32, 114, 101, 99, 48, 10, 114, 101, 99, 48, 58, 32, 112, 114, 111, 116, 111, 32, 40, 115, 117, 109, 48, 41, 10, 115, 117, 109, 48, 58, 32, 112, 33, 40, 110, 117, 109, 41, 32, 112, 114, 111, 116, 111, 32, 40, 110, 117, 108, 108, 41, 10] := by decide +kernel
theorem fix_age : textSt (ageSt fixS 0) = [120, 58, 32, 115, 117, 109, 48, 10, 115, 117, 109, 48, 58, 32, 112, 33, 40, 110, 117, 109, 41, 32, 112, 114, 111, 116, 111, 32, 40, 110, 117, 108, 108, 41, 10] := by decide +kernel
end M
end Go.Proofs.YtbaaeobdjiglgaaGreat
