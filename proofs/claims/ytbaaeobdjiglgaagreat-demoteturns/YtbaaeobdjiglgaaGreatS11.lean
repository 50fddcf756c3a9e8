/-
  The walk of object.Within. Conditions: shapes of at most 100000 fields of as many atoms.
-/
import Derived.Test.YtbaaeobdjiglgaaGreatS10
set_option linter.unusedVariables false
set_option linter.unusedSimpArgs false
namespace Go.Proofs.YtbaaeobdjiglgaaGreat
open Go.RowKit Go.Sort

theorem Rs_small {w : World} {a : Option Addr} {c : Nat} {s : M.Shp} {n : Nat} (h : FsAt w (.slice a n c) s.fs) (hn : n = s.fs.length) : ∃ R, s.fs = fldOf R ∧ R.length = n ∧ RsAt w (.slice a n c) R := by
  obtain ⟨R, e, hR⟩ := h
  exact ⟨R, e.symm, by rw [hn, ← e, fldOf_len], hR⟩

end Go.Proofs.YtbaaeobdjiglgaaGreat
