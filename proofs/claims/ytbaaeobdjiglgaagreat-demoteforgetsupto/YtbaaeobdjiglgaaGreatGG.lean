/-
  The walks of object.within and object.Within. Conditions: shapes of at most 100000 fields of as many atoms; within: fields that rise.
-/
import Derived.Test.YtbaaeobdjiglgaaGreatS7
set_option linter.unusedVariables false
set_option linter.unusedSimpArgs false
namespace Go.Proofs.YtbaaeobdjiglgaaGreat
open Go.RowKit Go.Sort

def InA (R Q : List Cel) (j : Nat) : Prop := ∀ i (h : i < R.length), i < j → M.inO (some R[i].f) (M.getF (fldOf Q) R[i].f.nm) = true
def InB (R Q : List Cel) (j : Nat) : Prop := ∀ i (h : i < Q.length), i < j → (!Q[i].f.su || (M.getF (fldOf R) Q[i].f.nm).isSome) = true
theorem inA_step {R Q : List Cel} {j : Nat} {x : Cel} (h : InA R Q j) (hj : j < R.length) (hx : R[j] = x) (e : M.inO (some x.f) (M.getF (fldOf Q) x.f.nm) = true) : InA R Q (j + 1) := fun i hi hij => by
  rcases Nat.lt_succ_iff_lt_or_eq.1 hij with h' | rfl
  · exact h i hi h'
  · rw [hx]; exact e
theorem inB_step {R Q : List Cel} {j : Nat} {x : Cel} (h : InB R Q j) (hj : j < Q.length) (hx : Q[j] = x) (e : (!x.f.su || (M.getF (fldOf R) x.f.nm).isSome) = true) : InB R Q (j + 1) := fun i hi hij => by
  rcases Nat.lt_succ_iff_lt_or_eq.1 hij with h' | rfl
  · exact h i hi h'
  · rw [hx]; exact e
theorem in_end {R Q : List Cel} {j k : Nat} (h1 : InA R Q j) (h2 : InB R Q k) (hj : R.length ≤ j) (hk : Q.length ≤ k) : M.withinF (fldOf R) (fldOf Q) = true := by
  unfold M.withinF
  rw [Bool.and_eq_true, List.all_eq_true, List.all_eq_true]
  constructor
  · intro f hf
    obtain ⟨x, hx, rfl⟩ := List.mem_map.1 hf
    obtain ⟨i, hi, rfl⟩ := List.getElem_of_mem hx
    exact h1 i hi (by omega)
  · intro f hf
    obtain ⟨x, hx, rfl⟩ := List.mem_map.1 hf
    obtain ⟨i, hi, rfl⟩ := List.getElem_of_mem hx
    exact h2 i hi (by omega)
theorem inA_no {R Q : List Cel} {j : Nat} {x : Cel} (hj : j < R.length) (hx : R[j] = x) (e : M.inO (some x.f) (M.getF (fldOf Q) x.f.nm) = false) : M.withinF (fldOf R) (fldOf Q) = false := by
  cases h : M.withinF (fldOf R) (fldOf Q) with
  | false => rfl
  | true =>
    unfold M.withinF at h
    rw [Bool.and_eq_true, List.all_eq_true] at h
    have := h.1 x.f (List.mem_map.2 ⟨x, by rw [← hx]; exact List.getElem_mem hj, rfl⟩)
    rw [e] at this; cases this
theorem inB_no {R Q : List Cel} {j : Nat} {x : Cel} (hj : j < Q.length) (hx : Q[j] = x) (e : (!x.f.su || (M.getF (fldOf R) x.f.nm).isSome) = false) : M.withinF (fldOf R) (fldOf Q) = false := by
  cases h : M.withinF (fldOf R) (fldOf Q) with
  | false => rfl
  | true =>
    unfold M.withinF at h
    rw [Bool.and_eq_true, List.all_eq_true, List.all_eq_true] at h
    have := h.2 x.f (List.mem_map.2 ⟨x, by rw [← hx]; exact List.getElem_mem hj, rfl⟩)
    rw [e] at this; cases this

end Go.Proofs.YtbaaeobdjiglgaaGreat

/-
  The walk of object.Within. Conditions: shapes of at most 100000 fields of as many atoms.
-/
set_option linter.unusedVariables false
set_option linter.unusedSimpArgs false
namespace Go.Proofs.YtbaaeobdjiglgaaGreat
open Go.RowKit Go.Sort

theorem Rs_small {w : World} {a : Option Addr} {c : Nat} {s : M.Shp} {n : Nat} (h : FsAt w (.slice a n c) s.fs) (hn : n = s.fs.length) : ∃ R, s.fs = fldOf R ∧ R.length = n ∧ RsAt w (.slice a n c) R := by
  obtain ⟨R, e, hR⟩ := h
  exact ⟨R, e.symm, by rw [hn, ← e, fldOf_len], hR⟩

end Go.Proofs.YtbaaeobdjiglgaaGreat
