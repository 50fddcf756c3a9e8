/-
  The walks of slices.Index and slices.Contains over atoms. Conditions: lists of at most 2^20 atoms.
-/
import Derived.Test.YtbaaeobdjiglgaaGreatA3
set_option linter.unusedVariables false
namespace Go.Proofs.YtbaaeobdjiglgaaGreat
open Go.RowKit Go.Sort
theorem stoodA : Tryz.prog.stoodInHeld 34 = false := by kernel_rfl
theorem guardA : Tryz.prog.eqGuardType Tryz.prog.depth 34 = false := by kernel_rfl
theorem eql_atm (x y : M.Atm) (w : World) : (binOp .eql 34 (.agg #[.int .i64 x.k, .int .i64 x.n]) (.agg #[.int .i64 y.k, .int .i64 y.n])).run Tryz.prog w = .ok (.bool (decide (x = y))) w := by
  rw [run_eql_struct, run_equalIn_agg _ _ _ _ _ (by kernel_rfl) stoodA]
  simp [go_sem]
  have : x = y ↔ x.k = y.k ∧ x.n = y.n := ⟨fun h => by rw [h]; exact ⟨rfl, rfl⟩, fun h => M.atm_ext h.1 h.2⟩
  by_cases h1 : x.k = y.k <;> by_cases h2 : x.n = y.n <;> simp [this, h1, h2]
theorem neq_atm (x y : M.Atm) (w : World) : (binOp .neq 34 (.agg #[.int .i64 x.k, .int .i64 x.n]) (.agg #[.int .i64 y.k, .int .i64 y.n])).run Tryz.prog w = .ok (.bool (!decide (x = y))) w := by
  rw [run_neq_struct, run_equalIn_agg _ _ _ _ _ (by kernel_rfl) stoodA]
  simp [go_sem]
  have : x = y ↔ x.k = y.k ∧ x.n = y.n := ⟨fun h => by rw [h]; exact ⟨rfl, rfl⟩, fun h => M.atm_ext h.1 h.2⟩
  by_cases h1 : x.k = y.k <;> by_cases h2 : x.n = y.n <;> simp [this, h1, h2]

end Go.Proofs.YtbaaeobdjiglgaaGreat
