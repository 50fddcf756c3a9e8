/-
  Atoms that came in as arguments, as they lie in memory; what the rows' list of package variables gives. No conditions.
-/
import Derived.Test.YtbaaeobdjiglgaaGreatB6
import Derived.ProofKit
import Derived.LaidMore
import Derived.OpenShut
import Derived.ShutString
import Derived.Stop.Joined
import Derived.Deep.Slices
import Derived.Deep.Strs
import Derived.ChangeSame
set_option linter.unusedVariables false
namespace Go.Proofs.YtbaaeobdjiglgaaGreat
open Go.RowKit
open Go.ChangeShapes Go.WideShapes Go.ChangeAt
open Go.Deep (open_slice choose_lt add_add)

theorem laidOut : laidOutB Tryz.prog = true := by kernel_rfl
theorem own : ownKnob Tryz.prog.godebug = none := by kernel_rfl
theorem cellsA : Tryz.prog.cellsOf 34 = 2 := by kernel_rfl
theorem cellsI : Tryz.prog.cellsOf 3 = 1 := by kernel_rfl
theorem wf_rng {n : Int} (h : (Lit.int .i64 n).wf = true) : InR n := by
  have h2 : (decide ((-9223372036854775808 : Int) ≤ n) && decide (n ≤ 9223372036854775807)) = true := h
  simp only [Bool.and_eq_true, decide_eq_true_eq] at h2
  exact h2
set_option maxRecDepth 4000 in
theorem atoms_of_trod {H : Type} {enc : TypeId × Value → H} {W : World} {fuel : Nat} {v : Value} {d : DataW H} {p : List MemPlace}
    (hf : DataW.trod enc Tryz.prog W 0 (fun _ => true) true fuel 29 [v] = some (d, p)) : ∃ l, AtAt W v l := by
  rcases open_slice Tryz.underlying29 hf with ⟨hcs, hx⟩ | ⟨a, len, cap, m, n, D, Pl, hcs, _, hl, hm, hmm, hx, hel⟩
  · simp only [List.cons.injEq, and_true] at hcs
    subst hcs
    exact ⟨[], by simp, none, 0, rfl, .inl rfl⟩
  · simp only [List.cons.injEq, and_true] at hcs
    subst hcs
    simp only [if_true] at hmm
    have hmc : m = cap := hmm
    clear hmm
    subst hmc
    have each : ∀ i, i < len → ∃ x : M.Atm, W.cell? (a.add (i * 2)) = some (.int .i64 x.k) ∧ W.cell? (a.add (i * 2 + 1)) = some (.int .i64 x.n) ∧ InR x.n := by
      intro i hi
      obtain ⟨cs', h1, h2⟩ := hel i (by omega)
      rw [cellsA] at h1
      obtain ⟨_, hlen, hcell⟩ := World.cells?_some h1
      obtain ⟨y0, y1, n', hxy, _, g0, g1⟩ := Go.ChangeShapes.trod_struct2 Tryz.underlying34 h2
      match cs', hlen with
      | [c0, c1], _ =>
        simp only [cellsI, List.drop_zero, List.drop_succ_cons, List.take_succ_cons, List.take_zero] at g0 g1
        obtain ⟨k0, e0, r0, _⟩ := DataW.trod_int Tryz.underlying3 g0
        obtain ⟨k1, e1, r1, wf1⟩ := DataW.trod_int Tryz.underlying3 g1
        simp only [List.cons.injEq, and_true] at e0 e1
        subst e0 e1 r0 r1
        have d0 := hcell 0 (by omega)
        have d1 := hcell 1 (by omega)
        rw [add_add] at d0 d1
        exact ⟨⟨k0, k1⟩, by simpa using d0, by simpa using d1, wf_rng wf1⟩
    obtain ⟨X, hX⟩ := choose_lt each
    have hlenT : ((List.range len).map X).length = len := by simp
    refine ⟨(List.range len).map X, ?_, some a, m, by rw [hlenT], ?_⟩
    · intro x hx'
      simp only [List.mem_map, List.mem_range] at hx'
      obtain ⟨i, hi, rfl⟩ := hx'
      exact (hX i hi).2.2
    · rcases Nat.eq_zero_or_pos len with h0 | h0
      · left; subst h0; rfl
      · right
        obtain ⟨b, o, spot⟩ := a
        have hspot : spot = none := by simpa [Addr.add] using World.cell?_spot (hX 0 h0).1
        subst hspot
        have hblk : b < W.heap.size := by
          have := World.block_lt_of_cell? W _ (hX 0 h0).1
          simpa [Addr.add] using this
        refine ⟨b, o, rfl, hblk, ⟨by omega, hm⟩, fun i hi => ?_⟩
        have hi' : i < len := by rw [hlenT] at hi; exact hi
        have he : ((List.range len).map X)[i] = X i := by simp
        obtain ⟨e1, e2, _⟩ := hX i hi'
        rw [add_at] at e1 e2
        rw [he]
        exact ⟨e1, by rw [Nat.add_assoc]; exact e2⟩
end Go.Proofs.YtbaaeobdjiglgaaGreat
