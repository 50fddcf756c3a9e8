/-
  Shapes that came in as arguments, as they lie in memory. No conditions.
-/
import Derived.Test.YtbaaeobdjiglgaaGreatD1
import Derived.Test.YtbaaeobdjiglgaaGreatS2
set_option linter.unusedVariables false
namespace Go.Proofs.YtbaaeobdjiglgaaGreat
open Go.RowKit
open Go.ChangeShapes Go.WideShapes Go.ChangeAt
open Go.Deep (open_slice choose_lt add_add trod_struct3)

theorem cellsF : Tryz.prog.cellsOf 49 = 3 := by kernel_rfl
theorem cellsS : Tryz.prog.cellsOf 31 = 2 := by kernel_rfl
theorem cellsStr : Tryz.prog.cellsOf 9 = 1 := by kernel_rfl
theorem cellsB : Tryz.prog.cellsOf 4 = 1 := by kernel_rfl
theorem cellsAs : Tryz.prog.cellsOf 29 = 1 := by kernel_rfl
theorem cellsFs : Tryz.prog.cellsOf 28 = 1 := by kernel_rfl
set_option maxRecDepth 4000 in
theorem fields_of_trod {H : Type} {enc : TypeId × Value → H} {W : World} {fuel : Nat} {v : Value} {d : DataW H} {p : List MemPlace}
    (hf : DataW.trod enc Tryz.prog W 0 (fun _ => true) true fuel 28 [v] = some (d, p)) : ∃ R, RsAt W v R := by
  rcases open_slice Tryz.underlying28 hf with ⟨hcs, hx⟩ | ⟨a, len, cap, m, n, D, Pl, hcs, _, hl, hm, hmm, hx, hel⟩
  · simp only [List.cons.injEq, and_true] at hcs
    subst hcs
    exact ⟨[], RsAt.nil W⟩
  · simp only [List.cons.injEq, and_true] at hcs
    subst hcs
    simp only [if_true] at hmm
    have hmc : m = cap := hmm
    clear hmm
    subst hmc
    have each : ∀ i, i < len → ∃ x : Cel, W.cell? (a.add (i * 3)) = some (.string x.f.nm) ∧ W.cell? (a.add (i * 3 + 1)) = some (.bool x.f.su) ∧ W.cell? (a.add (i * 3 + 2)) = some (.slice x.a x.f.vs.length x.c) ∧ AtAt W x.v x.f.vs := by
      intro i hi
      obtain ⟨cs', h1, h2⟩ := hel i (by omega)
      rw [cellsF] at h1
      obtain ⟨_, hlen, hcell⟩ := World.cells?_some h1
      obtain ⟨y0, y1, y2, n', hxy, _, g0, g1, g2⟩ := trod_struct3 Tryz.underlying49 h2
      match cs', hlen with
      | [c0, c1, c2], _ =>
        simp only [cellsStr, cellsB, cellsAs, List.drop_zero, List.drop_succ_cons, List.take_succ_cons, List.take_zero] at g0 g1 g2
        obtain ⟨k0, e0, r0, _⟩ := DataW.trod_string Tryz.underlying9 g0
        obtain ⟨k1, e1, r1⟩ := DataW.trod_bool Tryz.underlying4 g1
        obtain ⟨l, T⟩ := atoms_of_trod g2
        obtain ⟨x, y, rfl⟩ := T.form
        simp only [List.cons.injEq, and_true] at e0 e1
        subst e0 e1
        have d0 := hcell 0 (by omega)
        have d1 := hcell 1 (by omega)
        have d2 := hcell 2 (by omega)
        rw [add_add] at d0 d1 d2
        exact ⟨⟨⟨k0, k1, l⟩, x, y⟩, by simpa using d0, by simpa using d1, by simpa using d2, T⟩
    obtain ⟨X, hX⟩ := choose_lt each
    have hlenT : ((List.range len).map X).length = len := by simp
    refine ⟨(List.range len).map X, ?_, some a, m, by rw [hlenT], ?_⟩
    · intro x hx'
      simp only [List.mem_map, List.mem_range] at hx'
      obtain ⟨i, hi, rfl⟩ := hx'
      exact (hX i hi).2.2.2
    · rcases Nat.eq_zero_or_pos len with h0 | h0
      · left; subst h0; rfl
      · right
        obtain ⟨b, o, spot⟩ := a
        have hspot : spot = none := by simpa [Addr.add] using World.cell?_spot (hX 0 h0).1
        subst hspot
        have hblk : b < W.heap.size := by
          have := World.block_lt_of_cell? W _ (hX 0 h0).1
          simpa [Addr.add] using this
        refine ⟨b, o, rfl, hblk, ⟨by omega, hm⟩, fun i hi => ?_⟩
        have hi' : i < len := by rw [hlenT] at hi; exact hi
        have he : ((List.range len).map X)[i] = X i := by simp
        obtain ⟨e1, e2, e3, _⟩ := hX i hi'
        rw [add_at] at e1 e2 e3
        rw [he]
        exact ⟨e1, by rw [Nat.add_assoc]; exact e2, by rw [Nat.add_assoc]; exact e3⟩
/-- a shape that came in -/
theorem shape_of_trod {H : Type} {enc : TypeId × Value → H} {W : World} {v : Value} {d : DataW H} {p : List MemPlace} (h : DataW.Trod enc Tryz.prog W 0 (fun _ => true) true 31 v d p) :
    ∃ s : M.Shp, ShAt W v s := by
  obtain ⟨fuel, hf⟩ := h
  obtain ⟨y0, y1, n', hxy, hlen, g0, g1⟩ := Go.ChangeShapes.trod_struct2 Tryz.underlying31 hf
  rw [cellsS] at hlen
  obtain ⟨c0, c1, hc⟩ : ∃ c0 c1, v.cells.toList = [c0, c1] := by
    match v.cells.toList, hlen with
    | [c0, c1], _ => exact ⟨c0, c1, rfl⟩
  rw [hc] at g0 g1
  simp only [cellsFs, cellsAs, List.drop_zero, List.drop_succ_cons, List.take_succ_cons, List.take_zero] at g0 g1
  obtain ⟨R, hR⟩ := fields_of_trod g0
  obtain ⟨l, T⟩ := atoms_of_trod g1
  have hv : v = .agg #[c0, c1] := by
    cases v <;> simp [Value.cells] at hc
    rename_i cs
    congr 1
    apply Array.ext'
    exact hc
  exact ⟨⟨fldOf R, l⟩, c0, c1, hv, ⟨R, rfl, hR⟩, T⟩
end Go.Proofs.YtbaaeobdjiglgaaGreat
