/-
  Atoms that came in as arguments, as they lie in memory; what the rows' list of package variables gives. No conditions.
-/
import Derived.Test.YtbaaeobdjiglgaaGreatGE
import Derived.ProofKit
import Derived.LaidMore
import Derived.OpenShut
import Derived.ShutString
import Derived.Stop.Joined
import Derived.Deep.Slices
import Derived.Deep.Strs
import Derived.ChangeSame
import Derived.Test.YtbaaeobdjiglgaaGreatS2
import Derived.Test.YtbaaeobdjiglgaaGreatE1
set_option linter.unusedVariables false
namespace Go.Proofs.YtbaaeobdjiglgaaGreat
open Go.RowKit
open Go.ChangeShapes Go.WideShapes Go.ChangeAt
open Go.Deep (open_slice choose_lt add_add)

theorem laidOut : laidOutB Tryz.prog = true := by kernel_rfl
theorem own : ownKnob Tryz.prog.godebug = none := by kernel_rfl
theorem cellsA : Tryz.prog.cellsOf 34 = 2 := by kernel_rfl
theorem cellsI : Tryz.prog.cellsOf 3 = 1 := by kernel_rfl
theorem wf_rng {n : Int} (h : (Lit.int .i64 n).wf = true) : InR n := by
  have h2 : (decide ((-9223372036854775808 : Int) ≤ n) && decide (n ≤ 9223372036854775807)) = true := h
  simp only [Bool.and_eq_true, decide_eq_true_eq] at h2
  exact h2
set_option maxRecDepth 4000 in
theorem atoms_of_trod {H : Type} {enc : TypeId × Value → H} {W : World} {fuel : Nat} {v : Value} {d : DataW H} {p : List MemPlace}
    (hf : DataW.trod enc Tryz.prog W 0 (fun _ => true) true fuel 29 [v] = some (d, p)) : ∃ l, AtAt W v l := by
  rcases open_slice Tryz.underlying29 hf with ⟨hcs, hx⟩ | ⟨a, len, cap, m, n, D, Pl, hcs, _, hl, hm, hmm, hx, hel⟩
  · simp only [List.cons.injEq, and_true] at hcs
    subst hcs
    exact ⟨[], by simp, none, 0, rfl, .inl rfl⟩
  · simp only [List.cons.injEq, and_true] at hcs
    subst hcs
    simp only [if_true] at hmm
    have hmc : m = cap := hmm
    clear hmm
    subst hmc
    have each : ∀ i, i < len → ∃ x : M.Atm, W.cell? (a.add (i * 2)) = some (.int .i64 x.k) ∧ W.cell? (a.add (i * 2 + 1)) = some (.int .i64 x.n) ∧ InR x.n := by
      intro i hi
      obtain ⟨cs', h1, h2⟩ := hel i (by omega)
      rw [cellsA] at h1
      obtain ⟨_, hlen, hcell⟩ := World.cells?_some h1
      obtain ⟨y0, y1, n', hxy, _, g0, g1⟩ := Go.ChangeShapes.trod_struct2 Tryz.underlying34 h2
      match cs', hlen with
      | [c0, c1], _ =>
        simp only [cellsI, List.drop_zero, List.drop_succ_cons, List.take_succ_cons, List.take_zero] at g0 g1
        obtain ⟨k0, e0, r0, _⟩ := DataW.trod_int Tryz.underlying3 g0
        obtain ⟨k1, e1, r1, wf1⟩ := DataW.trod_int Tryz.underlying3 g1
        simp only [List.cons.injEq, and_true] at e0 e1
        subst e0 e1 r0 r1
        have d0 := hcell 0 (by omega)
        have d1 := hcell 1 (by omega)
        rw [add_add] at d0 d1
        exact ⟨⟨k0, k1⟩, by simpa using d0, by simpa using d1, wf_rng wf1⟩
    obtain ⟨X, hX⟩ := choose_lt each
    have hlenT : ((List.range len).map X).length = len := by simp
    refine ⟨(List.range len).map X, ?_, some a, m, by rw [hlenT], ?_⟩
    · intro x hx'
      simp only [List.mem_map, List.mem_range] at hx'
      obtain ⟨i, hi, rfl⟩ := hx'
      exact (hX i hi).2.2
    · rcases Nat.eq_zero_or_pos len with h0 | h0
      · left; subst h0; rfl
      · right
        obtain ⟨b, o, spot⟩ := a
        have hspot : spot = none := by simpa [Addr.add] using World.cell?_spot (hX 0 h0).1
        subst hspot
        have hblk : b < W.heap.size := by
          have := World.block_lt_of_cell? W _ (hX 0 h0).1
          simpa [Addr.add] using this
        refine ⟨b, o, rfl, hblk, ⟨by omega, hm⟩, fun i hi => ?_⟩
        have hi' : i < len := by rw [hlenT] at hi; exact hi
        have he : ((List.range len).map X)[i] = X i := by simp
        obtain ⟨e1, e2, _⟩ := hX i hi'
        rw [add_at] at e1 e2
        rw [he]
        exact ⟨e1, by rw [Nat.add_assoc]; exact e2⟩
end Go.Proofs.YtbaaeobdjiglgaaGreat

/-
  Shapes that came in as arguments, as they lie in memory. No conditions.
-/
set_option linter.unusedVariables false
namespace Go.Proofs.YtbaaeobdjiglgaaGreat
open Go.RowKit
open Go.ChangeShapes Go.WideShapes Go.ChangeAt
open Go.Deep (open_slice choose_lt add_add trod_struct3)

theorem cellsF : Tryz.prog.cellsOf 49 = 3 := by kernel_rfl
theorem cellsS : Tryz.prog.cellsOf 31 = 2 := by kernel_rfl
theorem cellsStr : Tryz.prog.cellsOf 9 = 1 := by kernel_rfl
theorem cellsB : Tryz.prog.cellsOf 4 = 1 := by kernel_rfl
theorem cellsAs : Tryz.prog.cellsOf 29 = 1 := by kernel_rfl
theorem cellsFs : Tryz.prog.cellsOf 28 = 1 := by kernel_rfl
set_option maxRecDepth 4000 in
theorem fields_of_trod {H : Type} {enc : TypeId × Value → H} {W : World} {fuel : Nat} {v : Value} {d : DataW H} {p : List MemPlace}
    (hf : DataW.trod enc Tryz.prog W 0 (fun _ => true) true fuel 28 [v] = some (d, p)) : ∃ R, RsAt W v R := by
  rcases open_slice Tryz.underlying28 hf with ⟨hcs, hx⟩ | ⟨a, len, cap, m, n, D, Pl, hcs, _, hl, hm, hmm, hx, hel⟩
  · simp only [List.cons.injEq, and_true] at hcs
    subst hcs
    exact ⟨[], RsAt.nil W⟩
  · simp only [List.cons.injEq, and_true] at hcs
    subst hcs
    simp only [if_true] at hmm
    have hmc : m = cap := hmm
    clear hmm
    subst hmc
    have each : ∀ i, i < len → ∃ x : Cel, W.cell? (a.add (i * 3)) = some (.string x.f.nm) ∧ W.cell? (a.add (i * 3 + 1)) = some (.bool x.f.su) ∧ W.cell? (a.add (i * 3 + 2)) = some (.slice x.a x.f.vs.length x.c) ∧ AtAt W x.v x.f.vs := by
      intro i hi
      obtain ⟨cs', h1, h2⟩ := hel i (by omega)
      rw [cellsF] at h1
      obtain ⟨_, hlen, hcell⟩ := World.cells?_some h1
      obtain ⟨y0, y1, y2, n', hxy, _, g0, g1, g2⟩ := trod_struct3 Tryz.underlying49 h2
      match cs', hlen with
      | [c0, c1, c2], _ =>
        simp only [cellsStr, cellsB, cellsAs, List.drop_zero, List.drop_succ_cons, List.take_succ_cons, List.take_zero] at g0 g1 g2
        obtain ⟨k0, e0, r0, _⟩ := DataW.trod_string Tryz.underlying9 g0
        obtain ⟨k1, e1, r1⟩ := DataW.trod_bool Tryz.underlying4 g1
        obtain ⟨l, T⟩ := atoms_of_trod g2
        obtain ⟨x, y, rfl⟩ := T.form
        simp only [List.cons.injEq, and_true] at e0 e1
        subst e0 e1
        have d0 := hcell 0 (by omega)
        have d1 := hcell 1 (by omega)
        have d2 := hcell 2 (by omega)
        rw [add_add] at d0 d1 d2
        exact ⟨⟨⟨k0, k1, l⟩, x, y⟩, by simpa using d0, by simpa using d1, by simpa using d2, T⟩
    obtain ⟨X, hX⟩ := choose_lt each
    have hlenT : ((List.range len).map X).length = len := by simp
    refine ⟨(List.range len).map X, ?_, some a, m, by rw [hlenT], ?_⟩
    · intro x hx'
      simp only [List.mem_map, List.mem_range] at hx'
      obtain ⟨i, hi, rfl⟩ := hx'
      exact (hX i hi).2.2.2
    · rcases Nat.eq_zero_or_pos len with h0 | h0
      · left; subst h0; rfl
      · right
        obtain ⟨b, o, spot⟩ := a
        have hspot : spot = none := by simpa [Addr.add] using World.cell?_spot (hX 0 h0).1
        subst hspot
        have hblk : b < W.heap.size := by
          have := World.block_lt_of_cell? W _ (hX 0 h0).1
          simpa [Addr.add] using this
        refine ⟨b, o, rfl, hblk, ⟨by omega, hm⟩, fun i hi => ?_⟩
        have hi' : i < len := by rw [hlenT] at hi; exact hi
        have he : ((List.range len).map X)[i] = X i := by simp
        obtain ⟨e1, e2, e3, _⟩ := hX i hi'
        rw [add_at] at e1 e2 e3
        rw [he]
        exact ⟨e1, by rw [Nat.add_assoc]; exact e2, by rw [Nat.add_assoc]; exact e3⟩
/-- a shape that came in -/
theorem shape_of_trod {H : Type} {enc : TypeId × Value → H} {W : World} {v : Value} {d : DataW H} {p : List MemPlace} (h : DataW.Trod enc Tryz.prog W 0 (fun _ => true) true 31 v d p) :
    ∃ s : M.Shp, ShAt W v s := by
  obtain ⟨fuel, hf⟩ := h
  obtain ⟨y0, y1, n', hxy, hlen, g0, g1⟩ := Go.ChangeShapes.trod_struct2 Tryz.underlying31 hf
  rw [cellsS] at hlen
  obtain ⟨c0, c1, hc⟩ : ∃ c0 c1, v.cells.toList = [c0, c1] := by
    match v.cells.toList, hlen with
    | [c0, c1], _ => exact ⟨c0, c1, rfl⟩
  rw [hc] at g0 g1
  simp only [cellsFs, cellsAs, List.drop_zero, List.drop_succ_cons, List.take_succ_cons, List.take_zero] at g0 g1
  obtain ⟨R, hR⟩ := fields_of_trod g0
  obtain ⟨l, T⟩ := atoms_of_trod g1
  have hv : v = .agg #[c0, c1] := by
    cases v <;> simp [Value.cells] at hc
    rename_i cs
    congr 1
    apply Array.ext'
    exact hc
  exact ⟨⟨fldOf R, l⟩, c0, c1, hv, ⟨R, rfl, hR⟩, T⟩
end Go.Proofs.YtbaaeobdjiglgaaGreat

/-
  States that came in as arguments, as they lie in memory. No conditions.
-/
set_option linter.unusedVariables false
namespace Go.Proofs.YtbaaeobdjiglgaaGreat
open Go.RowKit
open Go.ChangeShapes Go.WideShapes Go.ChangeAt
open Go.Deep (open_slice choose_lt add_add trod_struct3)

theorem cellsBind : Tryz.prog.cellsOf 47 = 2 := by kernel_rfl
theorem cellsLoc : Tryz.prog.cellsOf 36 = 4 := by kernel_rfl
theorem cellsSta : Tryz.prog.cellsOf 25 = 3 := by kernel_rfl
theorem cellsBs : Tryz.prog.cellsOf 22 = 1 := by kernel_rfl
theorem cellsLs : Tryz.prog.cellsOf 23 = 1 := by kernel_rfl
theorem cellsSite : Tryz.prog.cellsOf 27 = 2 := by kernel_rfl
theorem shape_cells {H : Type} {enc : TypeId × Value → H} {W : World} {fuel : Nat} {c0 c1 : Value} {x : DataW H × List MemPlace}
    (hf : DataW.trod enc Tryz.prog W 0 (fun _ => true) true fuel 31 [c0, c1] = some x) : ∃ s : M.Shp, ShAt W (.agg #[c0, c1]) s := by
  obtain ⟨y0, y1, n', hxy, hlen, g0, g1⟩ := Go.ChangeShapes.trod_struct2 Tryz.underlying31 hf
  simp only [cellsFs, cellsAs, List.drop_zero, List.drop_succ_cons, List.take_succ_cons, List.take_zero] at g0 g1
  obtain ⟨R, hR⟩ := fields_of_trod g0
  obtain ⟨l, T⟩ := atoms_of_trod g1
  exact ⟨⟨fldOf R, l⟩, c0, c1, rfl, ⟨R, rfl, hR⟩, T⟩
set_option maxRecDepth 4000 in
theorem binds_of_trod {H : Type} {enc : TypeId × Value → H} {W : World} {fuel : Nat} {v : Value} {d : DataW H} {p : List MemPlace}
    (hf : DataW.trod enc Tryz.prog W 0 (fun _ => true) true fuel 22 [v] = some (d, p)) : ∃ B, BsAt W v B := by
  rcases open_slice Tryz.underlying22 hf with ⟨hcs, hx⟩ | ⟨a, len, cap, m, n, D, Pl, hcs, _, hl, hm, hmm, hx, hel⟩
  · simp only [List.cons.injEq, and_true] at hcs
    subst hcs
    exact ⟨[], AtK.nil W, fun x hx => by cases hx⟩
  · simp only [List.cons.injEq, and_true] at hcs
    subst hcs
    simp only [if_true] at hmm
    have hmc : m = cap := hmm
    clear hmm
    subst hmc
    have each : ∀ i, i < len → ∃ x : Bnd, W.cell? (a.add (i * 2)) = some (.string x.nm) ∧ W.cell? (a.add (i * 2 + 1)) = some (.slice x.a x.vs.length x.c) ∧ OneB W x := by
      intro i hi
      obtain ⟨cs', h1, h2⟩ := hel i (by omega)
      rw [cellsBind] at h1
      obtain ⟨_, hlen, hcell⟩ := World.cells?_some h1
      obtain ⟨y0, y1, n', hxy, _, g0, g1⟩ := Go.ChangeShapes.trod_struct2 Tryz.underlying47 h2
      match cs', hlen with
      | [c0, c1], _ =>
        simp only [cellsStr, cellsAs, List.drop_zero, List.drop_succ_cons, List.take_succ_cons, List.take_zero] at g0 g1
        obtain ⟨k0, e0, r0, _⟩ := DataW.trod_string Tryz.underlying9 g0
        obtain ⟨l, T⟩ := atoms_of_trod g1
        obtain ⟨x, y, rfl⟩ := T.form
        simp only [List.cons.injEq, and_true] at e0
        subst e0
        have d0 := hcell 0 (by omega)
        have d1 := hcell 1 (by omega)
        rw [add_add] at d0 d1
        exact ⟨⟨k0, l, x, y⟩, by simpa using d0, by simpa using d1, T⟩
    obtain ⟨X, hX⟩ := choose_lt each
    have hlenT : ((List.range len).map X).length = len := by simp
    refine ⟨(List.range len).map X, ⟨some a, m, by rw [hlenT], ?_⟩, ?_⟩
    · rcases Nat.eq_zero_or_pos len with h0 | h0
      · left; subst h0; rfl
      · right
        obtain ⟨b, o, spot⟩ := a
        have hspot : spot = none := by simpa [Addr.add] using World.cell?_spot (hX 0 h0).1
        subst hspot
        have hblk : b < W.heap.size := by
          have := World.block_lt_of_cell? W _ (hX 0 h0).1
          simpa [Addr.add] using this
        refine ⟨b, o, rfl, hblk, ⟨by omega, hm⟩, fun i hi t u hu => ?_⟩
        have hi' : i < len := by rw [hlenT] at hi; exact hi
        have he : ((List.range len).map X)[i] = X i := by simp
        obtain ⟨e1, e2, _⟩ := hX i hi'
        rw [add_at] at e1 e2
        rw [he] at hu
        match t, hu with
        | 0, hu => simp [bc] at hu; rw [← hu]; exact e1
        | 1, hu => simp [bc] at hu; rw [← hu, Nat.add_assoc]; exact e2
        | t + 2, hu => simp [bc] at hu
    · intro x hx'
      simp only [List.mem_map, List.mem_range] at hx'
      obtain ⟨i, hi, rfl⟩ := hx'
      exact (hX i hi).2.2
set_option maxRecDepth 4000 in
theorem locs_of_trod {H : Type} {enc : TypeId × Value → H} {W : World} {fuel : Nat} {v : Value} {d : DataW H} {p : List MemPlace}
    (hf : DataW.trod enc Tryz.prog W 0 (fun _ => true) true fuel 23 [v] = some (d, p)) : ∃ L, LsAt W v L := by
  rcases open_slice Tryz.underlying23 hf with ⟨hcs, hx⟩ | ⟨a, len, cap, m, n, D, Pl, hcs, _, hl, hm, hmm, hx, hel⟩
  · simp only [List.cons.injEq, and_true] at hcs
    subst hcs
    exact ⟨[], AtK.nil W, fun x hx => by cases hx⟩
  · simp only [List.cons.injEq, and_true] at hcs
    subst hcs
    simp only [if_true] at hmm
    have hmc : m = cap := hmm
    clear hmm
    subst hmc
    have each : ∀ i, i < len → ∃ x : Lcl, W.cell? (a.add (i * 4)) = some (.int .i64 x.x.k) ∧ W.cell? (a.add (i * 4 + 1)) = some (.int .i64 x.x.n) ∧ W.cell? (a.add (i * 4 + 2)) = some (.slice x.fa x.s.fs.length x.fn) ∧ W.cell? (a.add (i * 4 + 3)) = some (.slice x.pa x.s.pr.length x.pn) ∧ OneL W x := by
      intro i hi
      obtain ⟨cs', h1, h2⟩ := hel i (by omega)
      rw [cellsLoc] at h1
      obtain ⟨_, hlen, hcell⟩ := World.cells?_some h1
      obtain ⟨y0, y1, n', hxy, _, g0, g1⟩ := Go.ChangeShapes.trod_struct2 Tryz.underlying36 h2
      match cs', hlen with
      | [c0, c1, c2, c3], _ =>
        simp only [cellsA, cellsS, List.drop_zero, List.drop_succ_cons, List.take_succ_cons, List.take_zero] at g0 g1
        obtain ⟨z0, z1, n2, hxy2, _, f0, f1⟩ := Go.ChangeShapes.trod_struct2 Tryz.underlying34 g0
        simp only [cellsI, List.drop_zero, List.drop_succ_cons, List.take_succ_cons, List.take_zero] at f0 f1
        obtain ⟨k0, e0, r0, _⟩ := DataW.trod_int Tryz.underlying3 f0
        obtain ⟨k1, e1, r1, wf1⟩ := DataW.trod_int Tryz.underlying3 f1
        obtain ⟨s, hS⟩ := shape_cells g1
        obtain ⟨fa, fn, pa, pn, e2⟩ := hS.form
        simp only [Value.agg.injEq, Array.mk.injEq, List.cons.injEq, and_true] at e0 e1 e2
        obtain ⟨e2, e3⟩ := e2
        subst e0 e1 r0 r1 e2 e3
        have d0 := hcell 0 (by omega)
        have d1 := hcell 1 (by omega)
        have d2 := hcell 2 (by omega)
        have d3 := hcell 3 (by omega)
        rw [add_add] at d0 d1 d2 d3
        exact ⟨⟨⟨k0, k1⟩, s, fa, fn, pa, pn⟩, by simpa using d0, by simpa using d1, by simpa using d2, by simpa using d3, wf_rng wf1, hS⟩
    have inh : Inhabited Lcl := ⟨⟨⟨0, 0⟩, ⟨[], []⟩, none, 0, none, 0⟩⟩
    obtain ⟨X, hX⟩ := choose_lt each
    have hlenT : ((List.range len).map X).length = len := by simp
    refine ⟨(List.range len).map X, ⟨some a, m, by rw [hlenT], ?_⟩, ?_⟩
    · rcases Nat.eq_zero_or_pos len with h0 | h0
      · left; subst h0; rfl
      · right
        obtain ⟨b, o, spot⟩ := a
        have hspot : spot = none := by simpa [Addr.add] using World.cell?_spot (hX 0 h0).1
        subst hspot
        have hblk : b < W.heap.size := by
          have := World.block_lt_of_cell? W _ (hX 0 h0).1
          simpa [Addr.add] using this
        refine ⟨b, o, rfl, hblk, ⟨by omega, hm⟩, fun i hi t u hu => ?_⟩
        have hi' : i < len := by rw [hlenT] at hi; exact hi
        have he : ((List.range len).map X)[i] = X i := by simp
        obtain ⟨e1, e2, e3, e4, _⟩ := hX i hi'
        rw [add_at] at e1 e2 e3 e4
        rw [he] at hu
        match t, hu with
        | 0, hu => simp [lc] at hu; rw [← hu]; exact e1
        | 1, hu => simp [lc] at hu; rw [← hu, Nat.add_assoc]; exact e2
        | 2, hu => simp [lc] at hu; rw [← hu, Nat.add_assoc]; exact e3
        | 3, hu => simp [lc] at hu; rw [← hu, Nat.add_assoc]; exact e4
        | t + 4, hu => simp [lc] at hu
    · intro x hx'
      simp only [List.mem_map, List.mem_range] at hx'
      obtain ⟨i, hi, rfl⟩ := hx'
      exact (hX i hi).2.2.2.2
/-- a state that came in -/
theorem state_of_trod {H : Type} {enc : TypeId × Value → H} {W : World} {v : Value} {d : DataW H} {p : List MemPlace} (h : DataW.Trod enc Tryz.prog W 0 (fun _ => true) true 25 v d p) :
    ∃ s : M.Sta, StAt W v s := by
  obtain ⟨fuel, hf⟩ := h
  obtain ⟨y0, y1, y2, n', hxy, hlen, g0, g1, g2⟩ := trod_struct3 Tryz.underlying25 hf
  rw [cellsSta] at hlen
  obtain ⟨c0, c1, c2, hc⟩ : ∃ c0 c1 c2, v.cells.toList = [c0, c1, c2] := by
    match v.cells.toList, hlen with
    | [c0, c1, c2], _ => exact ⟨c0, c1, c2, rfl⟩
  rw [hc] at g0 g1 g2
  simp only [cellsB, cellsBs, cellsLs, List.drop_zero, List.drop_succ_cons, List.take_succ_cons, List.take_zero] at g0 g1 g2
  obtain ⟨k0, e0, r0⟩ := DataW.trod_bool Tryz.underlying4 g0
  simp only [List.cons.injEq, and_true] at e0
  subst e0
  obtain ⟨B, hB⟩ := binds_of_trod g1
  obtain ⟨L, hL⟩ := locs_of_trod g2
  have hv : v = .agg #[.bool k0, c1, c2] := by
    cases v <;> simp [Value.cells] at hc
    rename_i cs
    congr 1
    apply Array.ext'
    exact hc
  exact ⟨⟨k0, bndOf B, lclOf L⟩, c1, c2, B, L, hv, rfl, rfl, hB, hL⟩
/-- a variable and a site that came in -/
theorem site_of_trod {H : Type} {enc : TypeId × Value → H} {W : World} {v : Value} {d : DataW H} {p : List MemPlace} (h : DataW.Trod enc Tryz.prog W 0 (fun _ => true) true 27 v d p) :
    ∃ (n : ByteArray) (k : Int), v = .agg #[.string n, .int .i64 k] ∧ InR k := by
  obtain ⟨fuel, hf⟩ := h
  obtain ⟨y0, y1, n', hxy, hlen, g0, g1⟩ := Go.ChangeShapes.trod_struct2 Tryz.underlying27 hf
  rw [cellsSite] at hlen
  obtain ⟨c0, c1, hc⟩ : ∃ c0 c1, v.cells.toList = [c0, c1] := by
    match v.cells.toList, hlen with
    | [c0, c1], _ => exact ⟨c0, c1, rfl⟩
  rw [hc] at g0 g1
  simp only [cellsStr, cellsI, List.drop_zero, List.drop_succ_cons, List.take_succ_cons, List.take_zero] at g0 g1
  obtain ⟨k0, e0, r0, _⟩ := DataW.trod_string Tryz.underlying9 g0
  obtain ⟨k1, e1, r1, wf1⟩ := DataW.trod_int Tryz.underlying3 g1
  simp only [List.cons.injEq, and_true] at e0 e1
  subst e0 e1
  have hv : v = .agg #[.string k0, .int .i64 k1] := by
    cases v <;> simp [Value.cells] at hc
    rename_i cs
    congr 1
    apply Array.ext'
    exact hc
  exact ⟨k0, k1, hv, wf_rng wf1⟩
end Go.Proofs.YtbaaeobdjiglgaaGreat
