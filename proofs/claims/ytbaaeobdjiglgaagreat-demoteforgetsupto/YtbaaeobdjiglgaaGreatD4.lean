/-
  Shapes that came in as arguments, with how many there are in them at most. No conditions.
-/
import Derived.Test.YtbaaeobdjiglgaaGreatGD
import Derived.JoinedCond
set_option linter.unusedVariables false
set_option linter.unusedSimpArgs false
namespace Go.Proofs.YtbaaeobdjiglgaaGreat
open Go.RowKit
open Go.ChangeShapes Go.WideShapes Go.ChangeAt
open Go.Deep (open_slice choose_lt add_add trod_struct3)

theorem bulk_pos {H : Type} (d : DataW H) : 1 ≤ Rows.uptoBulk d := by
  cases d with
  | lit l => cases l <;> simp [Rows.uptoBulk]
  | nil => simp [Rows.uptoBulk]
  | ptr d => simp [Rows.uptoBulk]
  | slice a b => simp [Rows.uptoBulk]
  | agg a => simp [Rows.uptoBulk]
  | iface a b => simp [Rows.uptoBulk]
  | map a => simp [Rows.uptoBulk]
  | held a => simp [Rows.uptoBulk]
theorem bulk_mem {H : Type} (D : Nat → DataW H) (len i : Nat) (hi : i < len) : Rows.uptoBulk (D i) ≤ Rows.uptoBulkAll ((List.range len).map D) := by
  induction len with
  | zero => omega
  | succ n ih =>
    have happ : ∀ l m : List (DataW H), Rows.uptoBulkAll (l ++ m) = Rows.uptoBulkAll l + Rows.uptoBulkAll m := by
      intro l m
      induction l with
      | nil => simp [Rows.uptoBulkAll]
      | cons x r ih => simp only [List.cons_append, Rows.uptoBulkAll, ih]; omega
    rw [List.range_succ, List.map_append, happ]
    simp only [List.map_cons, List.map_nil, Rows.uptoBulkAll]
    by_cases h : i < n
    · have := ih h; omega
    · obtain rfl : i = n := by omega
      omega
theorem bulk_len {H : Type} (D : Nat → DataW H) (len : Nat) : len ≤ Rows.uptoBulkAll ((List.range len).map D) := by
  have h : ∀ k, k ≤ len → k ≤ Rows.uptoBulkAll ((List.range' (len - k) k).map D) := by
    intro k
    induction k with
    | zero => intro _; exact Nat.zero_le _
    | succ k ih =>
      intro hk'
      have h1 := ih (by omega)
      rw [List.range'_succ, List.map_cons, Rows.uptoBulkAll, show len - (k + 1) + 1 = len - k by omega]
      have h2 := bulk_pos (D (len - (k + 1)))
      omega
  have := h len (Nat.le_refl _)
  rwa [Nat.sub_self, ← List.range_eq_range'] at this
/-- a slice that was read: how long it is, and each of its elements -/
theorem slice_bulk {H : Type} {enc : TypeId × Value → H} {W : World} {fuel : Nat} {t e : TypeId} {a : Option Addr} {n c : Nat} {d : DataW H} {p : List MemPlace} (ht : Tryz.prog.underlying t = some (.slice e))
    (hf : DataW.trod enc Tryz.prog W 0 (fun _ => true) true fuel t [.slice a n c] = some (d, p)) : n ≤ Rows.uptoBulk d := by
  rcases open_slice ht hf with ⟨hcs, hx⟩ | ⟨a', len, cap, m, n', D, Pl, hcs, _, hl, hm, hmm, hx, hel⟩
  · simp only [List.cons.injEq, and_true, Value.slice.injEq] at hcs
    rw [hcs.2.1]; exact Nat.zero_le _
  · simp only [List.cons.injEq, and_true, Value.slice.injEq] at hcs
    obtain ⟨_, rfl, _⟩ := hcs
    have hd : d = .slice ((List.range n).map D) ((List.range (m - n)).map fun j => D (n + j)) := by
      simp only [Prod.mk.injEq] at hx; exact hx.1
    have := bulk_len D n
    rw [hd]; simp only [Rows.uptoBulk]; omega
theorem atoms_bulk {H : Type} {enc : TypeId × Value → H} {W : World} {fuel : Nat} {v : Value} {d : DataW H} {p : List MemPlace}
    (hf : DataW.trod enc Tryz.prog W 0 (fun _ => true) true fuel 29 [v] = some (d, p)) : ∃ l, AtAt W v l ∧ l.length ≤ Rows.uptoBulk d := by
  obtain ⟨l, T⟩ := atoms_of_trod hf
  obtain ⟨a, c, rfl⟩ := T.form
  exact ⟨l, T, slice_bulk Tryz.underlying29 hf⟩
set_option maxRecDepth 4000 in
theorem fields_bulk {H : Type} {enc : TypeId × Value → H} {W : World} {fuel : Nat} {v : Value} {d : DataW H} {p : List MemPlace}
    (hf : DataW.trod enc Tryz.prog W 0 (fun _ => true) true fuel 28 [v] = some (d, p)) : ∃ R, RsAt W v R ∧ R.length ≤ Rows.uptoBulk d ∧ ∀ x ∈ R, x.f.vs.length ≤ Rows.uptoBulk d := by
  have hf0 := hf
  rcases open_slice Tryz.underlying28 hf with ⟨hcs, hx⟩ | ⟨a, len, cap, m, n, D, Pl, hcs, _, hl, hm, hmm, hx, hel⟩
  · simp only [List.cons.injEq, and_true] at hcs
    subst hcs
    exact ⟨[], RsAt.nil W, Nat.zero_le _, fun x hx => by cases hx⟩
  · simp only [List.cons.injEq, and_true] at hcs
    subst hcs
    simp only [if_true] at hmm
    have hmc : m = cap := hmm
    clear hmm
    subst hmc
    have hd : d = .slice ((List.range len).map D) ((List.range (m - len)).map fun j => D (len + j)) := by
      simp only [Prod.mk.injEq] at hx; exact hx.1
    have each : ∀ i, i < len → ∃ x : Cel, W.cell? (a.add (i * 3)) = some (.string x.f.nm) ∧ W.cell? (a.add (i * 3 + 1)) = some (.bool x.f.su) ∧ W.cell? (a.add (i * 3 + 2)) = some (.slice x.a x.f.vs.length x.c) ∧ AtAt W x.v x.f.vs ∧ x.f.vs.length ≤ Rows.uptoBulk d := by
      intro i hi
      obtain ⟨cs', h1, h2⟩ := hel i (by omega)
      rw [cellsF] at h1
      obtain ⟨_, hlen, hcell⟩ := World.cells?_some h1
      obtain ⟨y0, y1, y2, n', hxy, _, g0, g1, g2⟩ := trod_struct3 Tryz.underlying49 h2
      match cs', hlen with
      | [c0, c1, c2], _ =>
        simp only [cellsStr, cellsB, cellsAs, List.drop_zero, List.drop_succ_cons, List.take_succ_cons, List.take_zero] at g0 g1 g2
        obtain ⟨k0, e0, r0, _⟩ := DataW.trod_string Tryz.underlying9 g0
        obtain ⟨k1, e1, r1⟩ := DataW.trod_bool Tryz.underlying4 g1
        obtain ⟨l, T, hbl⟩ := atoms_bulk (d := y2.1) (p := y2.2) g2
        obtain ⟨x, y, rfl⟩ := T.form
        simp only [List.cons.injEq, and_true] at e0 e1
        subst e0 e1
        have d0 := hcell 0 (by omega)
        have d1 := hcell 1 (by omega)
        have d2 := hcell 2 (by omega)
        rw [add_add] at d0 d1 d2
        have hDi : Rows.uptoBulk y2.1 ≤ Rows.uptoBulk (D i) := by
          have := hxy
          simp only [Prod.mk.injEq] at this
          rw [this.1]
          simp only [Rows.uptoBulk, Rows.uptoBulkAll]
          omega
        have hDm : Rows.uptoBulk (D i) ≤ Rows.uptoBulk d := by
          have := bulk_mem D len i hi
          rw [hd]; simp only [Rows.uptoBulk]; omega
        exact ⟨⟨⟨k0, k1, l⟩, x, y⟩, by simpa using d0, by simpa using d1, by simpa using d2, T, Nat.le_trans hbl (Nat.le_trans hDi hDm)⟩
    obtain ⟨R, hR⟩ := fields_of_trod hf0
    obtain ⟨a', c', e⟩ := hR.form
    simp only [Value.slice.injEq] at e
    obtain ⟨e1, hlR, e2⟩ := e
    refine ⟨R, hR, ?_, fun x hx => ?_⟩
    · rw [← hlR, hd]
      have := bulk_len D len
      simp only [Rows.uptoBulk]; omega
    · obtain ⟨i, hi, rfl⟩ := List.getElem_of_mem hx
      obtain ⟨b, o, ea, _, hc⟩ := Rs_some hR hi
      obtain ⟨x', h1, h2, h3, h4, h5⟩ := each i (by omega)
      have hA : some a = some ⟨b, o, none⟩ := ea
      have ha := Option.some.inj hA
      obtain ⟨_, _, c3⟩ := hc i hi
      rw [ha, add_at] at h3
      rw [← Nat.add_assoc] at h3
      rw [h3] at c3
      simp only [Option.some.injEq, Value.slice.injEq] at c3
      rw [← c3.2.1]
      exact h5
/-- a shape that came in -/
theorem shape_bulk {H : Type} {enc : TypeId × Value → H} {W : World} {v : Value} {d : DataW H} {p : List MemPlace} (h : DataW.Trod enc Tryz.prog W 0 (fun _ => true) true 31 v d p) :
    ∃ s : M.Shp, ShAt W v s ∧ M.Sm (Rows.uptoBulk d) s := by
  obtain ⟨fuel, hf⟩ := h
  obtain ⟨y0, y1, n', hxy, hlen, g0, g1⟩ := Go.ChangeShapes.trod_struct2 Tryz.underlying31 hf
  rw [cellsS] at hlen
  obtain ⟨c0, c1, hc⟩ : ∃ c0 c1, v.cells.toList = [c0, c1] := by
    match v.cells.toList, hlen with
    | [c0, c1], _ => exact ⟨c0, c1, rfl⟩
  rw [hc] at g0 g1
  simp only [cellsFs, cellsAs, List.drop_zero, List.drop_succ_cons, List.take_succ_cons, List.take_zero] at g0 g1
  obtain ⟨R, hR, n1, n2⟩ := fields_bulk (d := y0.1) (p := y0.2) g0
  obtain ⟨l, T, n3⟩ := atoms_bulk (d := y1.1) (p := y1.2) g1
  have hv : v = .agg #[c0, c1] := by
    cases v <;> simp [Value.cells] at hc
    rename_i cs
    congr 1
    apply Array.ext'
    exact hc
  have hb : Rows.uptoBulk y0.1 ≤ Rows.uptoBulk d ∧ Rows.uptoBulk y1.1 ≤ Rows.uptoBulk d := by
    simp only [Prod.mk.injEq] at hxy
    rw [hxy.1]
    simp only [Rows.uptoBulk, Rows.uptoBulkAll]
    omega
  refine ⟨⟨fldOf R, l⟩, ⟨c0, c1, hv, ⟨R, rfl, hR⟩, T⟩, ?_, fun f hf => ?_, Nat.le_trans n3 hb.2⟩
  · show (fldOf R).length ≤ _
    rw [fldOf_len]; omega
  · obtain ⟨x, hx, rfl⟩ := List.mem_map.1 hf
    exact Nat.le_trans (n2 x hx) hb.1
end Go.Proofs.YtbaaeobdjiglgaaGreat
