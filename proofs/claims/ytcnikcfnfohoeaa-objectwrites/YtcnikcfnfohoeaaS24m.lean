/-
  An append to a row of fields of the call's own, in a region whose order is open; the boxes of the document's With. No conditions.
-/
import Derived.Test.YtcnikcfnfohoeaaBx
import Derived.Test.YtcnikcfnfohoeaaS12
import Derived.Laws.AppendOwn
set_option linter.unusedVariables false
set_option linter.unusedSimpArgs false
namespace Go.Proofs.Ytcnikcfnfohoeaa
open Go.RowKit Go.Sort

theorem step_append_own {w : World} {ops : Array Oper} {o : Oper} {a : Act} {K : Act → World → Prop} {Q : Exit → Act → World → Prop} {E : Prop} (hgd : o.guard = none) (s x : Operand)
    (ho : o.op = .call { callee := .builtin .append, args := #[s, x], argTypes := #[22, 22] })
    (base : Nat) (v : Value) (R : List Cel) (hs : a.eval s = v) (hown : RowF base w v R)
    (ad : Addr) (c : Nat) (z : Cel) (hx : a.eval x = .slice (some ad) 1 c) (hsrc : ∀ j u, (fc z)[j]? = some u → w.cell? (ad.add j) = some u) (hn : R.length + 1 ≤ 1048576) (hbase : base ≤ w.heap.size)
    (h : ∀ q m w', RowF base w' (.slice q (R ++ [z]).length m) (R ++ [z]) → w.grownBy w' v.ownBlock → K (a.put o.dst (.slice q (R ++ [z]).length m)) w') :
    if Region.wanted o (yielded ops a.tmps) = true then Oper.wp Try.prog o a w K Q else E := by
  obtain ⟨i0, hi, hz0, hz1, hz2⟩ := info_parts infoField
  have hw : Region.wanted o (yielded ops a.tmps) = true := by simp [Region.wanted, hgd]
  rw [if_pos hw]
  obtain ⟨v', w', hrun, r1, r2, _⟩ := run_append_own (P := Try.prog) w base 22 o.type 29 i0 (.agg #[.string ⟨#[]⟩, .bool false, .slice none 0 0]) 3 48 Try.underlying22 hi hz0 hz1 hz2 rfl (by decide) v R.length (R.flatMap fc) hown ad 1 c (fc z) rfl hsrc (by intro u hu; simp [fc] at hu; rcases hu with rfl | rfl | rfl <;> rfl) (by unfold maxLen; omega) (by omega) hbase
  have r1' := RowF.snoc r1
  obtain ⟨q, m, rfl⟩ := r1'.form
  unfold Oper.wp
  simp [execOp, ho, resolve, invoke, builtin, hs, hx, hrun, Result.andThen]
  have := h q m w' r1' r2
  rw [List.length_append] at this
  exact this

structure LaidW (w w' : World) (g0 g1 g2 g3 base : Nat) (A1 A2 A3 : Obj) (vo vp : Value) : Prop where
  bel : Below w.heap.size w w'
  sz : base ≤ w'.heap.size
  a1 : w'.heap[g0]? = some A1
  a2 : w'.heap[g1]? = some A2
  a3 : w'.heap[g2]? = some A3
  out : w'.heap[g3]? = some (.cells #[vo, vp] 25 (0, 0))
structure Side (w : World) (g0 g1 g2 g3 base : Nat) : Prop where
  l2 : w.heap.size ≤ g2
  l3 : w.heap.size ≤ g3
  n0 : g0 < g3
  n1 : g1 < g3
  n2 : g2 < g3
  n3 : g3 < base
theorem LaidW.low {w w' w'' : World} {g0 g1 g2 g3 base : Nat} {A1 A2 A3 : Obj} {vo vp : Value} (h : LaidW w w' g0 g1 g2 g3 base A1 A2 A3 vo vp) (s : Side w g0 g1 g2 g3 base) (hb : Below base w' w'') :
    LaidW w w'' g0 g1 g2 g3 base A1 A2 A3 vo vp where
  bel := h.bel.trans (hb.mono (by have := s.l3; have := s.n3; omega))
  sz := Nat.le_trans h.sz hb.size
  a1 := kept h.a1 (by have := s.n0; have := s.n3; omega) hb
  a2 := kept h.a2 (by have := s.n1; have := s.n3; omega) hb
  a3 := kept h.a3 (by have := s.n2; have := s.n3; omega) hb
  out := kept h.out s.n3 hb
theorem LaidW.put {w w' : World} {g0 g1 g2 g3 base : Nat} {A1 A2 A3 : Obj} {vo vp : Value} (h : LaidW w w' g0 g1 g2 g3 base A1 A2 A3 vo vp) (s : Side w g0 g1 g2 g3 base) (u : Value) :
    LaidW w (w'.setCell ⟨g3, 0, none⟩ u) g0 g1 g2 g3 base A1 A2 A3 u vp where
  bel := h.bel.setCell (p := ⟨g3, 0, none⟩) s.l3 u
  sz := by simpa [World.setCell] using h.sz
  a1 := by rw [set_blk _ _ _ _ _ (by have := s.n0; omega)]; exact h.a1
  a2 := by rw [set_blk _ _ _ _ _ (by have := s.n1; omega)]; exact h.a2
  a3 := by rw [set_blk _ _ _ _ _ (by have := s.n2; omega)]; exact h.a3
  out := box_put h.out u
theorem low_of_new {w w' : World} {base : Nat} (h : base ≤ w.heap.size) (hb : Below w.heap.size w w') : Below base w w' := hb.mono h
theorem low_of_grown {w w' : World} {base : Nat} {v : Value} {R : List Cel} (h : base ≤ w.heap.size) (hr : RowF base w v R) (hg : w.grownBy w' v.ownBlock) : Below base w w' := (Below.refl base w).grown hg h hr.blk
/-- one round of the document's With -/
theorem wl_take {f y : M.Fld} {acc r T : List M.Fld} (h : M.wloop f true acc (y :: r) = T) (hn : y.nm ≠ f.nm) : M.wloop f true (acc ++ [y]) r = T := by rw [← h]; conv => rhs; unfold M.wloop; rw [if_neg hn]
theorem wl_skip {f y : M.Fld} {acc r T : List M.Fld} (h : M.wloop f true acc (y :: r) = T) (hn : y.nm = f.nm) : M.wloop f true acc r = T := by rw [← h]; conv => rhs; unfold M.wloop; rw [if_pos hn]
theorem wl_less {f y : M.Fld} {acc r T : List M.Fld} (h : M.wloop f false acc (y :: r) = T) (hl : M.ltN y.nm f.nm = true) : M.wloop f false (acc ++ [y]) r = T := by rw [← h]; conv => rhs; unfold M.wloop; rw [if_pos hl]
theorem wl_lay {f y : M.Fld} {acc r T : List M.Fld} (h : M.wloop f false acc (y :: r) = T) (hl : M.ltN y.nm f.nm = false) : M.wloop f true (acc ++ [f]) (y :: r) = T := by
  rw [← h]
  by_cases hn : y.nm = f.nm
  · conv => lhs; unfold M.wloop; rw [if_pos hn]
    conv => rhs; unfold M.wloop; rw [if_neg (by rw [hl]; decide), if_pos hn]
  · conv => lhs; unfold M.wloop; rw [if_neg hn]
    conv => rhs; unfold M.wloop; rw [if_neg (by rw [hl]; decide), if_neg hn]
theorem all_snoc {w : World} {acc : List Cel} {z : Cel} (h : ∀ x ∈ acc, OneAt w x) (hz : OneAt w z) : ∀ x ∈ acc ++ [z], OneAt w x := fun x hx => by
  rcases List.mem_append.1 hx with hx | hx
  · exact h x hx
  · rw [List.mem_singleton.1 hx]; exact hz
end Go.Proofs.Ytcnikcfnfohoeaa
