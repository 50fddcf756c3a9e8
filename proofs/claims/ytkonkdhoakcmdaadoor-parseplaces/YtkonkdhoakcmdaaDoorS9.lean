/-
  A law for the walk: append(x, y...) of two lists of functions, as one step of a region that draws its order. No conditions beyond the law's own.
-/
import Derived.Test.YtkonkdhoakcmdaaDoorS7
import Derived.Test.YtkonkdhoakcmdaaDoorP5
import Derived.Laws.AppendOwnNone
set_option linter.unusedVariables false
namespace Go.Proofs.YtkonkdhoakcmdaaDoor
open Go.RowKit

theorem M.parseR_ok {s : List UInt8} {p : List M.Fn} (h : M.parse s = .ok p) : M.parseR s = (p, (0, 0)) := by
  unfold M.parse at h
  unfold M.parseR M.readR
  split at h
  · rename_i h1; rw [if_pos h1, h]
  · cases h
theorem M.parseR_err {s : List UInt8} {f : M.Flt} (h : M.parse s = .error f) : M.parseR s = ([], f) := by
  unfold M.parse at h
  unfold M.parseR M.readR
  split at h
  · rename_i h1; rw [if_pos h1, h]
  · rename_i h1; rw [if_neg h1]; simp only [Except.error.injEq] at h; rw [h]

theorem FnsAt.cells {w : World} {X : Nat → Prop} : ∀ {l : List M.Fn} {cs : List Value}, FnsAt w X cs l → cs.length = l.length * 3 ∧ ∀ u ∈ cs, u.oneCell' = true
  | [], cs, h => by
    have e : cs = [] := h
    subst e; exact ⟨rfl, fun u hu => by cases hu⟩
  | f :: l, cs, ⟨vp, vb, rest, e, h1, h2, h3⟩ => by
    subst e
    obtain ⟨k1, k2⟩ := FnsAt.cells h3
    obtain ⟨ap, cp, rfl⟩ := SlAt.form h1
    obtain ⟨ab, cb, rfl⟩ := StmAt.form h2
    refine ⟨by simp only [List.length_cons, k1]; omega, fun u hu => ?_⟩
    simp only [List.mem_cons] at hu
    rcases hu with rfl | rfl | rfl | hu
    · rfl
    · rfl
    · rfl
    · exact k2 u hu

theorem run_append_none {P : Program} {w : World} (base : Nat) (t ty e : TypeId) (i : TypeInfo) (size c : Nat) (ht : P.underlying t = some (.slice e)) (hi : P.info? e = some i)
    (v : Value) (n : Nat) (xs : List Value) (hown : w.ownsRow base e size v n xs) :
    (Builtin.append_ #[t, t] ty #[v, .slice none 0 c]).run P w = .ok v w := by
  rcases hown.2 with ⟨rfl, rfl⟩ | ⟨g, cap, cur, rfl, _, _, hnc, _⟩
  · simp [Builtin.append_, run_underlying ht, sizeOf, typeInfo, hi, Builtin.lenOf, Builtin.firstCells]
  · simp [Builtin.append_, run_underlying ht, sizeOf, typeInfo, hi, Builtin.lenOf, Builtin.firstCells, hnc, storeCells]

theorem step_append_fns {w : World} {ops : Array Oper} {o : Oper} {a : Act} {K : Act → World → Prop} {Q : Exit → Act → World → Prop} {E : Prop} (hgd : o.guard = none) (s x : Operand)
    (ho : o.op = .call { callee := .builtin .append, args := #[s, x], argTypes := #[22, 22] })
    (base : Nat) (v : Value) (n : Nat) (xs : List Value) (hs : a.eval s = v) (hown : w.ownsRow base 46 3 v n xs)
    (vx : Value) (m : Nat) (cs : List Value) (hx : a.eval x = vx) (hsrc : SlAt w NoX vx m cs) (hl : cs.length = m * 3) (h1 : ∀ u ∈ cs, u.oneCell' = true)
    (hm : n + m ≤ 200000) (hbase : base ≤ w.heap.size)
    (h : ∀ a' cap' w', w'.ownsRow base 46 3 (.slice a' (n + m) cap') (n + m) (xs ++ cs) → w.grownBy w' v.ownBlock → K (a.put o.dst (.slice a' (n + m) cap')) w') :
    if Region.wanted o (yielded ops a.tmps) = true then Oper.wp Tryd.prog o a w K Q else E := by
  obtain ⟨i0, hi, hz0, hz1, hz2⟩ := info_parts infoFn
  have hw : Region.wanted o (yielded ops a.tmps) = true := by simp [Region.wanted, hgd]
  rw [if_pos hw]
  obtain ⟨_, ax, cx, rfl, hsx⟩ := hsrc
  cases ax with
  | none =>
    have hm0 : m = 0 ∧ cs = [] := by
      rcases hsx with hsx | ⟨b, o, hb, _⟩
      · exact hsx
      · cases hb
    obtain ⟨rfl, rfl⟩ := hm0
    have hrun := run_append_none (P := Tryd.prog) (w := w) base 22 o.type 46 i0 3 cx Tryd.underlying22 hi v n xs hown
    obtain ⟨av, cv, rfl⟩ := own_form hown
    unfold Oper.wp execOp
    simp only [ho, resolve, invoke, builtin, Sem.run_bind, Sem.run_pure, Result.andThen_ok, List.map_toArray, List.map_cons, List.map_nil, hs, hx, hrun]
    refine h av cv w ?_ ⟨rfl, rfl, rfl, Nat.le_refl _, fun _ _ _ => rfl⟩
    rw [List.append_nil]; exact hown
  | some ad =>
    refine wp_append_own w s x 22 ho base 46 i0 _ 3 64 Tryd.underlying22 hi hz0 hz1 hz2 rfl (by decide) v n xs hs hown ad m cx cs hx hl ?_ h1 (by unfold maxLen; omega) (by omega) hbase ?_
    · intro j u hu
      rcases hsx with ⟨_, rfl⟩ | ⟨b, o, hb, _, _, hc⟩
      · simp at hu
      · simp only [Option.some.injEq] at hb
        subst hb
        have := hc j u hu
        rw [← this]; unfold Addr.add; split <;> simp_all
    · intro v' w' k1 k2 _
      obtain ⟨av, cv, rfl⟩ := own_form k1
      exact h av cv w' k1 k2
/-- .. to none -/
theorem step_append_fns0 {w : World} {ops : Array Oper} {o : Oper} {a : Act} {K : Act → World → Prop} {Q : Exit → Act → World → Prop} {E : Prop} (hgd : o.guard = none) (s x : Operand)
    (ho : o.op = .call { callee := .builtin .append, args := #[s, x], argTypes := #[22, 22] })
    (base : Nat) (v : Value) (hs : a.eval s = v) (hown : w.ownsRow base 46 3 v 0 [])
    (vx : Value) (m : Nat) (cs : List Value) (hx : a.eval x = vx) (hsrc : SlAt w NoX vx m cs) (hl : cs.length = m * 3) (h1 : ∀ u ∈ cs, u.oneCell' = true)
    (hm : m ≤ 200000) (hbase : base ≤ w.heap.size)
    (h : ∀ a' cap' w', w'.ownsRow base 46 3 (.slice a' m cap') m cs → w.grownBy w' v.ownBlock → K (a.put o.dst (.slice a' m cap')) w') :
    if Region.wanted o (yielded ops a.tmps) = true then Oper.wp Tryd.prog o a w K Q else E :=
  step_append_fns hgd s x ho base v 0 [] hs hown vx m cs hx hsrc hl h1 (by omega) hbase fun a' cap' w' k1 k2 => by
    rw [Nat.zero_add] at k1 ⊢
    exact h a' cap' w' k1 k2
end Go.Proofs.YtkonkdhoakcmdaaDoor
