/-
  A law for the walk: append(x, y...) of two lists of functions, as one step of a region that draws its order. No conditions beyond the law's own.
-/
import Derived.Test.YtkpmpnebmkeocaaGreatDoorY13
import Derived.Laws.AppendOwnNone
import Derived.Deep.RegionHeldLaw
set_option linter.unusedVariables false
namespace Go.Proofs.YtkpmpnebmkeocaaGreatDoor
open Go.RowKit

theorem FnsAt.cells {w : World} {X : Nat → Prop} : ∀ {l : List M.Fn} {cs : List Value}, FnsAt w X cs l → cs.length = l.length * 3 ∧ ∀ u ∈ cs, u.oneCell' = true
  | [], cs, h => by
    have e : cs = [] := h
    subst e; exact ⟨rfl, fun u hu => by cases hu⟩
  | f :: l, cs, ⟨vp, vb, rest, e, h1, h2, h3⟩ => by
    subst e
    obtain ⟨k1, k2⟩ := FnsAt.cells h3
    obtain ⟨ap, cp, rfl⟩ := SlAt.form h1
    obtain ⟨ab, cb, rfl⟩ := StmAt.form h2
    refine ⟨by simp only [List.length_cons, k1]; omega, fun u hu => ?_⟩
    simp only [List.mem_cons] at hu
    rcases hu with rfl | rfl | rfl | hu
    · rfl
    · rfl
    · rfl
    · exact k2 u hu

theorem run_append_none {P : Program} {w : World} (base : Nat) (t ty e : TypeId) (i : TypeInfo) (size c : Nat) (ht : P.underlying t = some (.slice e)) (hi : P.info? e = some i)
    (v : Value) (n : Nat) (xs : List Value) (hown : w.ownsRow base e size v n xs) :
    (Builtin.append_ #[t, t] ty #[v, .slice none 0 c]).run P w = .ok v w := by
  rcases hown.2 with ⟨rfl, rfl⟩ | ⟨g, cap, cur, rfl, _, _, hnc, _⟩
  · simp [Builtin.append_, run_underlying ht, sizeOf, typeInfo, hi, Builtin.lenOf, Builtin.firstCells]
  · simp [Builtin.append_, run_underlying ht, sizeOf, typeInfo, hi, Builtin.lenOf, Builtin.firstCells, hnc, storeCells]

theorem step_append_fns {w : World} {ops : Array Oper} {o : Oper} {a : Act} {K : Act → World → Prop} {Q : Exit → Act → World → Prop} {E : Prop} (hgd : o.guard = none) (s x : Operand)
    (ho : o.op = .call { callee := .builtin .append, args := #[s, x], argTypes := #[22, 22] })
    (base : Nat) (v : Value) (n : Nat) (xs : List Value) (hs : a.eval s = v) (hown : w.ownsRow base 34 3 v n xs)
    (vx : Value) (m : Nat) (cs : List Value) (hx : a.eval x = vx) (hsrc : SlAt w NoX vx m cs) (hl : cs.length = m * 3) (h1 : ∀ u ∈ cs, u.oneCell' = true)
    (hm : n + m ≤ 2097152) (hbase : base ≤ w.heap.size)
    (h : ∀ a' cap' w', w'.ownsRow base 34 3 (.slice a' (n + m) cap') (n + m) (xs ++ cs) → w.grownBy w' v.ownBlock → K (a.put o.dst (.slice a' (n + m) cap')) w') :
    if Region.wanted o (yielded ops a.tmps) = true then Oper.wp Tryz.prog o a w K Q else E := by
  obtain ⟨i0, hi, hz0, hz1, hz2⟩ := info_parts infoFn
  have hw : Region.wanted o (yielded ops a.tmps) = true := by simp [Region.wanted, hgd]
  rw [if_pos hw]
  obtain ⟨_, ax, cx, rfl, hsx⟩ := hsrc
  cases ax with
  | none =>
    have hm0 : m = 0 ∧ cs = [] := by
      rcases hsx with hsx | ⟨b, o, hb, _⟩
      · exact hsx
      · cases hb
    obtain ⟨rfl, rfl⟩ := hm0
    have hrun := run_append_none (P := Tryz.prog) (w := w) base 22 o.type 34 i0 3 cx Tryz.underlying22 hi v n xs hown
    obtain ⟨av, cv, rfl⟩ := own_form hown
    unfold Oper.wp execOp
    simp only [ho, resolve, invoke, builtin, Sem.run_bind, Sem.run_pure, Result.andThen_ok, List.map_toArray, List.map_cons, List.map_nil, hs, hx, hrun]
    refine h av cv w ?_ ⟨rfl, rfl, rfl, Nat.le_refl _, fun _ _ _ => rfl⟩
    rw [List.append_nil]; exact hown
  | some ad =>
    refine wp_append_own w s x 22 ho base 34 i0 _ 3 64 Tryz.underlying22 hi hz0 hz1 hz2 rfl (by decide) v n xs hs hown ad m cx cs hx hl ?_ h1 (by unfold maxLen; omega) (by omega) hbase ?_
    · intro j u hu
      rcases hsx with ⟨_, rfl⟩ | ⟨b, o, hb, _, _, hc⟩
      · simp at hu
      · simp only [Option.some.injEq] at hb
        subst hb
        have := hc j u hu
        rw [← this]; unfold Addr.add; split <;> simp_all
    · intro v' w' k1 k2 _
      obtain ⟨av, cv, rfl⟩ := own_form k1
      exact h av cv w' k1 k2
theorem step_append_fns0 {w : World} {ops : Array Oper} {o : Oper} {a : Act} {K : Act → World → Prop} {Q : Exit → Act → World → Prop} {E : Prop} (hgd : o.guard = none) (s x : Operand)
    (ho : o.op = .call { callee := .builtin .append, args := #[s, x], argTypes := #[22, 22] })
    (base : Nat) (v : Value) (hs : a.eval s = v) (hown : w.ownsRow base 34 3 v 0 [])
    (vx : Value) (m : Nat) (cs : List Value) (hx : a.eval x = vx) (hsrc : SlAt w NoX vx m cs) (hl : cs.length = m * 3) (h1 : ∀ u ∈ cs, u.oneCell' = true)
    (hm : m ≤ 2097152) (hbase : base ≤ w.heap.size)
    (h : ∀ a' cap' w', w'.ownsRow base 34 3 (.slice a' m cap') m cs → w.grownBy w' v.ownBlock → K (a.put o.dst (.slice a' m cap')) w') :
    if Region.wanted o (yielded ops a.tmps) = true then Oper.wp Tryz.prog o a w K Q else E :=
  step_append_fns hgd s x ho base v 0 [] hs hown vx m cs hx hsrc hl h1 (by omega) hbase fun a' cap' w' k1 k2 => by
    rw [Nat.zero_add] at k1 ⊢
    exact h a' cap' w' k1 k2
theorem fown_ne {w : World} {base n g : Nat} {v : Value} {xs : List Value} (h : w.ownsRow base 34 3 v n xs) (hg : w.heap[g]? = some zero1) : v.ownBlock ≠ some g := by
  intro e
  rcases h.2 with ⟨rfl, _⟩ | ⟨k, cap, cur, rfl, _, hh, _⟩
  · cases e
  · simp only [Value.ownBlock, Option.some.injEq] at e
    subst e
    rw [hg] at hh
    simp at hh

theorem fown_set {w : World} {base n g : Nat} {v : Value} {xs : List Value} (h : w.ownsRow base 34 3 v n xs) (hg : w.heap[g]? = some zero1) (u : Value) : (w.setCell ⟨g, 0, none⟩ u).ownsRow base 34 3 v n xs :=
  h.kept (w' := w.setCell ⟨g, 0, none⟩ u) (row := some g) ⟨rfl, rfl, rfl, by simp [World.setCell], fun k hk hne => Below.heap_setCell _ _ _ _ fun e => hne (by rw [e])⟩ (.inr (fown_ne h hg))
theorem prog_new {w5 w8 : World} {a : Option Addr} {cap : Nat} {p q : List M.Fn} {cs1 cs2 : List Value} (hB : Below w5.heap.size w5 w8) (fn1 : FnsAt w5 NoX cs1 p) (fn2 : FnsAt w5 NoX cs2 q)
    (h : w8.ownsRow w5.heap.size 34 3 (.slice a (p.length + q.length) cap) (p.length + q.length) (cs1 ++ cs2)) (hn : p.length + q.length ≤ 2097152) : ProgAt w8 NoX (.slice a (p.length + q.length) cap) (p ++ q) := by
  refine ⟨cs1 ++ cs2, ?_, FnsAt.app (FnsAt.keep (Below.keepX hB) fn1) (FnsAt.keep (Below.keepX hB) fn2)⟩
  rw [List.length_append]
  exact SlAt.of_owns h (fun _ _ h => h) (by omega)

end Go.Proofs.YtkpmpnebmkeocaaGreatDoor
