/-
  A law for the walk: append(x, y...) of two lists of tokens that the call owns, also where a guard stands before it.
-/
import Derived.Test.YtilkkopgbdppjaaJ
import Derived.Laws.AppendOwnNone
import Derived.BigFrame
set_option linter.unusedVariables false
namespace Go.Proofs.Ytilkkopgbdppjaa
open Go.RowKit

theorem row_append (l m : List M.Tok) : M.row (l ++ m) = M.row l ++ M.row m := by simp [M.row]

theorem row_one (l : List M.Tok) : ∀ u, u ∈ M.row l → u.oneCell' = true := by
  intro u hu
  simp only [M.row, List.mem_flatMap, M.Tok.cells, List.mem_cons, List.not_mem_nil, or_false] at hu
  obtain ⟨x, _, rfl | rfl | rfl⟩ := hu <;> rfl

theorem grownBy_refl (w : World) (r : Option Nat) : w.grownBy w r := ⟨rfl, rfl, rfl, Nat.le_refl _, fun _ _ _ => rfl⟩

theorem wpList_append_toks {w : World} {ops : Array Oper} {rest : List Oper} {op : Oper} {a : Act} {Q : Exit → Act → World → Prop} (hw : Region.wanted op (yielded ops a.tmps) = true) (s x : Operand)
    (ho : op.op = .call { callee := .builtin .append, args := #[s, x], argTypes := #[22, 22] })
    (base base' : Nat) (v vx : Value) (l m : List M.Tok) (hs : a.eval s = v) (hx : a.eval x = vx) (hown : w.ownsRow base 37 3 v l.length (M.row l)) (hsrc : w.ownsRow base' 37 3 vx m.length (M.row m))
    (hlen : l.length + m.length ≤ 4398046511104) (hbase : base ≤ w.heap.size)
    (h : ∀ v' w', w'.ownsRow base 37 3 v' (l ++ m).length (M.row (l ++ m)) → w.grownBy w' v.ownBlock → wpList Try.prog ops Q rest (a.put op.dst v') w') : wpList Try.prog ops Q (op :: rest) a w := by
  obtain ⟨i0, hi, hz0, hz1, hz2⟩ := info_parts infoTok
  refine BigFrame.wpList_want hw fun K hK => ?_
  have hsrc' := hsrc
  rcases hsrc.2 with ⟨rfl, h0⟩ | ⟨g, cap, cur, rfl, _⟩
  · have hm : m = [] := List.length_eq_zero_iff.1 h0
    subst hm
    have hrun := run_append_owned_none (P := Try.prog) (w := w) base 22 op.type 37 i0 3 Try.underlying22 hi v l.length (M.row l) hown
    unfold Oper.wp
    simp [execOp, ho, resolve, invoke, builtin, hs, hx, hrun, Result.andThen]
    refine hK _ _ (h v w ?_ (grownBy_refl _ _))
    rw [List.append_nil]; exact hown
  · refine wp_append_own w s x 22 ho base 37 i0 _ 3 32 Try.underlying22 hi hz0 hz1 hz2 rfl (by decide) v l.length (M.row l) hs hown ⟨g, 0, none⟩ m.length cap (M.row m) hx (row_length m) (hsrc'.cells rfl) (row_one m) (by unfold maxLen; omega) (by omega) hbase ?_
    intro v' w' h1 h2 _
    refine hK _ _ (h v' w' ?_ h2)
    rw [List.length_append, row_append]; exact h1

end Go.Proofs.Ytilkkopgbdppjaa
