/-
  Plain facts on statements in the order of their numbers. Nothing of the program is named here. No conditions.
-/
import Derived.Test.YtkpmpnebmkeocaaGreatDoorU1
import Derived.Test.YtkpmpnebmkeocaaGreatDoorSB
import Derived.WalkLawsBesides
import Derived.Deep.QuietTactic
import Derived.BigQuiet
import Derived.Laws.StructEq
import Derived.Laws.IdiomStrings
import Derived.Deep.LoopGhost
import Derived.Deep.RegionHeld3
import Derived.Lib.Hide
set_option linter.unusedVariables false
namespace Go.Proofs.YtkpmpnebmkeocaaGreatDoor
open Go.RowKit
namespace M

/-- a statement by itself -/
structure Nd where
  op : Int
  x : ByteArray
  y : ByteArray
  p : ByteArray
  a : List Opd
  pr : List ByteArray
  th : Tr
  el : Tr
/-- statements by their numbers -/
def nodes : Tr → List Nd
  | .nil => []
  | .cons op x y p a pr th el nx => ⟨op, x, y, p, a, pr, th, el⟩ :: (nodes th ++ (nodes el ++ nodes nx))
/-- a row of statements -/
def toTr : List Nd → Tr
  | [] => .nil
  | n :: r => .cons n.op n.x n.y n.p n.a n.pr n.th n.el (toTr r)
/-- the statements of a list, without those in their blocks -/
def tops : Tr → List Nd
  | .nil => []
  | .cons op x y p a pr th el nx => ⟨op, x, y, p, a, pr, th, el⟩ :: tops nx
theorem toTr_tops : ∀ t, toTr (tops t) = t
  | .nil => rfl
  | .cons _ _ _ _ _ _ _ _ nx => by simp only [tops, toTr, toTr_tops nx]
theorem tops_toTr : ∀ l, tops (toTr l) = l
  | [] => rfl
  | n :: r => by simp only [toTr, tops, tops_toTr r]
theorem tops_len : ∀ t, (tops t).length = t.len
  | .nil => rfl
  | .cons _ _ _ _ _ _ _ _ nx => by simp only [tops, List.length_cons, Tr.len, tops_len nx]
theorem toTr_len : ∀ l, (toTr l).len = l.length
  | [] => rfl
  | n :: r => by simp only [toTr, Tr.len, List.length_cons, toTr_len r]
theorem toTr_app : ∀ l m, toTr (l ++ m) = (toTr l).app (toTr m)
  | [], m => rfl
  | n :: r, m => by simp only [List.cons_append, toTr, Tr.app, toTr_app r m]
theorem toTr_inj {l m : List Nd} (h : toTr l = toTr m) : l = m := by rw [← tops_toTr l, h, tops_toTr]
theorem nodes_len : ∀ t, (nodes t).length = t.sz
  | .nil => rfl
  | .cons _ _ _ _ _ _ th el nx => by simp only [nodes, List.length_cons, List.length_append, Tr.sz, nodes_len th, nodes_len el, nodes_len nx]; omega
theorem nodes_app : ∀ t u, nodes (t.app u) = nodes t ++ nodes u
  | .nil, u => rfl
  | .cons _ _ _ _ _ _ th el nx, u => by simp only [Tr.app, nodes, nodes_app nx u, List.cons_append, List.append_assoc]
theorem app_sz : ∀ t u : Tr, (t.app u).sz = t.sz + u.sz
  | .nil, u => by simp [Tr.app, Tr.sz]
  | .cons _ _ _ _ _ _ th el nx, u => by simp only [Tr.app, Tr.sz, app_sz nx u]; omega
theorem len_le_sz : ∀ t : Tr, t.len ≤ t.sz
  | .nil => Nat.le_refl _
  | .cons _ _ _ _ _ _ th el nx => by have := len_le_sz nx; simp only [Tr.len, Tr.sz]; omega

/-- what is still to come of lists that are laid on one another, the last one on top -/
def todo (L : List Tr) : List Nd := L.reverse.flatMap nodes
theorem todo_snoc (L : List Tr) (t : Tr) : todo (L ++ [t]) = nodes t ++ todo L := by simp [todo]
theorem todo_nil : todo [] = [] := rfl

/-- behind a statement stand those of its Then, of its Else, and the others -/
theorem nodes_at : ∀ (t : Tr) (n : Nat) (d : Nd), (nodes t)[n]? = some d → ∃ r, (nodes t).drop (n + 1) = nodes d.th ++ (nodes d.el ++ r)
  | .nil, n, d, h => by simp [nodes] at h
  | .cons op x y p a pr th el nx, 0, d, h => by
    simp only [nodes, List.getElem?_cons_zero, Option.some.injEq] at h
    subst h
    exact ⟨nodes nx, by simp [nodes]⟩
  | .cons op x y p a pr th el nx, n + 1, d, h => by
    simp only [nodes, List.getElem?_cons_succ] at h
    simp only [nodes, List.drop_succ_cons]
    by_cases h1 : n < (nodes th).length
    · rw [List.getElem?_append_left h1] at h
      obtain ⟨r, hr⟩ := nodes_at th n d h
      rw [List.drop_append_of_le_length (by omega), hr]
      exact ⟨r ++ (nodes el ++ nodes nx), by simp⟩
    · rw [List.getElem?_append_right (by omega)] at h
      have e1 : (nodes th ++ (nodes el ++ nodes nx)).drop (n + 1) = (nodes el ++ nodes nx).drop (n - (nodes th).length + 1) := by
        rw [List.drop_append, List.drop_eq_nil_of_le (by omega), List.nil_append]; congr 1; omega
      rw [e1]
      generalize n - (nodes th).length = k at h
      by_cases h2 : k < (nodes el).length
      · rw [List.getElem?_append_left h2] at h
        obtain ⟨r, hr⟩ := nodes_at el k d h
        rw [List.drop_append_of_le_length (by omega), hr]
        exact ⟨r ++ nodes nx, by simp⟩
      · rw [List.getElem?_append_right (by omega)] at h
        obtain ⟨r, hr⟩ := nodes_at nx _ d h
        refine ⟨r, ?_⟩
        rw [← hr, List.drop_append, List.drop_eq_nil_of_le (by omega), List.nil_append]; congr 1; omega

/-- how many are sites -/
def sites (l : List Nd) : Nat := (l.filter fun d => decide (d.op = 4)).length
theorem sites_nil : sites [] = 0 := rfl
theorem sites_snoc (l : List Nd) (d : Nd) : sites (l ++ [d]) = sites l + if d.op = 4 then 1 else 0 := by
  unfold sites
  rw [List.filter_append, List.length_append]
  by_cases h : d.op = 4 <;> simp [h]
theorem sites_le (l : List Nd) : sites l ≤ l.length := List.length_filter_le _ _
theorem sites_app (l m : List Nd) : sites (l ++ m) = sites l + sites m := by unfold sites; rw [List.filter_append, List.length_append]
/-- which site the statement n is -/
def site (l : List Nd) (n : Int) : Int × Bool :=
  if 0 ≤ n then
    match l[n.toNat]? with
    | some d => if d.op = 4 then ((sites (l.take n.toNat) : Nat), true) else (0, false)
    | none => (0, false)
  else (0, false)
/-- where the blocks of the statement n begin -/
def blocks (l : List Nd) (n : Int) : Int × Int × Int :=
  if 0 ≤ n then
    match l[n.toNat]? with
    | some d => (n + 1, n + 1 + (nodes d.th).length, n + 1 + (nodes d.th).length + (nodes d.el).length)
    | none => (-1, -1, -1)
  else (-1, -1, -1)
end M
end Go.Proofs.YtkpmpnebmkeocaaGreatDoor
