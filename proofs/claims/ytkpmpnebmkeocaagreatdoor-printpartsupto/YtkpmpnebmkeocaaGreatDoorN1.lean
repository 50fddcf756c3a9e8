/-
  Plain facts on statements in the order of their numbers. Nothing of the program is named here. No conditions.
-/
import Derived.Test.YtkpmpnebmkeocaaGreatDoorU1
import Derived.Test.YtkpmpnebmkeocaaGreatDoorSB
import Derived.WalkLawsBesides
import Derived.Deep.QuietTactic
import Derived.BigQuiet
import Derived.Laws.StructEq
import Derived.Laws.IdiomStrings
import Derived.Deep.LoopGhost
import Derived.Deep.RegionHeld3
import Derived.Lib.Hide
set_option linter.unusedVariables false
namespace Go.Proofs.YtkpmpnebmkeocaaGreatDoor
open Go.RowKit
namespace M

structure Nd where
  op : Int
  x : ByteArray
  y : ByteArray
  p : ByteArray
  a : List Opd
  pr : List ByteArray
  th : Tr
  el : Tr
def nodes : Tr → List Nd
  | .nil => []
  | .cons op x y p a pr th el nx => ⟨op, x, y, p, a, pr, th, el⟩ :: (nodes th ++ (nodes el ++ nodes nx))
def toTr : List Nd → Tr
  | [] => .nil
  | n :: r => .cons n.op n.x n.y n.p n.a n.pr n.th n.el (toTr r)
theorem toTr_len : ∀ l, (toTr l).len = l.length
  | [] => rfl
  | n :: r => by simp only [toTr, Tr.len, List.length_cons, toTr_len r]
theorem len_le_sz : ∀ t : Tr, t.len ≤ t.sz
  | .nil => Nat.le_refl _
  | .cons _ _ _ _ _ _ th el nx => by have := len_le_sz nx; simp only [Tr.len, Tr.sz]; omega

def blocks (l : List Nd) (n : Int) : Int × Int × Int :=
  if 0 ≤ n then
    match l[n.toNat]? with
    | some d => (n + 1, n + 1 + (nodes d.th).length, n + 1 + (nodes d.th).length + (nodes d.el).length)
    | none => (-1, -1, -1)
  else (-1, -1, -1)
end M
end Go.Proofs.YtkpmpnebmkeocaaGreatDoor
