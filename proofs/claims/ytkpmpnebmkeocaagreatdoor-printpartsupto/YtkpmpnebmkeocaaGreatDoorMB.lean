/-
  Plain facts on programs: what is read of tokens is read of them with others behind, elsewhere, and with more statements ahead, too; or there are too many statements. Nothing of the program is named here. No conditions.
-/
import Derived.Test.YtkpmpnebmkeocaaGreatDoorMA
import Derived.Test.YtkpmpnebmkeocaaGreatDoorMathF
set_option linter.unusedVariables false
section
namespace Go.Proofs.YtkpmpnebmkeocaaGreatDoor
namespace M

def Tok.mv (δ : Int) (x : Tok) : Tok := ⟨x.k, x.t, x.p + δ⟩
structure Mv where
  δ : Int
  m : List Tok
  fin : Int
  c : Nat
def Mv.T (v : Mv) (S : St) : St := ⟨S.rest.map (Tok.mv v.δ) ++ v.m, v.fin, S.n + v.c, S.d⟩
def To {α : Type} (v : Mv) (S : St) (a : α) (r : Res α) : Prop := r = .ok (v.T S, a) ∨ ∃ q, r = .error (22, q)
theorem To.bnd {α β : Type} {v : Mv} {S1 S : St} {a : α} {b : β} {r : Res α} {f : St → α → Res β} (h : To v S1 a r) (hf : To v S b (f (v.T S1) a)) : To v S b (bnd r f) := by
  rcases h with h | ⟨q, h⟩
  · rw [h]; exact hf
  · exact .inr ⟨q, by rw [h]; rfl⟩
end M
end Go.Proofs.YtkpmpnebmkeocaaGreatDoor
end
section
namespace Go.Proofs.YtkpmpnebmkeocaaGreatDoor
namespace M

end M
end Go.Proofs.YtkpmpnebmkeocaaGreatDoor
end
section
namespace Go.Proofs.YtkpmpnebmkeocaaGreatDoor
namespace M

def Nz {α : Type} (r : Except Flt α) : Prop := ∀ f, r = .error f → f.1 ≠ 0
theorem Nz.ok {α : Type} (a : α) : Nz (.ok a) := fun f h => by cases h
theorem Nz.fail {α : Type} (S : St) (c : Int) (hc : c ≠ 0) : Nz (fail S c : Except Flt α) := fun f h => by
  simp only [M.fail, Except.error.injEq] at h
  rw [← h]; exact hc
theorem Nz.bnd {α β : Type} {r : Res α} {f : St → α → Res β} (h : Nz r) (k : ∀ S a, Nz (f S a)) : Nz (M.bnd r f) := by
  unfold M.bnd
  split
  · rename_i e; intro g hg; simp only [Except.error.injEq] at hg; rw [← hg]; exact h e rfl
  · exact k _ _
theorem Nz.ite {α : Type} {c : Prop} [Decidable c] {x y : Except Flt α} (h : Nz x) (k : Nz y) : Nz (if c then x else y) := by
  split
  · exact h
  · exact k
theorem take_nz (S : St) (t : ByteArray) : Nz (take S t) := Nz.ite (Nz.ok _) (Nz.fail _ _ (by decide))
theorem name_nz (S : St) : Nz (name S) := Nz.ite (Nz.ok _) (Nz.fail _ _ (by decide))
theorem operand_nz (S : St) : Nz (operand S) :=
  Nz.ite (Nz.ok _) (Nz.ite (Nz.ok _) (Nz.ite (Nz.ok _) (Nz.ite (Nz.bnd (name_nz _) fun _ _ => Nz.ok _) (Nz.ite (Nz.ok _) (Nz.bnd (name_nz _) fun _ _ => Nz.ok _)))))
theorem more_nz {β : Type} {item : St → β → Res β} (h : ∀ S b, Nz (item S b)) : ∀ k S b, Nz (more item k S b)
  | 0, S, b => Nz.ok _
  | k + 1, S, b => Nz.ite (Nz.bnd (h _ _) fun S1 b1 => more_nz h k S1 b1) (Nz.ok _)
theorem list_nz {β : Type} {item : St → β → Res β} (h : ∀ S b, Nz (item S b)) (last : ByteArray) (S : St) (b : β) : Nz (list last item S b) :=
  Nz.ite (Nz.ok _) (Nz.bnd (h _ _) fun _ _ => Nz.bnd (more_nz h _ _ _) fun _ _ => Nz.bnd (take_nz _ _) fun _ _ => Nz.ok _)
theorem itemOp_nz (S : St) (l : List Opd) : Nz (itemOp S l) := Nz.bnd (operand_nz _) fun _ _ => Nz.ok _
theorem itemName_nz (S : St) (l : List ByteArray) : Nz (itemName S l) := Nz.bnd (name_nz _) fun _ _ => Nz.ok _
theorem itemProp_nz (S : St) (l : List ByteArray × List Opd) : Nz (itemProp S l) := Nz.bnd (name_nz _) fun _ _ => Nz.bnd (take_nz _ _) fun _ _ => Nz.bnd (operand_nz _) fun _ _ => Nz.ok _
theorem operands_nz (S : St) : Nz (operands S) := Nz.bnd (take_nz _ _) fun _ _ => list_nz itemOp_nz _ _ _
theorem oneOperand_nz (S : St) : Nz (oneOperand S) := Nz.bnd (operand_nz _) fun _ _ => Nz.ok _
theorem object_nz (S : St) : Nz (object S) := Nz.bnd (take_nz _ _) fun _ _ => Nz.bnd (list_nz itemProp_nz _ _ _) fun _ _ => Nz.bnd (take_nz _ _) fun _ _ => Nz.bnd (operand_nz _) fun _ _ => Nz.ok _
theorem value2_nz (S : St) (a : Opd) : Nz (value2 S a) :=
  Nz.ite (Nz.bnd (name_nz _) fun _ _ => Nz.ok _) (Nz.ite (Nz.bnd (operands_nz _) fun _ _ => Nz.ok _) (Nz.ite (Nz.bnd (operand_nz _) fun _ _ => Nz.ok _) (Nz.ok _)))
theorem value_nz (S : St) : Nz (value S) :=
  Nz.ite (Nz.ok _) (Nz.ite (Nz.bnd (name_nz _) fun _ _ => Nz.bnd (operands_nz _) fun _ _ => Nz.ok _) (Nz.ite (object_nz _) (Nz.bnd (operand_nz _) value2_nz)))
theorem plain_nz (S : St) : Nz (plain S) :=
  Nz.ite (Nz.bnd (oneOperand_nz _) fun _ _ => Nz.ok _) (Nz.ite (Nz.bnd (oneOperand_nz _) fun _ _ => Nz.ok _) (Nz.bnd (name_nz _) fun _ _ =>
    Nz.ite (Nz.bnd (name_nz _) fun _ _ => Nz.bnd (take_nz _ _) fun _ _ => Nz.bnd (oneOperand_nz _) fun _ _ => Nz.ok _) (Nz.bnd (take_nz _ _) fun _ _ => Nz.bnd (value_nz _) fun _ _ => Nz.ok _)))
theorem branch_nz {b : St → Res Tr} (h : ∀ S, Nz (b S)) (S : St) : Nz (branch b S) :=
  Nz.bnd (oneOperand_nz _) fun _ _ => Nz.bnd (h _) fun _ _ => Nz.ite (Nz.bnd (h _) fun _ _ => Nz.ok _) (Nz.ok _)
theorem loopS_nz {b : St → Res Tr} (h : ∀ S, Nz (b S)) (S : St) : Nz (loopS b S) := Nz.bnd (oneOperand_nz _) fun _ _ => Nz.bnd (h _) fun _ _ => Nz.ok _
theorem stmt_nz {b : St → Res Tr} (h : ∀ S, Nz (b S)) (S : St) : Nz (stmt b S) :=
  Nz.ite (Nz.ite (Nz.fail _ _ (by decide)) (Nz.ite (branch_nz h _) (Nz.ite (loopS_nz h _) (Nz.bnd (plain_nz _) fun _ _ => Nz.bnd (take_nz _ _) fun _ _ => Nz.ok _)))) (Nz.fail _ _ (by decide))
theorem stmts_nz {st : St → Res Tr} (h : ∀ S, Nz (st S)) : ∀ k S acc, Nz (stmts st k S acc)
  | 0, S, _ => Nz.fail _ _ (by decide)
  | k + 1, S, acc => Nz.ite (Nz.ok _) (Nz.bnd (h _) fun S1 t => stmts_nz h k S1 _)
theorem block_nz {st : St → Res Tr} (h : ∀ S, Nz (st S)) (S : St) : Nz (block st S) :=
  Nz.ite (Nz.fail _ _ (by decide)) (Nz.bnd (take_nz _ _) fun _ _ => Nz.bnd (stmts_nz h _ _ _) fun _ _ => Nz.ok _)
theorem blk_nz : ∀ n S, Nz (blk n S)
  | 0, S => Nz.fail _ _ (by decide)
  | n + 1, S => block_nz (stmt_nz (blk_nz n)) S
theorem function_nz (N : Nat) (S : St) : Nz (function N S) :=
  Nz.bnd (take_nz _ _) fun _ _ => Nz.bnd (name_nz _) fun _ _ => Nz.bnd (take_nz _ _) fun _ _ => Nz.bnd (list_nz itemName_nz _ _ _) fun _ _ => Nz.bnd (blk_nz _ _) fun _ _ => Nz.ok _
theorem funcs_nz (N : Nat) : ∀ k S acc, Nz (funcs N k S acc)
  | 0, S, acc => Nz.ok _
  | k + 1, S, acc => Nz.ite (Nz.ok _) (Nz.bnd (function_nz N S) fun S1 f => funcs_nz N k S1 _)
theorem read_nz (l : List Tok) (fin : Int) : Nz (read l fin) := by
  unfold read
  split
  · rename_i e he; intro g hg; simp only [Except.error.injEq] at hg; rw [← hg]; exact funcs_nz _ _ _ _ e he
  · exact Nz.ok _
theorem parse_nz (s : List UInt8) : Nz (parse s) := by
  unfold parse
  split
  · exact read_nz _ _
  · rename_i h; intro g hg; simp only [Except.error.injEq] at hg; rw [← hg]; exact h

end M
end Go.Proofs.YtkpmpnebmkeocaaGreatDoor
end
