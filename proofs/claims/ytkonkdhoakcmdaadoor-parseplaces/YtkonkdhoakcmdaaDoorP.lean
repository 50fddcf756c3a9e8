/-
  Plain facts on programs: what program tokens are, or their first fault, said by functions on lists of tokens. Nothing of the program is named here. No conditions.
-/
import Derived.Test.YtkonkdhoakcmdaaDoorMathD
set_option linter.unusedVariables false
namespace Go.Proofs.YtkonkdhoakcmdaaDoor
namespace M

/-- an operand -/
structure Opd where
  k : Int
  n : Int
  s : ByteArray
  deriving DecidableEq
/-- statements, one behind the other -/
inductive Tr where
  | nil
  | cons (op : Int) (x y p : ByteArray) (a : List Opd) (pr : List ByteArray) (th el nx : Tr)
  deriving DecidableEq
def Tr.app : Tr → Tr → Tr
  | .nil, t => t
  | .cons op x y p a pr th el nx, t => .cons op x y p a pr th el (nx.app t)
def Tr.len : Tr → Nat
  | .nil => 0
  | .cons _ _ _ _ _ _ _ _ nx => nx.len + 1
/-- a function -/
structure Fn where
  name : ByteArray
  ps : List ByteArray
  body : Tr
  deriving DecidableEq
/-- what a variable is set to: a statement without its variable -/
structure Val where
  op : Int
  y : ByteArray
  p : ByteArray
  a : List Opd
  pr : List ByteArray

/-- what is still to be read; its end; statements that have begun; blocks under way -/
structure St where
  rest : List Tok
  fin : Int
  n : Nat
  d : Nat

def em : ByteArray := ⟨#[]⟩
def now1 (fin : Int) : List Tok → Tok
  | [] => ⟨-1, em, fin⟩
  | t :: _ => if may1 t = true then t else ⟨-1, em, t.p⟩
def St.now (S : St) : Tok := now1 S.fin S.rest
def St.adv (S : St) : St := { S with rest := S.rest.tail }
def St.at (S : St) (t : ByteArray) : Bool := decide (S.now.t = t)

def kFun : ByteArray := ⟨#[102, 117, 110]⟩
def kOut : ByteArray := ⟨#[111, 117, 116]⟩
def kReturn : ByteArray := ⟨#[114, 101, 116, 117, 114, 110]⟩
def kIf : ByteArray := ⟨#[105, 102]⟩
def kElse : ByteArray := ⟨#[101, 108, 115, 101]⟩
def kWhile : ByteArray := ⟨#[119, 104, 105, 108, 101]⟩
def kNew : ByteArray := ⟨#[110, 101, 119]⟩
def kProto : ByteArray := ⟨#[112, 114, 111, 116, 111]⟩
def kCall : ByteArray := ⟨#[99, 97, 108, 108]⟩
def kIn : ByteArray := ⟨#[105, 110]⟩
def kNull : ByteArray := ⟨#[110, 117, 108, 108]⟩
def kTrue : ByteArray := ⟨#[116, 114, 117, 101]⟩
def kFalse : ByteArray := ⟨#[102, 97, 108, 115, 101]⟩
def ch (c : UInt8) : ByteArray := ⟨#[c]⟩

def kw (s : ByteArray) : Bool :=
  decide (s = kFun ∨ s = kOut ∨ s = kReturn ∨ s = kIf ∨ s = kElse ∨ s = kWhile ∨ s = kNew ∨ s = kProto ∨ s = kCall ∨ s = kIn ∨ s = kNull ∨ s = kTrue ∨ s = kFalse)
def St.isName (S : St) : Bool := decide (S.now.k = 0) && !kw S.now.t

abbrev Flt := Int × Int
abbrev Res (α : Type) := Except Flt (St × α)
def fail {α : Type} (S : St) (c : Int) : Except Flt α := .error (c, S.now.p)

def take (S : St) (t : ByteArray) : Res Unit := if S.at t = true then .ok (S.adv, ()) else fail S 20
def name (S : St) : Res ByteArray := if S.isName = true then .ok (S.adv, S.now.t) else fail S 20

/-- what digits say -/
def numV (l : List UInt8) : Int := l.foldl (fun n c => 10 * n + ((c.toNat : Int) - 48)) 0

def bnd {α β : Type} (r : Res α) (f : St → α → Res β) : Res β :=
  match r with
  | .error e => .error e
  | .ok (S, a) => f S a

def operand (S : St) : Res Opd :=
  if S.at kNull = true then .ok (S.adv, ⟨0, 0, em⟩)
  else if S.at kTrue = true then .ok (S.adv, ⟨1, 1, em⟩)
  else if S.at kFalse = true then .ok (S.adv, ⟨1, 0, em⟩)
  else if S.at (ch 38) = true then bnd (name S.adv) fun S1 n => .ok (S1, ⟨3, 0, n⟩)
  else if S.now.k = 1 then .ok (S.adv, ⟨2, numV S.now.t.data.toList, em⟩)
  else bnd (name S) fun S1 n => .ok (S1, ⟨4, 0, n⟩)

/-- more of them, each behind a comma -/
def more {β : Type} (item : St → β → Res β) : Nat → St → β → Res β
  | 0, S, b => .ok (S, b)
  | k + 1, S, b => if S.at (ch 44) = true then bnd (item S.adv b) (more item k) else .ok (S, b)
/-- a list up to that sign -/
def list {β : Type} (last : ByteArray) (item : St → β → Res β) (S : St) (b : β) : Res β :=
  if S.at last = true then .ok (S.adv, b)
  else bnd (item S b) fun S1 b1 => bnd (more item S1.rest.length S1 b1) fun S2 b2 => bnd (take S2 last) fun S3 _ => .ok (S3, b2)

def itemOp (S : St) (l : List Opd) : Res (List Opd) := bnd (operand S) fun S1 o => .ok (S1, l ++ [o])
def itemName (S : St) (l : List ByteArray) : Res (List ByteArray) := bnd (name S) fun S1 o => .ok (S1, l ++ [o])
def itemProp (S : St) (l : List ByteArray × List Opd) : Res (List ByteArray × List Opd) :=
  bnd (name S) fun S1 n => bnd (take S1 (ch 58)) fun S2 _ => bnd (operand S2) fun S3 o => .ok (S3, (l.1 ++ [n], l.2 ++ [o]))

def operands (S : St) : Res (List Opd) := bnd (take S (ch 40)) fun S1 _ => list (ch 41) itemOp S1 []
def oneOperand (S : St) : Res (List Opd) := bnd (operand S) fun S1 o => .ok (S1, [o])

def object (S : St) : Res Val :=
  bnd (take S (ch 123)) fun S1 _ => bnd (list (ch 125) itemProp S1 ([], [])) fun S2 l => bnd (take S2 kProto) fun S3 _ => bnd (operand S3) fun S4 o =>
    .ok (S4, ⟨4, em, em, l.2 ++ [o], l.1⟩)

def St.atArith (S : St) : Bool := S.at (ch 43) || (S.at (ch 45) || (S.at (ch 42) || (S.at (ch 60) || S.at (ch 61))))

/-- behind the first operand -/
def value2 (S : St) (a : Opd) : Res Val :=
  if a.k = 4 ∧ S.at (ch 46) = true then bnd (name S.adv) fun S1 n => .ok (S1, ⟨2, a.s, n, [], []⟩)
  else if a.k = 4 ∧ S.at (ch 40) = true then bnd (operands S) fun S1 l => .ok (S1, ⟨6, a.s, em, l, []⟩)
  else if S.atArith = true then bnd (operand S.adv) fun S1 b => .ok (S1, ⟨1, em, S.now.t, [a, b], []⟩)
  else .ok (S, ⟨0, em, em, [a], []⟩)
def value (S : St) : Res Val :=
  if S.at kIn = true then .ok (S.adv, ⟨7, em, em, [], []⟩)
  else if S.at kCall = true then bnd (name S.adv) fun S1 n => bnd (operands S1) fun S2 l => .ok (S2, ⟨5, em, n, l, []⟩)
  else if S.at kNew = true then object S.adv
  else bnd (operand S) value2

def one (op : Int) (x y p : ByteArray) (a : List Opd) (pr : List ByteArray) (th el : Tr) : Tr := .cons op x y p a pr th el .nil

def plain (S : St) : Res Tr :=
  if S.at kOut = true then bnd (oneOperand S.adv) fun S1 a => .ok (S1, one 8 em em em a [] .nil .nil)
  else if S.at kReturn = true then bnd (oneOperand S.adv) fun S1 a => .ok (S1, one 11 em em em a [] .nil .nil)
  else bnd (name S) fun S1 x =>
    if S1.at (ch 46) = true then bnd (name S1.adv) fun S2 p => bnd (take S2 (ch 61)) fun S3 _ => bnd (oneOperand S3) fun S4 a => .ok (S4, one 3 x em p a [] .nil .nil)
    else bnd (take S1 (ch 61)) fun S2 _ => bnd (value S2) fun S3 v => .ok (S3, one v.op x v.y v.p v.a v.pr .nil .nil)

def St.atStmt (S : St) : Bool := S.isName || (S.at kOut || (S.at kReturn || (S.at kIf || S.at kWhile)))
def St.more (S : St) : St := { S with n := S.n + 1 }
def St.down (S : St) : St := { S with d := S.d + 1 }
def St.up (S : St) : St := { S with d := S.d - 1 }

def branch (blk : St → Res Tr) (S : St) : Res Tr :=
  bnd (oneOperand S) fun S1 a => bnd (blk S1) fun S2 th =>
    if S2.at kElse = true then bnd (blk S2.adv) fun S3 el => .ok (S3, one 9 em em em a [] th el)
    else .ok (S2, one 9 em em em a [] th .nil)
def loopS (blk : St → Res Tr) (S : St) : Res Tr :=
  bnd (oneOperand S) fun S1 a => bnd (blk S1) fun S2 th => .ok (S2, one 10 em em em a [] th .nil)
def stmt (blk : St → Res Tr) (S : St) : Res Tr :=
  if S.atStmt = true then
    if S.n = 2000 then fail S 22
    else if S.at kIf = true then branch blk S.more.adv
    else if S.at kWhile = true then loopS blk S.more.adv
    else bnd (plain S.more) fun S1 t => bnd (take S1 (ch 59)) fun S2 _ => .ok (S2, t)
  else fail S 20
def stmts (st : St → Res Tr) : Nat → St → Tr → Res Tr
  | 0, S, _ => fail S 20
  | k + 1, S, acc => if S.at (ch 125) = true then .ok (S.adv, acc) else bnd (st S) fun S1 t => stmts st k S1 (acc.app t)
def block (st : St → Res Tr) (S : St) : Res Tr :=
  if S.at (ch 123) = true ∧ S.d = 32 then fail S 21
  else bnd (take S (ch 123)) fun S1 _ => bnd (stmts st (S1.rest.length + 1) S1.down .nil) fun S2 t => .ok (S2.up, t)
def blk : Nat → St → Res Tr
  | 0, S => fail S 20
  | n + 1, S => block (stmt (blk n)) S

def function (N : Nat) (S : St) : Res Fn :=
  bnd (take S kFun) fun S1 _ => bnd (name S1) fun S2 n => bnd (take S2 (ch 40)) fun S3 _ => bnd (list (ch 41) itemName S3 []) fun S4 ps => bnd (blk N S4) fun S5 b => .ok (S5, ⟨n, ps, b⟩)
def funcs (N : Nat) : Nat → St → List Fn → Res (List Fn)
  | 0, S, acc => .ok (S, acc)
  | k + 1, S, acc => if S.rest.isEmpty = true then .ok (S, acc) else bnd (function N S) fun S1 f => funcs N k S1 (acc ++ [f])
def read (l : List Tok) (fin : Int) : Except Flt (List Fn) :=
  match funcs (l.length + 1) (l.length + 1) ⟨l, fin, 0, 0⟩ [] with
  | .error e => .error e
  | .ok (_, p) => .ok p
def parse (s : List UInt8) : Except Flt (List Fn) :=
  if (lex s).2.1 = 0 then read (lex s).1 s.length else .error (lex s).2

theorem adv_short {S : St} (h : S.rest ≠ []) : S.adv.rest.length < S.rest.length := by
  obtain ⟨rest, fin, n, d⟩ := S
  cases rest with
  | nil => exact absurd rfl h
  | cons x l => simp [St.adv]
theorem now_nil {S : St} (h : S.rest = []) : S.now = ⟨-1, em, S.fin⟩ := by
  obtain ⟨rest, fin, n, d⟩ := S
  simp only at h
  subst h; rfl
theorem at_ne {S : St} {t : ByteArray} (h : S.at t = true) (ht : t ≠ em) : S.rest ≠ [] := by
  intro h0
  have h1 : S.now.t = t := of_decide_eq_true h
  rw [now_nil h0] at h1
  exact ht h1.symm
theorem isName_ne {S : St} (h : S.isName = true) : S.rest ≠ [] := by
  intro h0
  simp only [St.isName, now_nil h0, Bool.and_eq_true] at h
  have := of_decide_eq_true h.1
  omega
/-- no token is given back; what is begun stays begun -/
structure Le (S S' : St) : Prop where
  rest : S'.rest.length ≤ S.rest.length
  n : S.n ≤ S'.n
  d : S'.d = S.d
  lim : S.n ≤ 2000 → S'.n ≤ 2000
theorem Le.refl (S : St) : Le S S := ⟨Nat.le_refl _, Nat.le_refl _, rfl, id⟩
theorem Le.trans {a b c : St} (h : Le a b) (k : Le b c) : Le a c := ⟨Nat.le_trans k.rest h.rest, Nat.le_trans h.n k.n, k.d.trans h.d, fun x => k.lim (h.lim x)⟩
theorem adv_le (S : St) : Le S S.adv := ⟨by simp [St.adv], Nat.le_refl _, rfl, id⟩
theorem bnd_ok {α β : Type} {r : Res α} {f : St → α → Res β} {S : St} {b : β} (h : bnd r f = .ok (S, b)) : ∃ S1 a, r = .ok (S1, a) ∧ f S1 a = .ok (S, b) := by
  cases r with
  | error e => cases h
  | ok p => exact ⟨p.1, p.2, rfl, h⟩
theorem take_ok {S S' : St} {t : ByteArray} {u : Unit} (h : take S t = .ok (S', u)) : S.at t = true ∧ S' = S.adv := by
  unfold take at h
  split at h
  · rename_i h1; cases h; exact ⟨h1, rfl⟩
  · cases h
theorem name_ok {S S' : St} {s : ByteArray} (h : name S = .ok (S', s)) : S.isName = true ∧ S' = S.adv := by
  unfold name at h
  split at h
  · rename_i h1; cases h; exact ⟨h1, rfl⟩
  · cases h
theorem take_le {S S' : St} {t : ByteArray} {u : Unit} (h : take S t = .ok (S', u)) : Le S S' := by rw [(take_ok h).2]; exact adv_le S
theorem take_short {S S' : St} {t : ByteArray} {u : Unit} (h : take S t = .ok (S', u)) (ht : t ≠ em) : S'.rest.length < S.rest.length := by
  rw [(take_ok h).2]; exact adv_short (at_ne (take_ok h).1 ht)
theorem name_le {S S' : St} {s : ByteArray} (h : name S = .ok (S', s)) : Le S S' := by rw [(name_ok h).2]; exact adv_le S
theorem name_short {S S' : St} {s : ByteArray} (h : name S = .ok (S', s)) : S'.rest.length < S.rest.length := by
  rw [(name_ok h).2]; exact adv_short (isName_ne (name_ok h).1)
theorem arith_ne {S : St} (h : S.atArith = true) : S.rest ≠ [] := by
  unfold St.atArith at h
  simp only [Bool.or_eq_true] at h
  rcases h with h | h | h | h | h
  all_goals exact at_ne h (by decide)
theorem num_ne {S : St} (h : S.now.k = 1) : S.rest ≠ [] := by
  intro h0
  rw [now_nil h0] at h
  simp at h
theorem operand_both {S S' : St} {o : Opd} (h : operand S = .ok (S', o)) : Le S S' ∧ S'.rest.length < S.rest.length := by
  unfold operand at h
  split at h
  · rename_i h1; cases h; exact ⟨adv_le S, adv_short (at_ne h1 (by decide))⟩
  · split at h
    · rename_i h1; cases h; exact ⟨adv_le S, adv_short (at_ne h1 (by decide))⟩
    · split at h
      · rename_i h1; cases h; exact ⟨adv_le S, adv_short (at_ne h1 (by decide))⟩
      · split at h
        · rename_i h1
          obtain ⟨S1, n, h2, h3⟩ := bnd_ok h
          cases h3
          have := adv_short (at_ne h1 (by decide))
          exact ⟨(adv_le S).trans (name_le h2), by have := name_short h2; omega⟩
        · split at h
          · rename_i h1; cases h; exact ⟨adv_le S, adv_short (num_ne h1)⟩
          · obtain ⟨S1, n, h2, h3⟩ := bnd_ok h
            cases h3
            exact ⟨name_le h2, name_short h2⟩
theorem operand_short {S S' : St} {o : Opd} (h : operand S = .ok (S', o)) : S'.rest.length < S.rest.length := (operand_both h).2
theorem operand_le {S S' : St} {o : Opd} (h : operand S = .ok (S', o)) : Le S S' := (operand_both h).1

end M
end Go.Proofs.YtkonkdhoakcmdaaDoor
