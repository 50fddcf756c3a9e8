/-
  The document's reader's statements, as mathematics; what a block and a statement of it are to answer. Conditions: the state's; how many tokens there are.
-/
import Derived.Test.YtkonkdhoakcmdaaGreatDoorT11
import Derived.Test.YtkonkdhoakcmdaaGreatDoorR14
set_option linter.unusedVariables false
set_option linter.unusedSimpArgs false
namespace Go.Proofs.YtkonkdhoakcmdaaGreatDoor
open Go.RowKit

def blockR (N : Nat) (r : RSt) : M.Res M.Tr := bindR r (M.blk N)
def stmtR (N : Nat) (r : RSt) : M.Res M.Tr := bindR r (M.stmt (M.blk N))
/-- what block is to answer -/
def RBlockC (N : Nat) : Prop := ∀ (a : Option Addr) (cap : Nat) (ts : List M.Tok) (fin : Int) (d : Nat) (r : RSt) (i n : Nat) (c y : Int) (w : World), RS ts fin d r i n c y → TokAt w (.slice a ts.length cap) ts → ts.length ≤ 4398046511000 → d ≤ 32 → (∀ S, r = .ok S → S.rest.length < N) →
    Calls Tryz.prog 22 #[.agg #[.slice a ts.length cap, .int .i64 (i : Nat), .int .i64 fin, .int .i64 (n : Nat), .int .i64 c, .int .i64 y], .int .i64 (d : Nat)] w fun e w' => Below w.heap.size w w' ∧ ∃ (i' n' : Nat) (c' y' : Int) (v : Value) (t : M.Tr), e = .returned (.tuple #[.agg #[.slice a ts.length cap, .int .i64 (i' : Nat), .int .i64 fin, .int .i64 (n' : Nat), .int .i64 c', .int .i64 y'], v]) ∧ RS ts fin d (stR (blockR N r)) i' n' c' y' ∧ StmAt w' (Old w) v t ∧ ∀ S' t', blockR N r = .ok (S', t') → t = t'

theorem bnd_st {α β : Type} (q : M.Res α) (k : M.St → α → M.Res β) (x : α) (hx : ∀ S' a, q = .ok (S', a) → x = a) : M.bnd q k = bindR (stR q) fun S1 => k S1 x := by
  cases q with
  | error e => rfl
  | ok p => obtain rfl := hx p.1 p.2 rfl; rfl
theorem take_bind {β : Type} (q : RSt) (t : ByteArray) (g : M.St → M.Res β) : (bindR q fun S => M.bnd (M.take S t) fun S1 _ => g S1) = bindR (needR q t) g := (bindR_need q t g).symm
theorem take_end {α : Type} (q : RSt) (t : ByteArray) (x : α) : stR (bindR q fun S => M.bnd (M.take S t) fun S1 _ => .ok (S1, x)) = needR q t ∧ ∀ S' b, (bindR q fun S => M.bnd (M.take S t) fun S1 _ => .ok (S1, x)) = .ok (S', b) → x = b := by
  rw [take_bind]
  exact mv_end _ _

/-- no statement begins -/
theorem st_none {N : Nat} {r : RSt} (h0 : isNameR r = false) (h1 : isR r M.kOut = false) (h2 : isR r M.kReturn = false) (h3 : isR r M.kIf = false) (h4 : isR r M.kWhile = false) : stR (stmtR N r) = failR r 20 ∧ ∀ S t, ¬ stmtR N r = .ok (S, t) := by
  cases r with
  | error f => exact ⟨rfl, fun _ _ h => by cases h⟩
  | ok S =>
    have e0 : S.isName = false := h0
    have e1 : S.at M.kOut = false := h1
    have e2 : S.at M.kReturn = false := h2
    have e3 : S.at M.kIf = false := h3
    have e4 : S.at M.kWhile = false := h4
    have : stmtR N (.ok S) = M.fail S 20 := by simp [stmtR, bindR, M.stmt, M.St.atStmt, e0, e1, e2, e3, e4]
    rw [this]
    exact ⟨rfl, fun _ _ h => by cases h⟩
def atStmtR (r : RSt) : Bool := isNameR r || (isR r M.kOut || (isR r M.kReturn || (isR r M.kIf || isR r M.kWhile)))
theorem st_full {N : Nat} {S : M.St} (h : atStmtR (.ok S) = true) (hn : S.n = 2000) : stR (stmtR N (.ok S)) = failR (.ok S) 22 ∧ ∀ S' t, ¬ stmtR N (.ok S) = .ok (S', t) := by
  have e : S.atStmt = true := h
  have : stmtR N (.ok S) = M.fail S 22 := by simp [stmtR, bindR, M.stmt, e, hn]
  rw [this]
  exact ⟨rfl, fun _ _ h => by cases h⟩
theorem more_at (S : M.St) (t : ByteArray) : S.more.at t = S.at t := rfl
theorem st_if {N : Nat} {S : M.St} (h : S.at M.kIf = true) (hn : ¬ S.n = 2000) : stmtR N (.ok S) = M.branch (M.blk N) S.more.adv := by
  have e : S.atStmt = true := by simp [M.St.atStmt, h]
  simp [stmtR, bindR, M.stmt, e, hn, h]
theorem st_while {N : Nat} {S : M.St} (h : S.at M.kWhile = true) (hn : ¬ S.n = 2000) : stmtR N (.ok S) = M.loopS (M.blk N) S.more.adv := by
  have e : S.atStmt = true := by simp [M.St.atStmt, h]
  have h1 := at_two h (show ¬ M.kWhile = M.kIf by decide)
  simp [stmtR, bindR, M.stmt, e, hn, h, h1]
theorem st_branch {N : Nat} {S : M.St} {o : M.Opd} {th : M.Tr} (ho : ∀ S' x, operandR (.ok S) = .ok (S', x) → o = x) (ht : ∀ S' x, blockR N (stR (operandR (.ok S))) = .ok (S', x) → th = x) :
    (M.branch (M.blk N) S = bindR (stR (blockR N (stR (operandR (.ok S))))) fun S2 => if S2.at M.kElse = true then M.bnd (M.blk N S2.adv) fun S3 el => .ok (S3, M.one 9 M.em M.em M.em [o] [] th el) else .ok (S2, M.one 9 M.em M.em M.em [o] [] th .nil)) ∧
    (M.loopS (M.blk N) S = bindR (stR (blockR N (stR (operandR (.ok S))))) fun S2 => .ok (S2, M.one 10 M.em M.em M.em [o] [] th .nil)) := by
  have e : operandR (.ok S) = M.operand S := rfl
  rw [e] at ho ht ⊢
  unfold M.branch M.loopS M.oneOperand
  cases hp : M.operand S with
  | error e => exact ⟨rfl, rfl⟩
  | ok p =>
    obtain ⟨S1, x⟩ := p
    obtain rfl := ho _ _ hp
    rw [hp] at ht
    have hb : blockR N (stR (.ok (S1, o))) = M.blk N S1 := rfl
    rw [hb] at ht ⊢
    show (M.bnd (M.blk N S1) _ = _) ∧ (M.bnd (M.blk N S1) _ = _)
    cases hq : M.blk N S1 with
    | error e => exact ⟨rfl, rfl⟩
    | ok p =>
      obtain rfl := ht _ _ hq
      exact ⟨rfl, rfl⟩
theorem st_else {N : Nat} {q : RSt} {o : M.Opd} {th : M.Tr} (h : isR q M.kElse = true) :
    (bindR q fun S2 => if S2.at M.kElse = true then M.bnd (M.blk N S2.adv) fun S3 el => .ok (S3, M.one 9 M.em M.em M.em [o] [] th el) else .ok (S2, M.one 9 M.em M.em M.em [o] [] th .nil)) = bindR (needR q M.kElse) fun S => M.bnd (M.blk N S) fun S3 el => .ok (S3, M.one 9 M.em M.em M.em [o] [] th el) := by
  obtain ⟨S, rfl⟩ := isR_ok h
  rw [needR_yes h]
  have h' : S.at M.kElse = true := h
  simp [bindR, h']
theorem st_noelse {N : Nat} {q : RSt} {o : M.Opd} {th : M.Tr} (h : isR q M.kElse = false) :
    (bindR q fun S2 => if S2.at M.kElse = true then M.bnd (M.blk N S2.adv) fun S3 el => .ok (S3, M.one 9 M.em M.em M.em [o] [] th el) else .ok (S2, M.one 9 M.em M.em M.em [o] [] th .nil)) = bindR q fun S2 => .ok (S2, M.one 9 M.em M.em M.em [o] [] th .nil) := by
  cases q with
  | error f => rfl
  | ok S =>
    have h' : S.at M.kElse = false := h
    simp [bindR, h']
/-- what stands ahead of its semicolon -/
theorem st_plain {N : Nat} {S : M.St} (h : S.atStmt = true) (h1 : S.at M.kIf = false) (h2 : S.at M.kWhile = false) (hn : ¬ S.n = 2000) : stmtR N (.ok S) = M.bnd (M.plain S.more) fun S1 t => M.bnd (M.take S1 (M.ch 59)) fun S2 _ => .ok (S2, t) := by
  simp [stmtR, bindR, M.stmt, h, hn, h1, h2]
theorem st_out {N : Nat} {S : M.St} {o : M.Opd} (h : S.at M.kOut = true) (hn : ¬ S.n = 2000) (ho : ∀ S' x, operandR (.ok S.more.adv) = .ok (S', x) → o = x) :
    stmtR N (.ok S) = bindR (stR (operandR (.ok S.more.adv))) fun S1 => M.bnd (M.take S1 (M.ch 59)) fun S2 _ => .ok (S2, M.one 8 M.em M.em M.em [o] [] .nil .nil) := by
  rw [st_plain (by simp [M.St.atStmt, h]) (at_two h (by decide)) (at_two h (by decide)) hn]
  have e : operandR (.ok S.more.adv) = M.operand S.more.adv := rfl
  rw [e] at ho ⊢
  unfold M.plain M.oneOperand
  rw [if_pos (by rw [more_at]; exact h)]
  cases hp : M.operand S.more.adv with
  | error e => rfl
  | ok p => obtain rfl := ho _ _ hp; rfl
theorem st_return {N : Nat} {S : M.St} {o : M.Opd} (h : S.at M.kReturn = true) (hn : ¬ S.n = 2000) (ho : ∀ S' x, operandR (.ok S.more.adv) = .ok (S', x) → o = x) :
    stmtR N (.ok S) = bindR (stR (operandR (.ok S.more.adv))) fun S1 => M.bnd (M.take S1 (M.ch 59)) fun S2 _ => .ok (S2, M.one 11 M.em M.em M.em [o] [] .nil .nil) := by
  rw [st_plain (by simp [M.St.atStmt, h]) (at_two h (by decide)) (at_two h (by decide)) hn]
  have e : operandR (.ok S.more.adv) = M.operand S.more.adv := rfl
  rw [e] at ho ⊢
  unfold M.plain M.oneOperand
  have h0 : S.more.at M.kOut = false := by rw [more_at]; exact at_two h (by decide)
  rw [if_neg (by simp [h0]), if_pos (by rw [more_at]; exact h)]
  cases hp : M.operand S.more.adv with
  | error e => rfl
  | ok p => obtain rfl := ho _ _ hp; rfl
theorem name_not {S : M.St} {t : ByteArray} (h : S.isName = true) (ht : M.kw t = true) : S.at t = false := by
  unfold M.St.isName at h
  cases e : S.at t
  · rfl
  · have : S.now.t = t := of_decide_eq_true e
    rw [this, ht] at h
    simp at h
theorem st_name {N : Nat} {S : M.St} {x : ByteArray} (h : S.isName = true) (hn : ¬ S.n = 2000) (hx : ∀ S' x', nameR (.ok S.more) = .ok (S', x') → x = x') :
    stmtR N (.ok S) = bindR (stR (nameR (.ok S.more))) fun S1 => M.bnd (if S1.at (M.ch 46) = true then M.bnd (M.name S1.adv) fun S2 p => M.bnd (M.take S2 (M.ch 61)) fun S3 _ => M.bnd (M.oneOperand S3) fun S4 a => .ok (S4, M.one 3 x M.em p a [] .nil .nil)
        else M.bnd (M.take S1 (M.ch 61)) fun S2 _ => M.bnd (M.value S2) fun S3 v => .ok (S3, M.one v.op x v.y v.p v.a v.pr .nil .nil)) fun S1 t => M.bnd (M.take S1 (M.ch 59)) fun S2 _ => .ok (S2, t) := by
  rw [st_plain (by simp [M.St.atStmt, h]) (name_not h (by decide)) (name_not h (by decide)) hn]
  have e : nameR (.ok S.more) = M.name S.more := rfl
  rw [e] at hx ⊢
  unfold M.plain
  have h0 : S.more.at M.kOut = false := by rw [more_at]; exact name_not h (by decide)
  have h1 : S.more.at M.kReturn = false := by rw [more_at]; exact name_not h (by decide)
  rw [if_neg (by simp [h0]), if_neg (by simp [h1])]
  cases hp : M.name S.more with
  | error e => rfl
  | ok p => obtain rfl := hx _ _ hp; rfl
theorem st_set {q : RSt} {x p : ByteArray} {o : M.Opd} (h : isR q (M.ch 46) = true) (hp : ∀ S' x', nameR (needR q (M.ch 46)) = .ok (S', x') → p = x') (ho : ∀ S' x', operandR (needR (stR (nameR (needR q (M.ch 46)))) (M.ch 61)) = .ok (S', x') → o = x') :
    (bindR q fun S1 => M.bnd (if S1.at (M.ch 46) = true then M.bnd (M.name S1.adv) fun S2 p => M.bnd (M.take S2 (M.ch 61)) fun S3 _ => M.bnd (M.oneOperand S3) fun S4 a => .ok (S4, M.one 3 x M.em p a [] .nil .nil)
        else M.bnd (M.take S1 (M.ch 61)) fun S2 _ => M.bnd (M.value S2) fun S3 v => .ok (S3, M.one v.op x v.y v.p v.a v.pr .nil .nil)) fun S1 t => M.bnd (M.take S1 (M.ch 59)) fun S2 _ => .ok (S2, t)) =
    bindR (stR (operandR (needR (stR (nameR (needR q (M.ch 46)))) (M.ch 61)))) fun S1 => M.bnd (M.take S1 (M.ch 59)) fun S2 _ => .ok (S2, M.one 3 x M.em p [o] [] .nil .nil) := by
  obtain ⟨S, rfl⟩ := isR_ok h
  have h' : S.at (M.ch 46) = true := h
  rw [needR_yes h] at hp ho ⊢
  have e : nameR (.ok S.adv) = M.name S.adv := rfl
  rw [e] at hp ho ⊢
  simp only [bindR, h', if_true]
  cases hn : M.name S.adv with
  | error e => rfl
  | ok q =>
    obtain ⟨S2, x2⟩ := q
    obtain rfl := hp _ _ hn
    rw [hn] at ho
    simp only [stR, needR, bindR, M.bnd] at ho ⊢
    cases ht : M.take S2 (M.ch 61) with
    | error e => rfl
    | ok q =>
      obtain ⟨S3, u⟩ := q
      rw [ht] at ho
      have e2 : operandR (.ok S3) = M.operand S3 := rfl
      simp only [e2] at ho ⊢
      unfold M.oneOperand
      cases hq : M.operand S3 with
      | error e => rfl
      | ok q => obtain rfl := ho _ _ hq; rfl
theorem st_let {q : RSt} {x : ByteArray} {v : M.Val} (h : isR q (M.ch 46) = false) (hv : ∀ S' x', valueR (needR q (M.ch 61)) = .ok (S', x') → v = x') :
    (bindR q fun S1 => M.bnd (if S1.at (M.ch 46) = true then M.bnd (M.name S1.adv) fun S2 p => M.bnd (M.take S2 (M.ch 61)) fun S3 _ => M.bnd (M.oneOperand S3) fun S4 a => .ok (S4, M.one 3 x M.em p a [] .nil .nil)
        else M.bnd (M.take S1 (M.ch 61)) fun S2 _ => M.bnd (M.value S2) fun S3 v => .ok (S3, M.one v.op x v.y v.p v.a v.pr .nil .nil)) fun S1 t => M.bnd (M.take S1 (M.ch 59)) fun S2 _ => .ok (S2, t)) =
    bindR (stR (valueR (needR q (M.ch 61)))) fun S1 => M.bnd (M.take S1 (M.ch 59)) fun S2 _ => .ok (S2, M.one v.op x v.y v.p v.a v.pr .nil .nil) := by
  cases q with
  | error f => rfl
  | ok S =>
    have h' : S.at (M.ch 46) = false := h
    simp only [bindR, h', needR, Bool.false_eq_true, if_false] at hv ⊢
    cases ht : M.take S (M.ch 61) with
    | error e => rfl
    | ok q =>
      obtain ⟨S3, u⟩ := q
      rw [ht] at hv
      have e2 : valueR (.ok S3) = M.value S3 := rfl
      simp only [M.bnd, stR, e2] at hv ⊢
      cases hq : M.value S3 with
      | error e => rfl
      | ok q => obtain rfl := hv _ _ hq; rfl
theorem RS.more {ts : List M.Tok} {fin : Int} {d : Nat} {i n : Nat} {c y : Int} {S : M.St} (h : RS ts fin d (.ok S) i n c y) (hn : n < 2000) : c = 0 ∧ y = 0 ∧ S.n = n ∧ RS ts fin d (.ok S.more) i (n + 1) 0 0 := by
  obtain ⟨rfl, rfl, rfl⟩ := h.good S rfl
  exact ⟨rfl, rfl, rfl, h.lt, hn, fun S e => ⟨rfl, rfl, by cases e; rfl⟩, fun f e => by cases e⟩
theorem st_set3 {W : World} {g : Nat} {T : TypeId} {v0 v1 v2 v3 v4 v5 : Value} (h : W.heap[g]? = some (.cells #[v0, v1, v2, v3, v4, v5] T (0, 0))) (u : Value) :
    (W.setCell ⟨g, 3, none⟩ u).heap[g]? = some (.cells #[v0, v1, v2, u, v4, v5] T (0, 0)) ∧ (W.setCell ⟨g, 1, none⟩ u).heap[g]? = some (.cells #[v0, u, v2, v3, v4, v5] T (0, 0)) :=
  ⟨heap_setCell_same _ _ _ _ _ _ h, heap_setCell_same _ _ _ _ _ _ h⟩
theorem stm_set0 {W : World} {g : Nat} {T : TypeId} {v0 v1 v2 v3 v4 v5 v6 v7 : Value} (h : W.heap[g]? = some (.cells #[v0, v1, v2, v3, v4, v5, v6, v7] T (0, 0))) (u : Value) :
    (W.setCell ⟨g, 0, none⟩ u).heap[g]? = some (.cells #[u, v1, v2, v3, v4, v5, v6, v7] T (0, 0)) ∧ (W.setCell ⟨g, 1, none⟩ u).heap[g]? = some (.cells #[v0, u, v2, v3, v4, v5, v6, v7] T (0, 0)) ∧ (W.setCell ⟨g, 6, none⟩ u).heap[g]? = some (.cells #[v0, v1, v2, v3, v4, v5, u, v7] T (0, 0)) ∧ (W.setCell ⟨g, 7, none⟩ u).heap[g]? = some (.cells #[v0, v1, v2, v3, v4, v5, v6, u] T (0, 0)) :=
  ⟨heap_setCell_same _ _ _ _ _ _ h, heap_setCell_same _ _ _ _ _ _ h, heap_setCell_same _ _ _ _ _ _ h, heap_setCell_same _ _ _ _ _ _ h⟩
end Go.Proofs.YtkonkdhoakcmdaaGreatDoor
