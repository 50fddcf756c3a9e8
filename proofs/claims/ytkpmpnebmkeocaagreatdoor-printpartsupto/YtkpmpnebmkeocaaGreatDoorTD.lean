/-
  The document's reader's statements, as mathematics; what a block and a statement of it are to answer. Conditions: the state's; how many tokens there are.
-/
import Derived.Test.YtkpmpnebmkeocaaGreatDoorTC
import Derived.Test.YtkpmpnebmkeocaaGreatDoorRB
set_option linter.unusedSimpArgs false
set_option linter.unusedVariables false
section
namespace Go.Proofs.YtkpmpnebmkeocaaGreatDoor
open Go.RowKit

def blockR (N : Nat) (r : RSt) : M.Res M.Tr := bindR r (M.blk N)
def stmtR (N : Nat) (r : RSt) : M.Res M.Tr := bindR r (M.stmt (M.blk N))
def RBlockC (N : Nat) : Prop := ∀ (a : Option Addr) (cap : Nat) (ts : List M.Tok) (fin : Int) (d : Nat) (r : RSt) (i n : Nat) (c y : Int) (w : World), RS ts fin d r i n c y → TokAt w (.slice a ts.length cap) ts → ts.length ≤ 4398046511000 → d ≤ 32 → (∀ S, r = .ok S → S.rest.length < N) →
    Calls Tryz.prog 57 #[.agg #[.slice a ts.length cap, .int .i64 (i : Nat), .int .i64 fin, .int .i64 (n : Nat), .int .i64 c, .int .i64 y], .int .i64 (d : Nat)] w fun e w' => Below w.heap.size w w' ∧ ∃ (i' n' : Nat) (c' y' : Int) (v : Value) (t : M.Tr), e = .returned (.tuple #[.agg #[.slice a ts.length cap, .int .i64 (i' : Nat), .int .i64 fin, .int .i64 (n' : Nat), .int .i64 c', .int .i64 y'], v]) ∧ RS ts fin d (stR (blockR N r)) i' n' c' y' ∧ StmAt w' (Old w) v t ∧ ∀ S' t', blockR N r = .ok (S', t') → t = t'

theorem take_bind {β : Type} (q : RSt) (t : ByteArray) (g : M.St → M.Res β) : (bindR q fun S => M.bnd (M.take S t) fun S1 _ => g S1) = bindR (needR q t) g := (bindR_need q t g).symm
theorem take_end {α : Type} (q : RSt) (t : ByteArray) (x : α) : stR (bindR q fun S => M.bnd (M.take S t) fun S1 _ => .ok (S1, x)) = needR q t ∧ ∀ S' b, (bindR q fun S => M.bnd (M.take S t) fun S1 _ => .ok (S1, x)) = .ok (S', b) → x = b := by
  rw [take_bind]
  exact mv_end _ _

theorem st_none {N : Nat} {r : RSt} (h0 : isNameR r = false) (h1 : isR r M.kOut = false) (h2 : isR r M.kReturn = false) (h3 : isR r M.kIf = false) (h4 : isR r M.kWhile = false) : stR (stmtR N r) = failR r 20 ∧ ∀ S t, ¬ stmtR N r = .ok (S, t) := by
  cases r with
  | error f => exact ⟨rfl, fun _ _ h => by cases h⟩
  | ok S =>
    have e0 : S.isName = false := h0
    have e1 : S.at M.kOut = false := h1
    have e2 : S.at M.kReturn = false := h2
    have e3 : S.at M.kIf = false := h3
    have e4 : S.at M.kWhile = false := h4
    have : stmtR N (.ok S) = M.fail S 20 := by simp [stmtR, bindR, M.stmt, M.St.atStmt, e0, e1, e2, e3, e4]
    rw [this]
    exact ⟨rfl, fun _ _ h => by cases h⟩
def atStmtR (r : RSt) : Bool := isNameR r || (isR r M.kOut || (isR r M.kReturn || (isR r M.kIf || isR r M.kWhile)))
theorem st_full {N : Nat} {S : M.St} (h : atStmtR (.ok S) = true) (hn : S.n = 2000) : stR (stmtR N (.ok S)) = failR (.ok S) 22 ∧ ∀ S' t, ¬ stmtR N (.ok S) = .ok (S', t) := by
  have e : S.atStmt = true := h
  have : stmtR N (.ok S) = M.fail S 22 := by simp [stmtR, bindR, M.stmt, e, hn]
  rw [this]
  exact ⟨rfl, fun _ _ h => by cases h⟩
theorem more_at (S : M.St) (t : ByteArray) : S.more.at t = S.at t := rfl
theorem st_if {N : Nat} {S : M.St} (h : S.at M.kIf = true) (hn : ¬ S.n = 2000) : stmtR N (.ok S) = M.branch (M.blk N) S.more.adv := by
  have e : S.atStmt = true := by simp [M.St.atStmt, h]
  simp [stmtR, bindR, M.stmt, e, hn, h]
theorem st_while {N : Nat} {S : M.St} (h : S.at M.kWhile = true) (hn : ¬ S.n = 2000) : stmtR N (.ok S) = M.loopS (M.blk N) S.more.adv := by
  have e : S.atStmt = true := by simp [M.St.atStmt, h]
  have h1 := at_two h (show ¬ M.kWhile = M.kIf by decide)
  simp [stmtR, bindR, M.stmt, e, hn, h, h1]
theorem st_branch {N : Nat} {S : M.St} {o : M.Opd} {th : M.Tr} (ho : ∀ S' x, operandR (.ok S) = .ok (S', x) → o = x) (ht : ∀ S' x, blockR N (stR (operandR (.ok S))) = .ok (S', x) → th = x) :
    (M.branch (M.blk N) S = bindR (stR (blockR N (stR (operandR (.ok S))))) fun S2 => if S2.at M.kElse = true then M.bnd (M.blk N S2.adv) fun S3 el => .ok (S3, M.one 9 M.em M.em M.em [o] [] th el) else .ok (S2, M.one 9 M.em M.em M.em [o] [] th .nil)) ∧
    (M.loopS (M.blk N) S = bindR (stR (blockR N (stR (operandR (.ok S))))) fun S2 => .ok (S2, M.one 10 M.em M.em M.em [o] [] th .nil)) := by
  have e : operandR (.ok S) = M.operand S := rfl
  rw [e] at ho ht ⊢
  unfold M.branch M.loopS M.oneOperand
  cases hp : M.operand S with
  | error e => exact ⟨rfl, rfl⟩
  | ok p =>
    obtain ⟨S1, x⟩ := p
    obtain rfl := ho _ _ hp
    rw [hp] at ht
    have hb : blockR N (stR (.ok (S1, o))) = M.blk N S1 := rfl
    rw [hb] at ht ⊢
    show (M.bnd (M.blk N S1) _ = _) ∧ (M.bnd (M.blk N S1) _ = _)
    cases hq : M.blk N S1 with
    | error e => exact ⟨rfl, rfl⟩
    | ok p =>
      obtain rfl := ht _ _ hq
      exact ⟨rfl, rfl⟩
theorem st_else {N : Nat} {q : RSt} {o : M.Opd} {th : M.Tr} (h : isR q M.kElse = true) :
    (bindR q fun S2 => if S2.at M.kElse = true then M.bnd (M.blk N S2.adv) fun S3 el => .ok (S3, M.one 9 M.em M.em M.em [o] [] th el) else .ok (S2, M.one 9 M.em M.em M.em [o] [] th .nil)) = bindR (needR q M.kElse) fun S => M.bnd (M.blk N S) fun S3 el => .ok (S3, M.one 9 M.em M.em M.em [o] [] th el) := by
  obtain ⟨S, rfl⟩ := isR_ok h
  rw [needR_yes h]
  have h' : S.at M.kElse = true := h
  simp [bindR, h']
theorem st_noelse {N : Nat} {q : RSt} {o : M.Opd} {th : M.Tr} (h : isR q M.kElse = false) :
    (bindR q fun S2 => if S2.at M.kElse = true then M.bnd (M.blk N S2.adv) fun S3 el => .ok (S3, M.one 9 M.em M.em M.em [o] [] th el) else .ok (S2, M.one 9 M.em M.em M.em [o] [] th .nil)) = bindR q fun S2 => .ok (S2, M.one 9 M.em M.em M.em [o] [] th .nil) := by
  cases q with
  | error f => rfl
  | ok S =>
    have h' : S.at M.kElse = false := h
    simp [bindR, h']
theorem st_plain {N : Nat} {S : M.St} (h : S.atStmt = true) (h1 : S.at M.kIf = false) (h2 : S.at M.kWhile = false) (hn : ¬ S.n = 2000) : stmtR N (.ok S) = M.bnd (M.plain S.more) fun S1 t => M.bnd (M.take S1 (M.ch 59)) fun S2 _ => .ok (S2, t) := by
  simp [stmtR, bindR, M.stmt, h, hn, h1, h2]
theorem st_out {N : Nat} {S : M.St} {o : M.Opd} (h : S.at M.kOut = true) (hn : ¬ S.n = 2000) (ho : ∀ S' x, operandR (.ok S.more.adv) = .ok (S', x) → o = x) :
    stmtR N (.ok S) = bindR (stR (operandR (.ok S.more.adv))) fun S1 => M.bnd (M.take S1 (M.ch 59)) fun S2 _ => .ok (S2, M.one 8 M.em M.em M.em [o] [] .nil .nil) := by
  rw [st_plain (by simp [M.St.atStmt, h]) (at_two h (by decide)) (at_two h (by decide)) hn]
  have e : operandR (.ok S.more.adv) = M.operand S.more.adv := rfl
  rw [e] at ho ⊢
  unfold M.plain M.oneOperand
  rw [if_pos (by rw [more_at]; exact h)]
  cases hp : M.operand S.more.adv with
  | error e => rfl
  | ok p => obtain rfl := ho _ _ hp; rfl
theorem st_return {N : Nat} {S : M.St} {o : M.Opd} (h : S.at M.kReturn = true) (hn : ¬ S.n = 2000) (ho : ∀ S' x, operandR (.ok S.more.adv) = .ok (S', x) → o = x) :
    stmtR N (.ok S) = bindR (stR (operandR (.ok S.more.adv))) fun S1 => M.bnd (M.take S1 (M.ch 59)) fun S2 _ => .ok (S2, M.one 11 M.em M.em M.em [o] [] .nil .nil) := by
  rw [st_plain (by simp [M.St.atStmt, h]) (at_two h (by decide)) (at_two h (by decide)) hn]
  have e : operandR (.ok S.more.adv) = M.operand S.more.adv := rfl
  rw [e] at ho ⊢
  unfold M.plain M.oneOperand
  have h0 : S.more.at M.kOut = false := by rw [more_at]; exact at_two h (by decide)
  rw [if_neg (by simp [h0]), if_pos (by rw [more_at]; exact h)]
  cases hp : M.operand S.more.adv with
  | error e => rfl
  | ok p => obtain rfl := ho _ _ hp; rfl
theorem name_not {S : M.St} {t : ByteArray} (h : S.isName = true) (ht : M.kw t = true) : S.at t = false := by
  unfold M.St.isName at h
  cases e : S.at t
  · rfl
  · have : S.now.t = t := of_decide_eq_true e
    rw [this, ht] at h
    simp at h
theorem st_name {N : Nat} {S : M.St} {x : ByteArray} (h : S.isName = true) (hn : ¬ S.n = 2000) (hx : ∀ S' x', nameR (.ok S.more) = .ok (S', x') → x = x') :
    stmtR N (.ok S) = bindR (stR (nameR (.ok S.more))) fun S1 => M.bnd (if S1.at (M.ch 46) = true then M.bnd (M.name S1.adv) fun S2 p => M.bnd (M.take S2 (M.ch 61)) fun S3 _ => M.bnd (M.oneOperand S3) fun S4 a => .ok (S4, M.one 3 x M.em p a [] .nil .nil)
        else M.bnd (M.take S1 (M.ch 61)) fun S2 _ => M.bnd (M.value S2) fun S3 v => .ok (S3, M.one v.op x v.y v.p v.a v.pr .nil .nil)) fun S1 t => M.bnd (M.take S1 (M.ch 59)) fun S2 _ => .ok (S2, t) := by
  rw [st_plain (by simp [M.St.atStmt, h]) (name_not h (by decide)) (name_not h (by decide)) hn]
  have e : nameR (.ok S.more) = M.name S.more := rfl
  rw [e] at hx ⊢
  unfold M.plain
  have h0 : S.more.at M.kOut = false := by rw [more_at]; exact name_not h (by decide)
  have h1 : S.more.at M.kReturn = false := by rw [more_at]; exact name_not h (by decide)
  rw [if_neg (by simp [h0]), if_neg (by simp [h1])]
  cases hp : M.name S.more with
  | error e => rfl
  | ok p => obtain rfl := hx _ _ hp; rfl
theorem st_set {q : RSt} {x p : ByteArray} {o : M.Opd} (h : isR q (M.ch 46) = true) (hp : ∀ S' x', nameR (needR q (M.ch 46)) = .ok (S', x') → p = x') (ho : ∀ S' x', operandR (needR (stR (nameR (needR q (M.ch 46)))) (M.ch 61)) = .ok (S', x') → o = x') :
    (bindR q fun S1 => M.bnd (if S1.at (M.ch 46) = true then M.bnd (M.name S1.adv) fun S2 p => M.bnd (M.take S2 (M.ch 61)) fun S3 _ => M.bnd (M.oneOperand S3) fun S4 a => .ok (S4, M.one 3 x M.em p a [] .nil .nil)
        else M.bnd (M.take S1 (M.ch 61)) fun S2 _ => M.bnd (M.value S2) fun S3 v => .ok (S3, M.one v.op x v.y v.p v.a v.pr .nil .nil)) fun S1 t => M.bnd (M.take S1 (M.ch 59)) fun S2 _ => .ok (S2, t)) =
    bindR (stR (operandR (needR (stR (nameR (needR q (M.ch 46)))) (M.ch 61)))) fun S1 => M.bnd (M.take S1 (M.ch 59)) fun S2 _ => .ok (S2, M.one 3 x M.em p [o] [] .nil .nil) := by
  obtain ⟨S, rfl⟩ := isR_ok h
  have h' : S.at (M.ch 46) = true := h
  rw [needR_yes h] at hp ho ⊢
  have e : nameR (.ok S.adv) = M.name S.adv := rfl
  rw [e] at hp ho ⊢
  simp only [bindR, h', if_true]
  cases hn : M.name S.adv with
  | error e => rfl
  | ok q =>
    obtain ⟨S2, x2⟩ := q
    obtain rfl := hp _ _ hn
    rw [hn] at ho
    simp only [stR, needR, bindR, M.bnd] at ho ⊢
    cases ht : M.take S2 (M.ch 61) with
    | error e => rfl
    | ok q =>
      obtain ⟨S3, u⟩ := q
      rw [ht] at ho
      have e2 : operandR (.ok S3) = M.operand S3 := rfl
      simp only [e2] at ho ⊢
      unfold M.oneOperand
      cases hq : M.operand S3 with
      | error e => rfl
      | ok q => obtain rfl := ho _ _ hq; rfl
theorem st_let {q : RSt} {x : ByteArray} {v : M.Val} (h : isR q (M.ch 46) = false) (hv : ∀ S' x', valueR (needR q (M.ch 61)) = .ok (S', x') → v = x') :
    (bindR q fun S1 => M.bnd (if S1.at (M.ch 46) = true then M.bnd (M.name S1.adv) fun S2 p => M.bnd (M.take S2 (M.ch 61)) fun S3 _ => M.bnd (M.oneOperand S3) fun S4 a => .ok (S4, M.one 3 x M.em p a [] .nil .nil)
        else M.bnd (M.take S1 (M.ch 61)) fun S2 _ => M.bnd (M.value S2) fun S3 v => .ok (S3, M.one v.op x v.y v.p v.a v.pr .nil .nil)) fun S1 t => M.bnd (M.take S1 (M.ch 59)) fun S2 _ => .ok (S2, t)) =
    bindR (stR (valueR (needR q (M.ch 61)))) fun S1 => M.bnd (M.take S1 (M.ch 59)) fun S2 _ => .ok (S2, M.one v.op x v.y v.p v.a v.pr .nil .nil) := by
  cases q with
  | error f => rfl
  | ok S =>
    have h' : S.at (M.ch 46) = false := h
    simp only [bindR, h', needR, Bool.false_eq_true, if_false] at hv ⊢
    cases ht : M.take S (M.ch 61) with
    | error e => rfl
    | ok q =>
      obtain ⟨S3, u⟩ := q
      rw [ht] at hv
      have e2 : valueR (.ok S3) = M.value S3 := rfl
      simp only [M.bnd, stR, e2] at hv ⊢
      cases hq : M.value S3 with
      | error e => rfl
      | ok q => obtain rfl := hv _ _ hq; rfl
theorem RS.more {ts : List M.Tok} {fin : Int} {d : Nat} {i n : Nat} {c y : Int} {S : M.St} (h : RS ts fin d (.ok S) i n c y) (hn : n < 2000) : c = 0 ∧ y = 0 ∧ S.n = n ∧ RS ts fin d (.ok S.more) i (n + 1) 0 0 := by
  obtain ⟨rfl, rfl, rfl⟩ := h.good S rfl
  exact ⟨rfl, rfl, rfl, h.lt, hn, fun S e => ⟨rfl, rfl, by cases e; rfl⟩, fun f e => by cases e⟩
theorem st_set3 {W : World} {g : Nat} {T : TypeId} {v0 v1 v2 v3 v4 v5 : Value} (h : W.heap[g]? = some (.cells #[v0, v1, v2, v3, v4, v5] T (0, 0))) (u : Value) :
    (W.setCell ⟨g, 3, none⟩ u).heap[g]? = some (.cells #[v0, v1, v2, u, v4, v5] T (0, 0)) ∧ (W.setCell ⟨g, 1, none⟩ u).heap[g]? = some (.cells #[v0, u, v2, v3, v4, v5] T (0, 0)) :=
  ⟨heap_setCell_same _ _ _ _ _ _ h, heap_setCell_same _ _ _ _ _ _ h⟩
theorem stm_set0 {W : World} {g : Nat} {T : TypeId} {v0 v1 v2 v3 v4 v5 v6 v7 : Value} (h : W.heap[g]? = some (.cells #[v0, v1, v2, v3, v4, v5, v6, v7] T (0, 0))) (u : Value) :
    (W.setCell ⟨g, 0, none⟩ u).heap[g]? = some (.cells #[u, v1, v2, v3, v4, v5, v6, v7] T (0, 0)) ∧ (W.setCell ⟨g, 1, none⟩ u).heap[g]? = some (.cells #[v0, u, v2, v3, v4, v5, v6, v7] T (0, 0)) ∧ (W.setCell ⟨g, 6, none⟩ u).heap[g]? = some (.cells #[v0, v1, v2, v3, v4, v5, u, v7] T (0, 0)) ∧ (W.setCell ⟨g, 7, none⟩ u).heap[g]? = some (.cells #[v0, v1, v2, v3, v4, v5, v6, u] T (0, 0)) :=
  ⟨heap_setCell_same _ _ _ _ _ _ h, heap_setCell_same _ _ _ _ _ _ h, heap_setCell_same _ _ _ _ _ _ h, heap_setCell_same _ _ _ _ _ _ h⟩
end Go.Proofs.YtkpmpnebmkeocaaGreatDoor
end
section
namespace Go.Proofs.YtkpmpnebmkeocaaGreatDoor
open Go.RowKit

theorem zset (w : World) (p : Addr) (u : Value) : (w.setCell p u).heap.size = w.heap.size := by simp
theorem ops1_at {w : World} {X : Nat → Prop} {g : Nat} {o : M.Opd} (h : w.heap[g]? = some (.cells #[.int .i64 o.k, .int .i64 o.n, .string o.s] 47 (0, 0))) (hx : ¬ X g) : OpsAt w X (.slice (some ⟨g, 0, none⟩) 1 1) [o] := by
  refine ⟨by simp, some ⟨g, 0, none⟩, 1, rfl, .inr ⟨g, 0, rfl, (Array.getElem?_eq_some_iff.1 h).1, ⟨hx, by simp [maxLen]⟩, fun i u hu => ?_⟩⟩
  rw [Lib.cell_of_heap h]
  have e : ([o].flatMap opCells) = [.int .i64 o.k, .int .i64 o.n, .string o.s] := rfl
  rw [e] at hu
  rw [Nat.zero_add]
  simpa using hu

set_option maxRecDepth 40000 in
set_option maxHeartbeats 3200000 in
theorem rstmt_none (N : Nat) (a : Option Addr) (cap : Nat) (ts : List M.Tok) (fin : Int) (d : Nat) (r : RSt) (i n : Nat) (c y : Int) (w : World) (h : RS ts fin d r i n c y) (hT : TokAt w (.slice a ts.length cap) ts) (hfew : ts.length ≤ 4398046511000) (kN : isNameR r = false) (kO : isR r M.kOut = false) (kR : isR r M.kReturn = false) (kI : isR r M.kIf = false) (kW : isR r M.kWhile = false) :
    Calls Tryz.prog 73 #[.agg #[.slice a ts.length cap, .int .i64 (i : Nat), .int .i64 fin, .int .i64 (n : Nat), .int .i64 c, .int .i64 y], .int .i64 (d : Nat)] w fun e w' => Below w.heap.size w w' ∧ ∃ (i' n' : Nat) (c' y' : Int) (v : Value) (t : M.Tr), e = .returned (.tuple #[.agg #[.slice a ts.length cap, .int .i64 (i' : Nat), .int .i64 fin, .int .i64 (n' : Nat), .int .i64 c', .int .i64 y'], v]) ∧ RS ts fin d (stR (stmtR N r)) i' n' c' y' ∧ stmEnc w t v w' ∧ ∀ S' t', stmtR N r = .ok (S', t') → t = t' := by
  have hi := h.lt
  have hn2 := h.lim
  have hbw0 := Below.refl w.heap.size w
  go_enter Tryz.func73, Tryz.ntmps73
  go_wp2_with fail
  refine (risName_any _ _ _ _ _ _ _ _ _ _ _ h (hT.keep (below_four _ _ _ _))).mono ?_
  rintro e w1 ⟨rfl, hb⟩
  obtain ⟨hP1, hQ1, hR1, hN1, hbn⟩ := four_new hb
  clear hb
  have hbw1 := hbw0.trans (hbn.mono hbw0.size)
  clear hbn 
  obtain ⟨x0, x1, x2, x3, x4, x5, xf⟩ := cells6 hP1
  rw [kN]
  go_wp2_with fail
  clear x0 x1 x2 x3 x4 x5 xf
  refine (ris_any _ _ _ _ _ _ _ _ _ _ _ h (hT.keep hbw1) M.kOut (by decide) (by decide)).mono ?_
  rintro e w2 ⟨rfl, hb⟩
  have hP2 := kept hb hP1
  have hQ2 := kept hb hQ1
  have hR2 := kept hb hR1
  have hN2 := kept hb hN1
  have hbw2 := hbw1.trans (hb.mono hbw1.size)
  clear hb hP1 hQ1 hR1 hN1
  obtain ⟨x0, x1, x2, x3, x4, x5, xf⟩ := cells6 hP2
  rw [kO]
  go_wp2_with fail
  clear x0 x1 x2 x3 x4 x5 xf
  refine (ris_any _ _ _ _ _ _ _ _ _ _ _ h (hT.keep hbw2) M.kReturn (by decide) (by decide)).mono ?_
  rintro e w3 ⟨rfl, hb⟩
  have hP3 := kept hb hP2
  have hQ3 := kept hb hQ2
  have hR3 := kept hb hR2
  have hN3 := kept hb hN2
  have hbw3 := hbw2.trans (hb.mono hbw2.size)
  clear hb hP2 hQ2 hR2 hN2
  obtain ⟨x0, x1, x2, x3, x4, x5, xf⟩ := cells6 hP3
  rw [kR]
  go_wp2_with fail
  clear x0 x1 x2 x3 x4 x5 xf
  refine (ris_any _ _ _ _ _ _ _ _ _ _ _ h (hT.keep hbw3) M.kIf (by decide) (by decide)).mono ?_
  rintro e w4 ⟨rfl, hb⟩
  have hP4 := kept hb hP3
  have hQ4 := kept hb hQ3
  have hR4 := kept hb hR3
  have hN4 := kept hb hN3
  have hbw4 := hbw3.trans (hb.mono hbw3.size)
  clear hb hP3 hQ3 hR3 hN3
  obtain ⟨x0, x1, x2, x3, x4, x5, xf⟩ := cells6 hP4
  rw [kI]
  go_wp2_with fail
  clear x0 x1 x2 x3 x4 x5 xf
  refine (ris_any _ _ _ _ _ _ _ _ _ _ _ h (hT.keep hbw4) M.kWhile (by decide) (by decide)).mono ?_
  rintro e w5 ⟨rfl, hb⟩
  have hP5 := kept hb hP4
  have hQ5 := kept hb hQ4
  have hR5 := kept hb hR4
  have hN5 := kept hb hN4
  have hbw5 := hbw4.trans (hb.mono hbw4.size)
  clear hb hP4 hQ4 hR4 hN4
  obtain ⟨x0, x1, x2, x3, x4, x5, xf⟩ := cells6 hP5
  rw [kW]
  go_wp2_with fail
  obtain ⟨n0, n1, n2, n3, n4, n5, n6, n7, nf, nz⟩ := cells8 hN5
  obtain ⟨q0, q1, q2, q3, q4, q5, qf⟩ := cells6 hQ5
  obtain ⟨z0, z1, z2, z3, z4, z5, z6, z7, zf, zz⟩ := cells8 hR5
  have hl := hlt_ hN5
  have e0 : w.heap.size < w5.heap.size := by omega
  have e1 : w.heap.size + 1 < w5.heap.size := by omega
  have KH : Hid (∀ W, Keep (fun b => b = w.heap.size + 1 ∨ b = w.heap.size + 1 + 1) w5 W → W.cell? ⟨w.heap.size, 0, none⟩ = some (.slice a ts.length cap) ∧ W.cell? ⟨w.heap.size, 1, none⟩ = some (.int .i64 (i : Nat)) ∧ W.cell? ⟨w.heap.size, 2, none⟩ = some (.int .i64 fin) ∧ W.cell? ⟨w.heap.size, 3, none⟩ = some (.int .i64 (n : Nat)) ∧ W.cell? ⟨w.heap.size, 4, none⟩ = some (.int .i64 c) ∧ W.cell? ⟨w.heap.size, 5, none⟩ = some (.int .i64 y) ∧ W.cell? ⟨w.heap.size + 1 + 1 + 1, 0, none⟩ = some (.int .i64 0) ∧ W.cell? ⟨w.heap.size + 1 + 1 + 1, 1, none⟩ = some (.string ⟨#[]⟩) ∧ W.cell? ⟨w.heap.size + 1 + 1 + 1, 2, none⟩ = some (.string ⟨#[]⟩) ∧ W.cell? ⟨w.heap.size + 1 + 1 + 1, 3, none⟩ = some (.string ⟨#[]⟩) ∧ W.cell? ⟨w.heap.size + 1 + 1 + 1, 4, none⟩ = some (.slice none 0 0) ∧ W.cell? ⟨w.heap.size + 1 + 1 + 1, 5, none⟩ = some (.slice none 0 0) ∧ W.cell? ⟨w.heap.size + 1 + 1 + 1, 6, none⟩ = some (.slice none 0 0) ∧ W.cell? ⟨w.heap.size + 1 + 1 + 1, 7, none⟩ = some (.slice none 0 0)) := fun W hk => by
    have e := fun (b i : Nat) (h1 : b < w5.heap.size) (h2 : ¬ (fun b => b = w.heap.size + 1 ∨ b = w.heap.size + 1 + 1) b) => World.cell?_of_block (w := w5) (a := ⟨b, i, none⟩) (hk.block b h1 h2)
    exact ⟨(e _ _ e0 (by simp <;> omega)).trans x0, (e _ _ e0 (by simp <;> omega)).trans x1, (e _ _ e0 (by simp <;> omega)).trans x2, (e _ _ e0 (by simp <;> omega)).trans x3, (e _ _ e0 (by simp <;> omega)).trans x4, (e _ _ e0 (by simp <;> omega)).trans x5, (e _ _ hl (by simp <;> omega)).trans n0, (e _ _ hl (by simp <;> omega)).trans n1, (e _ _ hl (by simp <;> omega)).trans n2, (e _ _ hl (by simp <;> omega)).trans n3, (e _ _ hl (by simp <;> omega)).trans n4, (e _ _ hl (by simp <;> omega)).trans n5, (e _ _ hl (by simp <;> omega)).trans n6, (e _ _ hl (by simp <;> omega)).trans n7⟩
  have FAIL : Hid (∀ W, Below w5.heap.size w5 W → Calls Tryz.prog 71 #[.agg #[.slice a ts.length cap, .int .i64 (i : Nat), .int .i64 fin, .int .i64 (n : Nat), .int .i64 c, .int .i64 y], .int .i64 20] W fun e w' => Below w5.heap.size w5 w' ∧ ∃ (c' y' : Int), e = .returned (.agg #[.slice a ts.length cap, .int .i64 (i : Nat), .int .i64 fin, .int .i64 (n : Nat), .int .i64 c', .int .i64 y']) ∧ RS ts fin d (failR r 20) i n c' y') := fun W hb => (rfail_any _ _ _ _ _ _ _ _ _ _ _ h (hT.keep (hbw5.trans (hb.mono hbw5.size))) 20 (by decide)).mono fun e w' ⟨g1, g2⟩ => ⟨hb.trans (g1.mono hb.size), g2⟩
  have HF := hid (st_none (N := N) kN kO kR kI kW)
  go_region_held3 (fun w' => w'.cell? ⟨w.heap.size, 0, none⟩ = some (.slice a ts.length cap) ∧ w'.cell? ⟨w.heap.size, 1, none⟩ = some (.int .i64 (i : Nat)) ∧ w'.cell? ⟨w.heap.size, 2, none⟩ = some (.int .i64 fin) ∧ w'.cell? ⟨w.heap.size, 3, none⟩ = some (.int .i64 (n : Nat)) ∧ w'.cell? ⟨w.heap.size, 4, none⟩ = some (.int .i64 c) ∧ w'.cell? ⟨w.heap.size, 5, none⟩ = some (.int .i64 y) ∧ w'.cell? ⟨w.heap.size + 1 + 1 + 1, 0, none⟩ = some (.int .i64 0) ∧ w'.cell? ⟨w.heap.size + 1 + 1 + 1, 1, none⟩ = some (.string ⟨#[]⟩) ∧ w'.cell? ⟨w.heap.size + 1 + 1 + 1, 2, none⟩ = some (.string ⟨#[]⟩) ∧ w'.cell? ⟨w.heap.size + 1 + 1 + 1, 3, none⟩ = some (.string ⟨#[]⟩) ∧ w'.cell? ⟨w.heap.size + 1 + 1 + 1, 4, none⟩ = some (.slice none 0 0) ∧ w'.cell? ⟨w.heap.size + 1 + 1 + 1, 5, none⟩ = some (.slice none 0 0) ∧ w'.cell? ⟨w.heap.size + 1 + 1 + 1, 6, none⟩ = some (.slice none 0 0) ∧ w'.cell? ⟨w.heap.size + 1 + 1 + 1, 7, none⟩ = some (.slice none 0 0)) (first | exact KH.out _ (by repeat (first | with_reducible exact keep_self | with_reducible exact KB | with_reducible refine keep_drew ?_ | with_reducible refine keep_alloc ?_ | with_reducible refine keep_setc ?_ (by first | omega | (simp; done) | (simp; omega)))) | go_keep) (first | (go_at_call 71; refine (FAIL.out _ (by repeat (first | with_reducible exact Below.refl _ _ | with_reducible exact BB | with_reducible refine Below.drew ?_ | with_reducible refine Below.alloc ?_ (by first | omega | (simp; done) | (simp; omega)) _))).mono ?_; rintro e w9 ⟨BB, c9, y9, rfl, h9⟩; have KB := Below.keepX (X := (fun b => b = w.heap.size + 1 ∨ b = w.heap.size + 1 + 1)) BB; obtain ⟨cc9, cf9⟩ := bcell BB; have lt9 := blt BB))
  all_goals
    have hbw9 := hbw5.trans (BB.mono hbw5.size)
    clear q0 q1 q2 q3 q4 q5 qf z0 z1 z2 z3 z4 z5 z6 z7 zf zz
    obtain ⟨q0, q1, q2, q3, q4, q5, qf⟩ := cells6 (kept BB hQ5)
    obtain ⟨z0, z1, z2, z3, z4, z5, z6, z7, zf, zz⟩ := cells8 (kept BB hR5)
    have e5 : w.heap.size < w9.heap.size := by omega
    have e6 : w.heap.size + 1 < w9.heap.size := by omega
    go_wp2_with fail
    refine bodyPost_ret (v := .tuple #[.agg #[.slice a ts.length cap, .int .i64 (i : Nat), .int .i64 fin, .int .i64 (n : Nat), .int .i64 c9, .int .i64 y9], .agg #[.int .i64 0, .string ⟨#[]⟩, .string ⟨#[]⟩, .string ⟨#[]⟩, .slice none 0 0, .slice none 0 0, .slice none 0 0, .slice none 0 0]]) (by simp [results, Tryz.results73, go_sem, q0, q1, q2, q3, q4, q5, z0, z1, z2, z3, z4, z5, z6, z7, e5, e6, zz]) rfl ⟨?_, i, n, c9, y9, _, M.one 0 M.em M.em M.em [] [] .nil .nil, rfl, by rw [HF.out.1]; exact h9, stmEnc_mk (OpsAt.nil _ _) (StrsAt.nil _ _), fun S' x e => absurd e (HF.out.2 _ _)⟩
    repeat (first | with_reducible exact hbw9 | with_reducible refine Below.setCell ?_ (by first | omega | (simp; done) | (simp; omega)) _ | with_reducible refine Below.drew ?_ | with_reducible refine Below.alloc ?_ (by first | omega | (simp; done) | (simp; omega)) _)

set_option maxRecDepth 40000 in
set_option maxHeartbeats 3200000 in
theorem rstmt_out (N : Nat) (a : Option Addr) (cap : Nat) (ts : List M.Tok) (fin : Int) (d : Nat) (r : RSt) (i n : Nat) (c y : Int) (w : World) (h : RS ts fin d r i n c y) (hT : TokAt w (.slice a ts.length cap) ts) (hfew : ts.length ≤ 4398046511000)  (kN : isNameR r = false) (kO : isR r M.kOut = true) (kR : isR r M.kReturn = false) (kI : isR r M.kIf = false) (kW : isR r M.kWhile = false) :
    Calls Tryz.prog 73 #[.agg #[.slice a ts.length cap, .int .i64 (i : Nat), .int .i64 fin, .int .i64 (n : Nat), .int .i64 c, .int .i64 y], .int .i64 (d : Nat)] w fun e w' => Below w.heap.size w w' ∧ ∃ (i' n' : Nat) (c' y' : Int) (v : Value) (t : M.Tr), e = .returned (.tuple #[.agg #[.slice a ts.length cap, .int .i64 (i' : Nat), .int .i64 fin, .int .i64 (n' : Nat), .int .i64 c', .int .i64 y'], v]) ∧ RS ts fin d (stR (stmtR N r)) i' n' c' y' ∧ stmEnc w t v w' ∧ ∀ S' t', stmtR N r = .ok (S', t') → t = t' := by
  have hi := h.lt
  have hn2 := h.lim
  obtain ⟨S, rfl⟩ := isR_ok kO
  have hc0 := (h.good S rfl).1
  have hy0 := (h.good S rfl).2.1
  subst hc0 hy0
  have HSn := hid h.idx.2.2
  have HSr := hid h.idx.1
  have hbw0 := Below.refl w.heap.size w
  go_enter Tryz.func73, Tryz.ntmps73
  go_wp2_with fail
  refine (risName_any _ _ _ _ _ _ _ _ _ _ _ h (hT.keep (below_four _ _ _ _))).mono ?_
  rintro e w1 ⟨rfl, hb⟩
  obtain ⟨hP1, hQ1, hR1, hN1, hbn⟩ := four_new hb
  clear hb
  have hbw1 := hbw0.trans (hbn.mono hbw0.size)
  clear hbn 
  obtain ⟨x0, x1, x2, x3, x4, x5, xf⟩ := cells6 hP1
  rw [kN]
  go_wp2_with fail
  clear x0 x1 x2 x3 x4 x5 xf
  refine (ris_any _ _ _ _ _ _ _ _ _ _ _ h (hT.keep hbw1) M.kOut (by decide) (by decide)).mono ?_
  rintro e w2 ⟨rfl, hb⟩
  have hP2 := kept hb hP1
  have hQ2 := kept hb hQ1
  have hR2 := kept hb hR1
  have hN2 := kept hb hN1
  have hbw2 := hbw1.trans (hb.mono hbw1.size)
  clear hb hP1 hQ1 hR1 hN1
  obtain ⟨x0, x1, x2, x3, x4, x5, xf⟩ := cells6 hP2
  rw [kO]
  by_cases hn : n = 2000
  · have hge : (2000 : Int) ≤ (n : Int) := by omega
    have HSn2 : Hid (S.n = 2000) := HSn.out.trans hn
    clear hn
    go_wp2_with fail
    obtain ⟨n0, n1, n2, n3, n4, n5, n6, n7, nf, nz⟩ := cells8 hN2
    obtain ⟨q0, q1, q2, q3, q4, q5, qf⟩ := cells6 hQ2
    obtain ⟨z0, z1, z2, z3, z4, z5, z6, z7, zf, zz⟩ := cells8 hR2
    have hl := hlt_ hN2
    have e0 : w.heap.size < w2.heap.size := by omega
    have e1 : w.heap.size + 1 < w2.heap.size := by omega
    have KH : Hid (∀ W, Keep (fun b => b = w.heap.size + 1 ∨ b = w.heap.size + 1 + 1) w2 W → W.cell? ⟨w.heap.size, 0, none⟩ = some (.slice a ts.length cap) ∧ W.cell? ⟨w.heap.size, 1, none⟩ = some (.int .i64 (i : Nat)) ∧ W.cell? ⟨w.heap.size, 2, none⟩ = some (.int .i64 fin) ∧ W.cell? ⟨w.heap.size, 3, none⟩ = some (.int .i64 (n : Nat)) ∧ W.cell? ⟨w.heap.size, 4, none⟩ = some (.int .i64 0) ∧ W.cell? ⟨w.heap.size, 5, none⟩ = some (.int .i64 0) ∧ W.cell? ⟨w.heap.size + 1 + 1 + 1, 0, none⟩ = some (.int .i64 0) ∧ W.cell? ⟨w.heap.size + 1 + 1 + 1, 1, none⟩ = some (.string ⟨#[]⟩) ∧ W.cell? ⟨w.heap.size + 1 + 1 + 1, 2, none⟩ = some (.string ⟨#[]⟩) ∧ W.cell? ⟨w.heap.size + 1 + 1 + 1, 3, none⟩ = some (.string ⟨#[]⟩) ∧ W.cell? ⟨w.heap.size + 1 + 1 + 1, 4, none⟩ = some (.slice none 0 0) ∧ W.cell? ⟨w.heap.size + 1 + 1 + 1, 5, none⟩ = some (.slice none 0 0) ∧ W.cell? ⟨w.heap.size + 1 + 1 + 1, 6, none⟩ = some (.slice none 0 0) ∧ W.cell? ⟨w.heap.size + 1 + 1 + 1, 7, none⟩ = some (.slice none 0 0)) := fun W hk => by
      have e := fun (b i : Nat) (h1 : b < w2.heap.size) (h2 : ¬ (fun b => b = w.heap.size + 1 ∨ b = w.heap.size + 1 + 1) b) => World.cell?_of_block (w := w2) (a := ⟨b, i, none⟩) (hk.block b h1 h2)
      exact ⟨(e _ _ e0 (by simp <;> omega)).trans x0, (e _ _ e0 (by simp <;> omega)).trans x1, (e _ _ e0 (by simp <;> omega)).trans x2, (e _ _ e0 (by simp <;> omega)).trans x3, (e _ _ e0 (by simp <;> omega)).trans x4, (e _ _ e0 (by simp <;> omega)).trans x5, (e _ _ hl (by simp <;> omega)).trans n0, (e _ _ hl (by simp <;> omega)).trans n1, (e _ _ hl (by simp <;> omega)).trans n2, (e _ _ hl (by simp <;> omega)).trans n3, (e _ _ hl (by simp <;> omega)).trans n4, (e _ _ hl (by simp <;> omega)).trans n5, (e _ _ hl (by simp <;> omega)).trans n6, (e _ _ hl (by simp <;> omega)).trans n7⟩
    have FAIL : Hid (∀ W, Below w2.heap.size w2 W → Calls Tryz.prog 71 #[.agg #[.slice a ts.length cap, .int .i64 (i : Nat), .int .i64 fin, .int .i64 (n : Nat), .int .i64 0, .int .i64 0], .int .i64 22] W fun e w' => Below w2.heap.size w2 w' ∧ ∃ (c' y' : Int), e = .returned (.agg #[.slice a ts.length cap, .int .i64 (i : Nat), .int .i64 fin, .int .i64 (n : Nat), .int .i64 c', .int .i64 y']) ∧ RS ts fin d (failR (.ok S) 22) i n c' y') := fun W hb => (rfail_any _ _ _ _ _ _ _ _ _ _ _ h (hT.keep (hbw2.trans (hb.mono hbw2.size))) 22 (by decide)).mono fun e w' ⟨g1, g2⟩ => ⟨hb.trans (g1.mono hb.size), g2⟩
    have HF := hid (st_full (N := N) (S := S) (by simp [atStmtR, kN, kO, kR, kI, kW]) HSn2.out)
    go_region_held3 (fun w' => w'.cell? ⟨w.heap.size, 0, none⟩ = some (.slice a ts.length cap) ∧ w'.cell? ⟨w.heap.size, 1, none⟩ = some (.int .i64 (i : Nat)) ∧ w'.cell? ⟨w.heap.size, 2, none⟩ = some (.int .i64 fin) ∧ w'.cell? ⟨w.heap.size, 3, none⟩ = some (.int .i64 (n : Nat)) ∧ w'.cell? ⟨w.heap.size, 4, none⟩ = some (.int .i64 0) ∧ w'.cell? ⟨w.heap.size, 5, none⟩ = some (.int .i64 0) ∧ w'.cell? ⟨w.heap.size + 1 + 1 + 1, 0, none⟩ = some (.int .i64 0) ∧ w'.cell? ⟨w.heap.size + 1 + 1 + 1, 1, none⟩ = some (.string ⟨#[]⟩) ∧ w'.cell? ⟨w.heap.size + 1 + 1 + 1, 2, none⟩ = some (.string ⟨#[]⟩) ∧ w'.cell? ⟨w.heap.size + 1 + 1 + 1, 3, none⟩ = some (.string ⟨#[]⟩) ∧ w'.cell? ⟨w.heap.size + 1 + 1 + 1, 4, none⟩ = some (.slice none 0 0) ∧ w'.cell? ⟨w.heap.size + 1 + 1 + 1, 5, none⟩ = some (.slice none 0 0) ∧ w'.cell? ⟨w.heap.size + 1 + 1 + 1, 6, none⟩ = some (.slice none 0 0) ∧ w'.cell? ⟨w.heap.size + 1 + 1 + 1, 7, none⟩ = some (.slice none 0 0)) (first | exact KH.out _ (by repeat (first | with_reducible exact keep_self | with_reducible exact KB | with_reducible refine keep_drew ?_ | with_reducible refine keep_alloc ?_ | with_reducible refine keep_setc ?_ (by first | omega | (simp; done) | (simp; omega)))) | go_keep) (first | (go_at_call 71; refine (FAIL.out _ (by repeat (first | with_reducible exact Below.refl _ _ | with_reducible exact BB | with_reducible refine Below.drew ?_ | with_reducible refine Below.alloc ?_ (by first | omega | (simp; done) | (simp; omega)) _))).mono ?_; rintro e w9 ⟨BB, c9, y9, rfl, h9⟩; have KB := Below.keepX (X := (fun b => b = w.heap.size + 1 ∨ b = w.heap.size + 1 + 1)) BB; obtain ⟨cc9, cf9⟩ := bcell BB; have lt9 := blt BB))
    all_goals
      have hbw9 := hbw2.trans (BB.mono hbw2.size)
      clear q0 q1 q2 q3 q4 q5 qf z0 z1 z2 z3 z4 z5 z6 z7 zf zz
      obtain ⟨q0, q1, q2, q3, q4, q5, qf⟩ := cells6 (kept BB hQ2)
      obtain ⟨z0, z1, z2, z3, z4, z5, z6, z7, zf, zz⟩ := cells8 (kept BB hR2)
      have e5 : w.heap.size < w9.heap.size := by omega
      have e6 : w.heap.size + 1 < w9.heap.size := by omega
      go_wp2_with fail
      refine bodyPost_ret (v := .tuple #[.agg #[.slice a ts.length cap, .int .i64 (i : Nat), .int .i64 fin, .int .i64 (n : Nat), .int .i64 c9, .int .i64 y9], .agg #[.int .i64 0, .string ⟨#[]⟩, .string ⟨#[]⟩, .string ⟨#[]⟩, .slice none 0 0, .slice none 0 0, .slice none 0 0, .slice none 0 0]]) (by simp [results, Tryz.results73, go_sem, q0, q1, q2, q3, q4, q5, z0, z1, z2, z3, z4, z5, z6, z7, e5, e6, zz]) rfl ⟨?_, i, n, c9, y9, _, M.one 0 M.em M.em M.em [] [] .nil .nil, rfl, by rw [HF.out.1]; exact h9, stmEnc_mk (OpsAt.nil _ _) (StrsAt.nil _ _), fun S' x e => absurd e (HF.out.2 _ _)⟩
      repeat (first | with_reducible exact hbw9 | with_reducible refine Below.setCell ?_ (by first | omega | (simp; done) | (simp; omega)) _ | with_reducible refine Below.drew ?_ | with_reducible refine Below.alloc ?_ (by first | omega | (simp; done) | (simp; omega)) _)
  · have hlt : n < 2000 := by omega
    have hlti : (n : Int) < 2000 := by omega
    have HSn2 : Hid (¬ S.n = 2000) := fun e => hn (HSn.out.symm.trans e)
    clear hn
    obtain ⟨n1, hn1⟩ : ∃ n1, n1 = n + 1 := ⟨_, rfl⟩
    have hm : RS ts fin d (.ok S.more) i n1 0 0 := by rw [hn1]; exact (h.more hlt).2.2.2
    have HN1 := hid hn1
    clear hn1
    go_wp2_with fail
    rw [show ((n : Int) + 1) = (n1 : Int) by have := HN1.out; omega]
    clear x0 x1 x2 x3 x4 x5 xf
    have hl2 := hlt_ hN2
    have hP3 := (st_set3 hP2 (.int .i64 (n1 : Nat))).1
    have hQ3 := kset hQ2 (p := ⟨w.heap.size, 3, none⟩) (show w.heap.size + 1 ≠ w.heap.size by omega) (.int .i64 (n1 : Nat))
    have hR3 := kset hR2 (p := ⟨w.heap.size, 3, none⟩) (show w.heap.size + 1 + 1 ≠ w.heap.size by omega) (.int .i64 (n1 : Nat))
    have hN3 := kset hN2 (p := ⟨w.heap.size, 3, none⟩) (show w.heap.size + 1 + 1 + 1 ≠ w.heap.size by omega) (.int .i64 (n1 : Nat))
    have hbw3 := hbw2.setCell (p := ⟨w.heap.size, 3, none⟩) (show w.heap.size ≤ w.heap.size by omega) (.int .i64 (n1 : Nat))
    generalize hW : (w2.setCell ⟨w.heap.size, 3, none⟩ (.int .i64 (n1 : Nat))) = w3 at hP3 hQ3 hR3 hN3 hbw3 ⊢
    clear hW hP2 hQ2 hR2 hN2
    refine (ris_any _ _ _ _ _ _ _ _ _ _ _ hm (hT.keep hbw3) M.kIf (by decide) (by decide)).mono ?_
    rintro e w4 ⟨rfl, hb⟩
    have hP4 := kept hb hP3
    have hQ4 := kept hb hQ3
    have hR4 := kept hb hR3
    have hN4 := kept hb hN3
    have hbw4 := hbw3.trans (hb.mono hbw3.size)
    clear hb hP3 hQ3 hR3 hN3
    obtain ⟨x0, x1, x2, x3, x4, x5, xf⟩ := cells6 hP4
    rw [show isR (.ok S.more) M.kIf = false from kI]
    go_wp2_with fail
    clear x0 x1 x2 x3 x4 x5 xf
    refine (ris_any _ _ _ _ _ _ _ _ _ _ _ hm (hT.keep hbw4) M.kWhile (by decide) (by decide)).mono ?_
    rintro e w5 ⟨rfl, hb⟩
    have hP5 := kept hb hP4
    have hQ5 := kept hb hQ4
    have hR5 := kept hb hR4
    have hN5 := kept hb hN4
    have hbw5 := hbw4.trans (hb.mono hbw4.size)
    clear hb hP4 hQ4 hR4 hN4
    obtain ⟨x0, x1, x2, x3, x4, x5, xf⟩ := cells6 hP5
    rw [show isR (.ok S.more) M.kWhile = false from kW]
    go_wp2_with fail
    clear x0 x1 x2 x3 x4 x5 xf
    refine (ris_any _ _ _ _ _ _ _ _ _ _ _ hm (hT.keep hbw5) M.kOut (by decide) (by decide)).mono ?_
    rintro e w6 ⟨rfl, hb⟩
    have hP6 := kept hb hP5
    have hQ6 := kept hb hQ5
    have hR6 := kept hb hR5
    have hN6 := kept hb hN5
    have hbw6 := hbw5.trans (hb.mono hbw5.size)
    clear hb hP5 hQ5 hR5 hN5
    obtain ⟨x0, x1, x2, x3, x4, x5, xf⟩ := cells6 hP6
    rw [show isR (.ok S.more) M.kOut = true from kO]
    go_wp2_with fail
    clear x0 x1 x2 x3 x4 x5 xf
    refine (ris_any _ _ _ _ _ _ _ _ _ _ _ hm (hT.keep hbw6) M.kReturn (by decide) (by decide)).mono ?_
    rintro e w7 ⟨rfl, hb⟩
    have hP7 := kept hb hP6
    have hQ7 := kept hb hQ6
    have hR7 := kept hb hR6
    have hN7 := kept hb hN6
    have hbw7 := hbw6.trans (hb.mono hbw6.size)
    clear hb hP6 hQ6 hR6 hN6
    obtain ⟨x0, x1, x2, x3, x4, x5, xf⟩ := cells6 hP7
    rw [show isR (.ok S.more) M.kReturn = false from kR]
    go_wp2_with fail
    clear x0 x1 x2 x3 x4 x5 xf
    obtain ⟨_, _, hilt, hm2⟩ := hm.step (M.at_ne (show S.more.at M.kOut = true from kO) (by decide))
    obtain ⟨i1, hi1⟩ : ∃ i1, i1 = i + 1 := ⟨_, rfl⟩
    rw [← hi1] at hm2
    rw [show ((i : Int) + 1) = (i1 : Int) by omega]
    clear hi1
    have hP8 := (st_set3 hP7 (.int .i64 (i1 : Nat))).2
    have hQ8 := kset hQ7 (p := ⟨w.heap.size, 1, none⟩) (show w.heap.size + 1 ≠ w.heap.size by omega) (.int .i64 (i1 : Nat))
    have hR8 := kset hR7 (p := ⟨w.heap.size, 1, none⟩) (show w.heap.size + 1 + 1 ≠ w.heap.size by omega) (.int .i64 (i1 : Nat))
    have hN8 := kset hN7 (p := ⟨w.heap.size, 1, none⟩) (show w.heap.size + 1 + 1 + 1 ≠ w.heap.size by omega) (.int .i64 (i1 : Nat))
    have hbw8 := hbw7.setCell (p := ⟨w.heap.size, 1, none⟩) (show w.heap.size ≤ w.heap.size by omega) (.int .i64 (i1 : Nat))
    generalize hW : (w7.setCell ⟨w.heap.size, 1, none⟩ (.int .i64 (i1 : Nat))) = w8 at hP8 hQ8 hR8 hN8 hbw8 ⊢
    clear hW hP7 hQ7 hR7 hN7
    refine (roperand_any _ _ _ _ _ _ _ _ _ _ _ hm2 (hT.keep hbw8)).mono ?_
    rintro e w9 ⟨hb, ia, ca, ya, o, rfl, hq, ho⟩
    have hQ9 := kept hb hQ8
    have hR9 := kept hb hR8
    have hN9 := kept hb hN8
    have hbw9 := hbw8.trans (hb.mono hbw8.size)
    clear hb hQ8 hR8 hN8
    have HV := hid (st_out (N := N) kO HSn2.out ho)
    clear ho
    generalize stR (operandR (.ok S.more.adv)) = q at hq HV
    have hl9' := hlt_ hN9
    go_wp2_with fail
    obtain ⟨hA10, hO10, _, hbn⟩ := two_new (w := w9) (w1 := ((w9.alloc (.cells #[.slice a ts.length cap, .int .i64 (ia : Nat), .int .i64 fin, .int .i64 (n1 : Nat), .int .i64 ca, .int .i64 ya] 81)).alloc (.cells #[.int .i64 o.k, .int .i64 o.n, .string o.s] 47))) (Below.refl _ _)
    have hQ10 := kept hbn hQ9
    have hR10 := kept hbn hR9
    have hN10 := kept hbn hN9
    have hbw10 := hbw9.trans (hbn.mono hbw9.size)
    have hzz := hbn.size
    generalize hW : ((w9.alloc (.cells #[.slice a ts.length cap, .int .i64 (ia : Nat), .int .i64 fin, .int .i64 (n1 : Nat), .int .i64 ca, .int .i64 ya] 81)).alloc (.cells #[.int .i64 o.k, .int .i64 o.n, .string o.s] 47)) = w10 at hA10 hO10 hQ10 hR10 hN10 hbw10 hbn ⊢
    clear hW hbn hzz hQ9 hR9 hN9
    obtain ⟨x0, x1, x2, x3, x4, x5, xf⟩ := cells6 hA10
    obtain ⟨o0, o1, o2, of⟩ := tcells3 hO10
    obtain ⟨q0, q1, q2, q3, q4, q5, qf⟩ := cells6 hQ10
    obtain ⟨z0, z1, z2, z3, z4, z5, z6, z7, zf, zz⟩ := cells8 hR10
    have hlA := hlt_ hA10
    have hlX := hlt_ hO10
    have e0 : w.heap.size < w10.heap.size := by omega
    have e1 : w.heap.size + 1 < w10.heap.size := by omega
    have e2 : ¬ w10.heap.size < w.heap.size := by omega
    have KH : Hid (∀ W, Keep (fun b => b < w.heap.size + 1 + 1 + 1) w10 W → W.cell? ⟨w9.heap.size, 0, none⟩ = some (.slice a ts.length cap) ∧ W.cell? ⟨w9.heap.size, 1, none⟩ = some (.int .i64 (ia : Nat)) ∧ W.cell? ⟨w9.heap.size, 2, none⟩ = some (.int .i64 fin) ∧ W.cell? ⟨w9.heap.size, 3, none⟩ = some (.int .i64 (n1 : Nat)) ∧ W.cell? ⟨w9.heap.size, 4, none⟩ = some (.int .i64 ca) ∧ W.cell? ⟨w9.heap.size, 5, none⟩ = some (.int .i64 ya) ∧ W.cell? ⟨w9.heap.size + 1, 0, none⟩ = some (.int .i64 o.k) ∧ W.cell? ⟨w9.heap.size + 1, 1, none⟩ = some (.int .i64 o.n) ∧ W.cell? ⟨w9.heap.size + 1, 2, none⟩ = some (.string o.s)) := fun W hk => by
      have e := fun (b i : Nat) (h1 : b < w10.heap.size) (h2 : ¬ (fun b => b < w.heap.size + 1 + 1 + 1) b) => World.cell?_of_block (w := w10) (a := ⟨b, i, none⟩) (hk.block b h1 h2)
      exact ⟨(e _ _ hlA (by simp <;> omega)).trans x0, (e _ _ hlA (by simp <;> omega)).trans x1, (e _ _ hlA (by simp <;> omega)).trans x2, (e _ _ hlA (by simp <;> omega)).trans x3, (e _ _ hlA (by simp <;> omega)).trans x4, (e _ _ hlA (by simp <;> omega)).trans x5, (e _ _ hlX (by simp <;> omega)).trans o0, (e _ _ hlX (by simp <;> omega)).trans o1, (e _ _ hlX (by simp <;> omega)).trans o2⟩
    have NEED : Hid (∀ W, Below w10.heap.size w10 W → Calls Tryz.prog 55 #[.agg #[.slice a ts.length cap, .int .i64 (ia : Nat), .int .i64 fin, .int .i64 (n1 : Nat), .int .i64 ca, .int .i64 ya], .string (M.ch 59)] W fun e w' => Below W.heap.size W w' ∧ Below w10.heap.size w10 w' ∧ ∃ (i' : Nat) (c' y' : Int), e = .returned (.agg #[.slice a ts.length cap, .int .i64 (i' : Nat), .int .i64 fin, .int .i64 (n1 : Nat), .int .i64 c', .int .i64 y']) ∧ RS ts fin d (needR q (M.ch 59)) i' n1 c' y') := fun W hb => (rneed_any _ _ _ _ _ _ _ _ _ _ _ hq (hT.keep (hbw10.trans (hb.mono hbw10.size))) (M.ch 59) (by decide) (by decide)).mono fun e w' ⟨g1, g2⟩ => ⟨g1, hb.trans (g1.mono hb.size), g2⟩
    have NEED' := NEED
    unfold M.ch at NEED
    have HE := hid (take_end q (M.ch 59) (M.one 8 M.em M.em M.em [o] [] .nil .nil : M.Tr))
    clear x0 x1 x2 x3 x4 x5 xf
    go_region_held3 (fun w' => w'.cell? ⟨w9.heap.size, 0, none⟩ = some (.slice a ts.length cap) ∧ w'.cell? ⟨w9.heap.size, 1, none⟩ = some (.int .i64 (ia : Nat)) ∧ w'.cell? ⟨w9.heap.size, 2, none⟩ = some (.int .i64 fin) ∧ w'.cell? ⟨w9.heap.size, 3, none⟩ = some (.int .i64 (n1 : Nat)) ∧ w'.cell? ⟨w9.heap.size, 4, none⟩ = some (.int .i64 ca) ∧ w'.cell? ⟨w9.heap.size, 5, none⟩ = some (.int .i64 ya) ∧ w'.cell? ⟨w9.heap.size + 1, 0, none⟩ = some (.int .i64 o.k) ∧ w'.cell? ⟨w9.heap.size + 1, 1, none⟩ = some (.int .i64 o.n) ∧ w'.cell? ⟨w9.heap.size + 1, 2, none⟩ = some (.string o.s)) (first | exact KH.out _ (by repeat (first | with_reducible exact keep_self | with_reducible exact KB | with_reducible refine keep_drew ?_ | with_reducible refine keep_alloc ?_ | with_reducible refine keep_setc ?_ (by first | omega | (simp; done) | (simp; omega)))) | go_keep) (first | (go_at_call 55; refine (NEED.out _ (by repeat (first | with_reducible exact Below.refl _ _ | with_reducible exact BB | with_reducible refine Below.drew ?_ | with_reducible refine Below.alloc ?_ (by first | omega | (simp; done) | (simp; omega)) _))).mono ?_; rintro e w29 ⟨hb29, BB, i29, c29, y29, rfl, h29⟩; have KB := Below.keepX (X := (fun b => b < w.heap.size + 1 + 1 + 1)) BB; have HB := hid hb29; clear hb29 q0 q1 q2 q3 q4 q5 qf z0 z1 z2 z3 z4 z5 z6 z7 zf zz; obtain ⟨q0, q1, q2, q3, q4, q5, qf⟩ := cells6 (kept BB hQ10); obtain ⟨z0, z1, z2, z3, z4, z5, z6, z7, zf, zz⟩ := cells8 (kept BB hR10); have e5 := Nat.lt_of_lt_of_le e0 BB.size; have e6 := Nat.lt_of_lt_of_le e1 BB.size))
    · have hbw29 := hbw10.trans (BB.mono hbw10.size)
      have hs29 := BB.size
      have e7 : ¬ w29.heap.size < w.heap.size := by omega
      go_wp2_with fail
      refine bodyPost_ret (v := .tuple #[.agg #[.slice a ts.length cap, .int .i64 (i29 : Nat), .int .i64 fin, .int .i64 (n1 : Nat), .int .i64 c29, .int .i64 y29], .agg #[.int .i64 8, .string ⟨#[]⟩, .string ⟨#[]⟩, .string ⟨#[]⟩, .slice (some ⟨w29.heap.size, 0, none⟩) 1 1, .slice none 0 0, .slice none 0 0, .slice none 0 0]]) (by simp [results, Tryz.results73, go_sem, q0, q1, q2, q3, q4, q5, z0, z1, z2, z3, z4, z5, z6, z7, e5, e6, zz]) rfl ⟨?_, i29, n1, c29, y29, _, M.one 8 M.em M.em M.em [o] [] .nil .nil, rfl, by rw [HV.out, HE.out.1]; exact h29, stmEnc_mk ?_ (StrsAt.nil _ _), fun S' x e => by rw [HV.out] at e; exact HE.out.2 _ _ e⟩
      · repeat (first | with_reducible exact hbw29 | with_reducible refine Below.setCell ?_ (by first | omega | (simp; done) | (simp; omega)) _ | with_reducible refine Below.drew ?_ | with_reducible refine Below.alloc ?_ (by first | omega | (simp; done) | (simp; omega)) _)
      · exact ops1_new (by simp) e7
    · have hbw29 := hbw10.trans (BB.mono hbw10.size)
      have hs29 := BB.size
      have e7 : ¬ w29.heap.size < w.heap.size := by omega
      go_wp2_with fail
      refine bodyPost_ret (v := .tuple #[.agg #[.slice a ts.length cap, .int .i64 (i29 : Nat), .int .i64 fin, .int .i64 (n1 : Nat), .int .i64 c29, .int .i64 y29], .agg #[.int .i64 8, .string ⟨#[]⟩, .string ⟨#[]⟩, .string ⟨#[]⟩, .slice (some ⟨w29.heap.size, 0, none⟩) 1 1, .slice none 0 0, .slice none 0 0, .slice none 0 0]]) (by simp [results, Tryz.results73, go_sem, q0, q1, q2, q3, q4, q5, z0, z1, z2, z3, z4, z5, z6, z7, e5, e6, zz]) rfl ⟨?_, i29, n1, c29, y29, _, M.one 8 M.em M.em M.em [o] [] .nil .nil, rfl, by rw [HV.out, HE.out.1]; exact h29, stmEnc_mk ?_ (StrsAt.nil _ _), fun S' x e => by rw [HV.out] at e; exact HE.out.2 _ _ e⟩
      · repeat (first | with_reducible exact hbw29 | with_reducible refine Below.setCell ?_ (by first | omega | (simp; done) | (simp; omega)) _ | with_reducible refine Below.drew ?_ | with_reducible refine Below.alloc ?_ (by first | omega | (simp; done) | (simp; omega)) _)
      · exact ops1_new (by simp) e7
    · have hbw29 := hbw10.trans (BB.mono hbw10.size)
      have hs29 := BB.size
      have e7 : ¬ w29.heap.size < w.heap.size := by omega
      go_wp2_with fail
      have hN29 := (one_new (undrew HB.out)).1
      refine bodyPost_ret (v := .tuple #[.agg #[.slice a ts.length cap, .int .i64 (i29 : Nat), .int .i64 fin, .int .i64 (n1 : Nat), .int .i64 c29, .int .i64 y29], .agg #[.int .i64 8, .string ⟨#[]⟩, .string ⟨#[]⟩, .string ⟨#[]⟩, .slice (some ⟨w10.heap.size, 0, none⟩) 1 1, .slice none 0 0, .slice none 0 0, .slice none 0 0]]) (by simp [results, Tryz.results73, go_sem, q0, q1, q2, q3, q4, q5, z0, z1, z2, z3, z4, z5, z6, z7, e5, e6, zz]) rfl ⟨?_, i29, n1, c29, y29, _, M.one 8 M.em M.em M.em [o] [] .nil .nil, rfl, by rw [HV.out, HE.out.1]; exact h29, stmEnc_mk ?_ (StrsAt.nil _ _), fun S' x e => by rw [HV.out] at e; exact HE.out.2 _ _ e⟩
      · repeat (first | with_reducible exact hbw29 | with_reducible refine Below.setCell ?_ (by first | omega | (simp; done) | (simp; omega)) _ | with_reducible refine Below.drew ?_ | with_reducible refine Below.alloc ?_ (by first | omega | (simp; done) | (simp; omega)) _)
      · refine ((ops1_at (X := fun b => b < w.heap.size + 1 + 1 + 1) hN29 (by omega)).keep ?_).weak fun b _ hx hy => hx (by have : b < w.heap.size := hy; omega)
        repeat (first | with_reducible exact keep_self | with_reducible refine keep_drew ?_ | with_reducible refine keep_alloc ?_ | with_reducible refine keep_setc ?_ (by first | omega | (simp; done) | (simp; omega)))

set_option maxRecDepth 40000 in
set_option maxHeartbeats 3200000 in
theorem rstmt_return (N : Nat) (a : Option Addr) (cap : Nat) (ts : List M.Tok) (fin : Int) (d : Nat) (r : RSt) (i n : Nat) (c y : Int) (w : World) (h : RS ts fin d r i n c y) (hT : TokAt w (.slice a ts.length cap) ts) (hfew : ts.length ≤ 4398046511000)  (kN : isNameR r = false) (kO : isR r M.kOut = false) (kR : isR r M.kReturn = true) (kI : isR r M.kIf = false) (kW : isR r M.kWhile = false) :
    Calls Tryz.prog 73 #[.agg #[.slice a ts.length cap, .int .i64 (i : Nat), .int .i64 fin, .int .i64 (n : Nat), .int .i64 c, .int .i64 y], .int .i64 (d : Nat)] w fun e w' => Below w.heap.size w w' ∧ ∃ (i' n' : Nat) (c' y' : Int) (v : Value) (t : M.Tr), e = .returned (.tuple #[.agg #[.slice a ts.length cap, .int .i64 (i' : Nat), .int .i64 fin, .int .i64 (n' : Nat), .int .i64 c', .int .i64 y'], v]) ∧ RS ts fin d (stR (stmtR N r)) i' n' c' y' ∧ stmEnc w t v w' ∧ ∀ S' t', stmtR N r = .ok (S', t') → t = t' := by
  have hi := h.lt
  have hn2 := h.lim
  obtain ⟨S, rfl⟩ := isR_ok kR
  have hc0 := (h.good S rfl).1
  have hy0 := (h.good S rfl).2.1
  subst hc0 hy0
  have HSn := hid h.idx.2.2
  have HSr := hid h.idx.1
  have hbw0 := Below.refl w.heap.size w
  go_enter Tryz.func73, Tryz.ntmps73
  go_wp2_with fail
  refine (risName_any _ _ _ _ _ _ _ _ _ _ _ h (hT.keep (below_four _ _ _ _))).mono ?_
  rintro e w1 ⟨rfl, hb⟩
  obtain ⟨hP1, hQ1, hR1, hN1, hbn⟩ := four_new hb
  clear hb
  have hbw1 := hbw0.trans (hbn.mono hbw0.size)
  clear hbn 
  obtain ⟨x0, x1, x2, x3, x4, x5, xf⟩ := cells6 hP1
  rw [kN]
  go_wp2_with fail
  clear x0 x1 x2 x3 x4 x5 xf
  refine (ris_any _ _ _ _ _ _ _ _ _ _ _ h (hT.keep hbw1) M.kOut (by decide) (by decide)).mono ?_
  rintro e w2 ⟨rfl, hb⟩
  have hP2 := kept hb hP1
  have hQ2 := kept hb hQ1
  have hR2 := kept hb hR1
  have hN2 := kept hb hN1
  have hbw2 := hbw1.trans (hb.mono hbw1.size)
  clear hb hP1 hQ1 hR1 hN1
  obtain ⟨x0, x1, x2, x3, x4, x5, xf⟩ := cells6 hP2
  rw [kO]
  go_wp2_with fail
  clear x0 x1 x2 x3 x4 x5 xf
  refine (ris_any _ _ _ _ _ _ _ _ _ _ _ h (hT.keep hbw2) M.kReturn (by decide) (by decide)).mono ?_
  rintro e w3 ⟨rfl, hb⟩
  have hP3 := kept hb hP2
  have hQ3 := kept hb hQ2
  have hR3 := kept hb hR2
  have hN3 := kept hb hN2
  have hbw3 := hbw2.trans (hb.mono hbw2.size)
  clear hb hP2 hQ2 hR2 hN2
  obtain ⟨x0, x1, x2, x3, x4, x5, xf⟩ := cells6 hP3
  rw [kR]
  by_cases hn : n = 2000
  · have hge : (2000 : Int) ≤ (n : Int) := by omega
    have HSn2 : Hid (S.n = 2000) := HSn.out.trans hn
    clear hn
    go_wp2_with fail
    obtain ⟨n0, n1, n2, n3, n4, n5, n6, n7, nf, nz⟩ := cells8 hN3
    obtain ⟨q0, q1, q2, q3, q4, q5, qf⟩ := cells6 hQ3
    obtain ⟨z0, z1, z2, z3, z4, z5, z6, z7, zf, zz⟩ := cells8 hR3
    have hl := hlt_ hN3
    have e0 : w.heap.size < w3.heap.size := by omega
    have e1 : w.heap.size + 1 < w3.heap.size := by omega
    have KH : Hid (∀ W, Keep (fun b => b = w.heap.size + 1 ∨ b = w.heap.size + 1 + 1) w3 W → W.cell? ⟨w.heap.size, 0, none⟩ = some (.slice a ts.length cap) ∧ W.cell? ⟨w.heap.size, 1, none⟩ = some (.int .i64 (i : Nat)) ∧ W.cell? ⟨w.heap.size, 2, none⟩ = some (.int .i64 fin) ∧ W.cell? ⟨w.heap.size, 3, none⟩ = some (.int .i64 (n : Nat)) ∧ W.cell? ⟨w.heap.size, 4, none⟩ = some (.int .i64 0) ∧ W.cell? ⟨w.heap.size, 5, none⟩ = some (.int .i64 0) ∧ W.cell? ⟨w.heap.size + 1 + 1 + 1, 0, none⟩ = some (.int .i64 0) ∧ W.cell? ⟨w.heap.size + 1 + 1 + 1, 1, none⟩ = some (.string ⟨#[]⟩) ∧ W.cell? ⟨w.heap.size + 1 + 1 + 1, 2, none⟩ = some (.string ⟨#[]⟩) ∧ W.cell? ⟨w.heap.size + 1 + 1 + 1, 3, none⟩ = some (.string ⟨#[]⟩) ∧ W.cell? ⟨w.heap.size + 1 + 1 + 1, 4, none⟩ = some (.slice none 0 0) ∧ W.cell? ⟨w.heap.size + 1 + 1 + 1, 5, none⟩ = some (.slice none 0 0) ∧ W.cell? ⟨w.heap.size + 1 + 1 + 1, 6, none⟩ = some (.slice none 0 0) ∧ W.cell? ⟨w.heap.size + 1 + 1 + 1, 7, none⟩ = some (.slice none 0 0)) := fun W hk => by
      have e := fun (b i : Nat) (h1 : b < w3.heap.size) (h2 : ¬ (fun b => b = w.heap.size + 1 ∨ b = w.heap.size + 1 + 1) b) => World.cell?_of_block (w := w3) (a := ⟨b, i, none⟩) (hk.block b h1 h2)
      exact ⟨(e _ _ e0 (by simp <;> omega)).trans x0, (e _ _ e0 (by simp <;> omega)).trans x1, (e _ _ e0 (by simp <;> omega)).trans x2, (e _ _ e0 (by simp <;> omega)).trans x3, (e _ _ e0 (by simp <;> omega)).trans x4, (e _ _ e0 (by simp <;> omega)).trans x5, (e _ _ hl (by simp <;> omega)).trans n0, (e _ _ hl (by simp <;> omega)).trans n1, (e _ _ hl (by simp <;> omega)).trans n2, (e _ _ hl (by simp <;> omega)).trans n3, (e _ _ hl (by simp <;> omega)).trans n4, (e _ _ hl (by simp <;> omega)).trans n5, (e _ _ hl (by simp <;> omega)).trans n6, (e _ _ hl (by simp <;> omega)).trans n7⟩
    have FAIL : Hid (∀ W, Below w3.heap.size w3 W → Calls Tryz.prog 71 #[.agg #[.slice a ts.length cap, .int .i64 (i : Nat), .int .i64 fin, .int .i64 (n : Nat), .int .i64 0, .int .i64 0], .int .i64 22] W fun e w' => Below w3.heap.size w3 w' ∧ ∃ (c' y' : Int), e = .returned (.agg #[.slice a ts.length cap, .int .i64 (i : Nat), .int .i64 fin, .int .i64 (n : Nat), .int .i64 c', .int .i64 y']) ∧ RS ts fin d (failR (.ok S) 22) i n c' y') := fun W hb => (rfail_any _ _ _ _ _ _ _ _ _ _ _ h (hT.keep (hbw3.trans (hb.mono hbw3.size))) 22 (by decide)).mono fun e w' ⟨g1, g2⟩ => ⟨hb.trans (g1.mono hb.size), g2⟩
    have HF := hid (st_full (N := N) (S := S) (by simp [atStmtR, kN, kO, kR, kI, kW]) HSn2.out)
    go_region_held3 (fun w' => w'.cell? ⟨w.heap.size, 0, none⟩ = some (.slice a ts.length cap) ∧ w'.cell? ⟨w.heap.size, 1, none⟩ = some (.int .i64 (i : Nat)) ∧ w'.cell? ⟨w.heap.size, 2, none⟩ = some (.int .i64 fin) ∧ w'.cell? ⟨w.heap.size, 3, none⟩ = some (.int .i64 (n : Nat)) ∧ w'.cell? ⟨w.heap.size, 4, none⟩ = some (.int .i64 0) ∧ w'.cell? ⟨w.heap.size, 5, none⟩ = some (.int .i64 0) ∧ w'.cell? ⟨w.heap.size + 1 + 1 + 1, 0, none⟩ = some (.int .i64 0) ∧ w'.cell? ⟨w.heap.size + 1 + 1 + 1, 1, none⟩ = some (.string ⟨#[]⟩) ∧ w'.cell? ⟨w.heap.size + 1 + 1 + 1, 2, none⟩ = some (.string ⟨#[]⟩) ∧ w'.cell? ⟨w.heap.size + 1 + 1 + 1, 3, none⟩ = some (.string ⟨#[]⟩) ∧ w'.cell? ⟨w.heap.size + 1 + 1 + 1, 4, none⟩ = some (.slice none 0 0) ∧ w'.cell? ⟨w.heap.size + 1 + 1 + 1, 5, none⟩ = some (.slice none 0 0) ∧ w'.cell? ⟨w.heap.size + 1 + 1 + 1, 6, none⟩ = some (.slice none 0 0) ∧ w'.cell? ⟨w.heap.size + 1 + 1 + 1, 7, none⟩ = some (.slice none 0 0)) (first | exact KH.out _ (by repeat (first | with_reducible exact keep_self | with_reducible exact KB | with_reducible refine keep_drew ?_ | with_reducible refine keep_alloc ?_ | with_reducible refine keep_setc ?_ (by first | omega | (simp; done) | (simp; omega)))) | go_keep) (first | (go_at_call 71; refine (FAIL.out _ (by repeat (first | with_reducible exact Below.refl _ _ | with_reducible exact BB | with_reducible refine Below.drew ?_ | with_reducible refine Below.alloc ?_ (by first | omega | (simp; done) | (simp; omega)) _))).mono ?_; rintro e w9 ⟨BB, c9, y9, rfl, h9⟩; have KB := Below.keepX (X := (fun b => b = w.heap.size + 1 ∨ b = w.heap.size + 1 + 1)) BB; obtain ⟨cc9, cf9⟩ := bcell BB; have lt9 := blt BB))
    all_goals
      have hbw9 := hbw3.trans (BB.mono hbw3.size)
      clear q0 q1 q2 q3 q4 q5 qf z0 z1 z2 z3 z4 z5 z6 z7 zf zz
      obtain ⟨q0, q1, q2, q3, q4, q5, qf⟩ := cells6 (kept BB hQ3)
      obtain ⟨z0, z1, z2, z3, z4, z5, z6, z7, zf, zz⟩ := cells8 (kept BB hR3)
      have e5 : w.heap.size < w9.heap.size := by omega
      have e6 : w.heap.size + 1 < w9.heap.size := by omega
      go_wp2_with fail
      refine bodyPost_ret (v := .tuple #[.agg #[.slice a ts.length cap, .int .i64 (i : Nat), .int .i64 fin, .int .i64 (n : Nat), .int .i64 c9, .int .i64 y9], .agg #[.int .i64 0, .string ⟨#[]⟩, .string ⟨#[]⟩, .string ⟨#[]⟩, .slice none 0 0, .slice none 0 0, .slice none 0 0, .slice none 0 0]]) (by simp [results, Tryz.results73, go_sem, q0, q1, q2, q3, q4, q5, z0, z1, z2, z3, z4, z5, z6, z7, e5, e6, zz]) rfl ⟨?_, i, n, c9, y9, _, M.one 0 M.em M.em M.em [] [] .nil .nil, rfl, by rw [HF.out.1]; exact h9, stmEnc_mk (OpsAt.nil _ _) (StrsAt.nil _ _), fun S' x e => absurd e (HF.out.2 _ _)⟩
      repeat (first | with_reducible exact hbw9 | with_reducible refine Below.setCell ?_ (by first | omega | (simp; done) | (simp; omega)) _ | with_reducible refine Below.drew ?_ | with_reducible refine Below.alloc ?_ (by first | omega | (simp; done) | (simp; omega)) _)
  · have hlt : n < 2000 := by omega
    have hlti : (n : Int) < 2000 := by omega
    have HSn2 : Hid (¬ S.n = 2000) := fun e => hn (HSn.out.symm.trans e)
    clear hn
    obtain ⟨n1, hn1⟩ : ∃ n1, n1 = n + 1 := ⟨_, rfl⟩
    have hm : RS ts fin d (.ok S.more) i n1 0 0 := by rw [hn1]; exact (h.more hlt).2.2.2
    have HN1 := hid hn1
    clear hn1
    go_wp2_with fail
    rw [show ((n : Int) + 1) = (n1 : Int) by have := HN1.out; omega]
    clear x0 x1 x2 x3 x4 x5 xf
    have hl3 := hlt_ hN3
    have hP4 := (st_set3 hP3 (.int .i64 (n1 : Nat))).1
    have hQ4 := kset hQ3 (p := ⟨w.heap.size, 3, none⟩) (show w.heap.size + 1 ≠ w.heap.size by omega) (.int .i64 (n1 : Nat))
    have hR4 := kset hR3 (p := ⟨w.heap.size, 3, none⟩) (show w.heap.size + 1 + 1 ≠ w.heap.size by omega) (.int .i64 (n1 : Nat))
    have hN4 := kset hN3 (p := ⟨w.heap.size, 3, none⟩) (show w.heap.size + 1 + 1 + 1 ≠ w.heap.size by omega) (.int .i64 (n1 : Nat))
    have hbw4 := hbw3.setCell (p := ⟨w.heap.size, 3, none⟩) (show w.heap.size ≤ w.heap.size by omega) (.int .i64 (n1 : Nat))
    generalize hW : (w3.setCell ⟨w.heap.size, 3, none⟩ (.int .i64 (n1 : Nat))) = w4 at hP4 hQ4 hR4 hN4 hbw4 ⊢
    clear hW hP3 hQ3 hR3 hN3
    refine (ris_any _ _ _ _ _ _ _ _ _ _ _ hm (hT.keep hbw4) M.kIf (by decide) (by decide)).mono ?_
    rintro e w5 ⟨rfl, hb⟩
    have hP5 := kept hb hP4
    have hQ5 := kept hb hQ4
    have hR5 := kept hb hR4
    have hN5 := kept hb hN4
    have hbw5 := hbw4.trans (hb.mono hbw4.size)
    clear hb hP4 hQ4 hR4 hN4
    obtain ⟨x0, x1, x2, x3, x4, x5, xf⟩ := cells6 hP5
    rw [show isR (.ok S.more) M.kIf = false from kI]
    go_wp2_with fail
    clear x0 x1 x2 x3 x4 x5 xf
    refine (ris_any _ _ _ _ _ _ _ _ _ _ _ hm (hT.keep hbw5) M.kWhile (by decide) (by decide)).mono ?_
    rintro e w6 ⟨rfl, hb⟩
    have hP6 := kept hb hP5
    have hQ6 := kept hb hQ5
    have hR6 := kept hb hR5
    have hN6 := kept hb hN5
    have hbw6 := hbw5.trans (hb.mono hbw5.size)
    clear hb hP5 hQ5 hR5 hN5
    obtain ⟨x0, x1, x2, x3, x4, x5, xf⟩ := cells6 hP6
    rw [show isR (.ok S.more) M.kWhile = false from kW]
    go_wp2_with fail
    clear x0 x1 x2 x3 x4 x5 xf
    refine (ris_any _ _ _ _ _ _ _ _ _ _ _ hm (hT.keep hbw6) M.kOut (by decide) (by decide)).mono ?_
    rintro e w7 ⟨rfl, hb⟩
    have hP7 := kept hb hP6
    have hQ7 := kept hb hQ6
    have hR7 := kept hb hR6
    have hN7 := kept hb hN6
    have hbw7 := hbw6.trans (hb.mono hbw6.size)
    clear hb hP6 hQ6 hR6 hN6
    obtain ⟨x0, x1, x2, x3, x4, x5, xf⟩ := cells6 hP7
    rw [show isR (.ok S.more) M.kOut = false from kO]
    go_wp2_with fail
    clear x0 x1 x2 x3 x4 x5 xf
    refine (ris_any _ _ _ _ _ _ _ _ _ _ _ hm (hT.keep hbw7) M.kReturn (by decide) (by decide)).mono ?_
    rintro e w8 ⟨rfl, hb⟩
    have hP8 := kept hb hP7
    have hQ8 := kept hb hQ7
    have hR8 := kept hb hR7
    have hN8 := kept hb hN7
    have hbw8 := hbw7.trans (hb.mono hbw7.size)
    clear hb hP7 hQ7 hR7 hN7
    obtain ⟨x0, x1, x2, x3, x4, x5, xf⟩ := cells6 hP8
    rw [show isR (.ok S.more) M.kReturn = true from kR]
    go_wp2_with fail
    clear x0 x1 x2 x3 x4 x5 xf
    refine (ris_any _ _ _ _ _ _ _ _ _ _ _ hm (hT.keep hbw8) M.kReturn (by decide) (by decide)).mono ?_
    rintro e w9 ⟨rfl, hb⟩
    have hP9 := kept hb hP8
    have hQ9 := kept hb hQ8
    have hR9 := kept hb hR8
    have hN9 := kept hb hN8
    have hbw9 := hbw8.trans (hb.mono hbw8.size)
    clear hb hP8 hQ8 hR8 hN8
    obtain ⟨x0, x1, x2, x3, x4, x5, xf⟩ := cells6 hP9
    rw [show isR (.ok S.more) M.kReturn = true from kR]
    go_wp2_with fail
    clear x0 x1 x2 x3 x4 x5 xf
    obtain ⟨_, _, hilt, hm2⟩ := hm.step (M.at_ne (show S.more.at M.kReturn = true from kR) (by decide))
    obtain ⟨i1, hi1⟩ : ∃ i1, i1 = i + 1 := ⟨_, rfl⟩
    rw [← hi1] at hm2
    rw [show ((i : Int) + 1) = (i1 : Int) by omega]
    clear hi1
    have hP10 := (st_set3 hP9 (.int .i64 (i1 : Nat))).2
    have hQ10 := kset hQ9 (p := ⟨w.heap.size, 1, none⟩) (show w.heap.size + 1 ≠ w.heap.size by omega) (.int .i64 (i1 : Nat))
    have hR10 := kset hR9 (p := ⟨w.heap.size, 1, none⟩) (show w.heap.size + 1 + 1 ≠ w.heap.size by omega) (.int .i64 (i1 : Nat))
    have hN10 := kset hN9 (p := ⟨w.heap.size, 1, none⟩) (show w.heap.size + 1 + 1 + 1 ≠ w.heap.size by omega) (.int .i64 (i1 : Nat))
    have hbw10 := hbw9.setCell (p := ⟨w.heap.size, 1, none⟩) (show w.heap.size ≤ w.heap.size by omega) (.int .i64 (i1 : Nat))
    generalize hW : (w9.setCell ⟨w.heap.size, 1, none⟩ (.int .i64 (i1 : Nat))) = w10 at hP10 hQ10 hR10 hN10 hbw10 ⊢
    clear hW hP9 hQ9 hR9 hN9
    refine (roperand_any _ _ _ _ _ _ _ _ _ _ _ hm2 (hT.keep hbw10)).mono ?_
    rintro e w11 ⟨hb, ia, ca, ya, o, rfl, hq, ho⟩
    have hQ11 := kept hb hQ10
    have hR11 := kept hb hR10
    have hN11 := kept hb hN10
    have hbw11 := hbw10.trans (hb.mono hbw10.size)
    clear hb hQ10 hR10 hN10
    have HV := hid (st_return (N := N) kR HSn2.out ho)
    clear ho
    generalize stR (operandR (.ok S.more.adv)) = q at hq HV
    have hl11' := hlt_ hN11
    go_wp2_with fail
    obtain ⟨hA12, hO12, _, hbn⟩ := two_new (w := w11) (w1 := ((w11.alloc (.cells #[.slice a ts.length cap, .int .i64 (ia : Nat), .int .i64 fin, .int .i64 (n1 : Nat), .int .i64 ca, .int .i64 ya] 81)).alloc (.cells #[.int .i64 o.k, .int .i64 o.n, .string o.s] 47))) (Below.refl _ _)
    have hQ12 := kept hbn hQ11
    have hR12 := kept hbn hR11
    have hN12 := kept hbn hN11
    have hbw12 := hbw11.trans (hbn.mono hbw11.size)
    have hzz := hbn.size
    generalize hW : ((w11.alloc (.cells #[.slice a ts.length cap, .int .i64 (ia : Nat), .int .i64 fin, .int .i64 (n1 : Nat), .int .i64 ca, .int .i64 ya] 81)).alloc (.cells #[.int .i64 o.k, .int .i64 o.n, .string o.s] 47)) = w12 at hA12 hO12 hQ12 hR12 hN12 hbw12 hbn ⊢
    clear hW hbn hzz hQ11 hR11 hN11
    obtain ⟨x0, x1, x2, x3, x4, x5, xf⟩ := cells6 hA12
    obtain ⟨o0, o1, o2, of⟩ := tcells3 hO12
    obtain ⟨q0, q1, q2, q3, q4, q5, qf⟩ := cells6 hQ12
    obtain ⟨z0, z1, z2, z3, z4, z5, z6, z7, zf, zz⟩ := cells8 hR12
    have hlA := hlt_ hA12
    have hlX := hlt_ hO12
    have e0 : w.heap.size < w12.heap.size := by omega
    have e1 : w.heap.size + 1 < w12.heap.size := by omega
    have e2 : ¬ w12.heap.size < w.heap.size := by omega
    have KH : Hid (∀ W, Keep (fun b => b < w.heap.size + 1 + 1 + 1) w12 W → W.cell? ⟨w11.heap.size, 0, none⟩ = some (.slice a ts.length cap) ∧ W.cell? ⟨w11.heap.size, 1, none⟩ = some (.int .i64 (ia : Nat)) ∧ W.cell? ⟨w11.heap.size, 2, none⟩ = some (.int .i64 fin) ∧ W.cell? ⟨w11.heap.size, 3, none⟩ = some (.int .i64 (n1 : Nat)) ∧ W.cell? ⟨w11.heap.size, 4, none⟩ = some (.int .i64 ca) ∧ W.cell? ⟨w11.heap.size, 5, none⟩ = some (.int .i64 ya) ∧ W.cell? ⟨w11.heap.size + 1, 0, none⟩ = some (.int .i64 o.k) ∧ W.cell? ⟨w11.heap.size + 1, 1, none⟩ = some (.int .i64 o.n) ∧ W.cell? ⟨w11.heap.size + 1, 2, none⟩ = some (.string o.s)) := fun W hk => by
      have e := fun (b i : Nat) (h1 : b < w12.heap.size) (h2 : ¬ (fun b => b < w.heap.size + 1 + 1 + 1) b) => World.cell?_of_block (w := w12) (a := ⟨b, i, none⟩) (hk.block b h1 h2)
      exact ⟨(e _ _ hlA (by simp <;> omega)).trans x0, (e _ _ hlA (by simp <;> omega)).trans x1, (e _ _ hlA (by simp <;> omega)).trans x2, (e _ _ hlA (by simp <;> omega)).trans x3, (e _ _ hlA (by simp <;> omega)).trans x4, (e _ _ hlA (by simp <;> omega)).trans x5, (e _ _ hlX (by simp <;> omega)).trans o0, (e _ _ hlX (by simp <;> omega)).trans o1, (e _ _ hlX (by simp <;> omega)).trans o2⟩
    have NEED : Hid (∀ W, Below w12.heap.size w12 W → Calls Tryz.prog 55 #[.agg #[.slice a ts.length cap, .int .i64 (ia : Nat), .int .i64 fin, .int .i64 (n1 : Nat), .int .i64 ca, .int .i64 ya], .string (M.ch 59)] W fun e w' => Below W.heap.size W w' ∧ Below w12.heap.size w12 w' ∧ ∃ (i' : Nat) (c' y' : Int), e = .returned (.agg #[.slice a ts.length cap, .int .i64 (i' : Nat), .int .i64 fin, .int .i64 (n1 : Nat), .int .i64 c', .int .i64 y']) ∧ RS ts fin d (needR q (M.ch 59)) i' n1 c' y') := fun W hb => (rneed_any _ _ _ _ _ _ _ _ _ _ _ hq (hT.keep (hbw12.trans (hb.mono hbw12.size))) (M.ch 59) (by decide) (by decide)).mono fun e w' ⟨g1, g2⟩ => ⟨g1, hb.trans (g1.mono hb.size), g2⟩
    have NEED' := NEED
    unfold M.ch at NEED
    have HE := hid (take_end q (M.ch 59) (M.one 11 M.em M.em M.em [o] [] .nil .nil : M.Tr))
    clear x0 x1 x2 x3 x4 x5 xf
    go_region_held3 (fun w' => w'.cell? ⟨w11.heap.size, 0, none⟩ = some (.slice a ts.length cap) ∧ w'.cell? ⟨w11.heap.size, 1, none⟩ = some (.int .i64 (ia : Nat)) ∧ w'.cell? ⟨w11.heap.size, 2, none⟩ = some (.int .i64 fin) ∧ w'.cell? ⟨w11.heap.size, 3, none⟩ = some (.int .i64 (n1 : Nat)) ∧ w'.cell? ⟨w11.heap.size, 4, none⟩ = some (.int .i64 ca) ∧ w'.cell? ⟨w11.heap.size, 5, none⟩ = some (.int .i64 ya) ∧ w'.cell? ⟨w11.heap.size + 1, 0, none⟩ = some (.int .i64 o.k) ∧ w'.cell? ⟨w11.heap.size + 1, 1, none⟩ = some (.int .i64 o.n) ∧ w'.cell? ⟨w11.heap.size + 1, 2, none⟩ = some (.string o.s)) (first | exact KH.out _ (by repeat (first | with_reducible exact keep_self | with_reducible exact KB | with_reducible refine keep_drew ?_ | with_reducible refine keep_alloc ?_ | with_reducible refine keep_setc ?_ (by first | omega | (simp; done) | (simp; omega)))) | go_keep) (first | (go_at_call 55; refine (NEED.out _ (by repeat (first | with_reducible exact Below.refl _ _ | with_reducible exact BB | with_reducible refine Below.drew ?_ | with_reducible refine Below.alloc ?_ (by first | omega | (simp; done) | (simp; omega)) _))).mono ?_; rintro e w29 ⟨hb29, BB, i29, c29, y29, rfl, h29⟩; have KB := Below.keepX (X := (fun b => b < w.heap.size + 1 + 1 + 1)) BB; have HB := hid hb29; clear hb29 q0 q1 q2 q3 q4 q5 qf z0 z1 z2 z3 z4 z5 z6 z7 zf zz; obtain ⟨q0, q1, q2, q3, q4, q5, qf⟩ := cells6 (kept BB hQ12); obtain ⟨z0, z1, z2, z3, z4, z5, z6, z7, zf, zz⟩ := cells8 (kept BB hR12); have e5 := Nat.lt_of_lt_of_le e0 BB.size; have e6 := Nat.lt_of_lt_of_le e1 BB.size))
    · have hbw29 := hbw12.trans (BB.mono hbw12.size)
      have hs29 := BB.size
      have e7 : ¬ w29.heap.size < w.heap.size := by omega
      go_wp2_with fail
      refine bodyPost_ret (v := .tuple #[.agg #[.slice a ts.length cap, .int .i64 (i29 : Nat), .int .i64 fin, .int .i64 (n1 : Nat), .int .i64 c29, .int .i64 y29], .agg #[.int .i64 11, .string ⟨#[]⟩, .string ⟨#[]⟩, .string ⟨#[]⟩, .slice (some ⟨w29.heap.size, 0, none⟩) 1 1, .slice none 0 0, .slice none 0 0, .slice none 0 0]]) (by simp [results, Tryz.results73, go_sem, q0, q1, q2, q3, q4, q5, z0, z1, z2, z3, z4, z5, z6, z7, e5, e6, zz]) rfl ⟨?_, i29, n1, c29, y29, _, M.one 11 M.em M.em M.em [o] [] .nil .nil, rfl, by rw [HV.out, HE.out.1]; exact h29, stmEnc_mk ?_ (StrsAt.nil _ _), fun S' x e => by rw [HV.out] at e; exact HE.out.2 _ _ e⟩
      · repeat (first | with_reducible exact hbw29 | with_reducible refine Below.setCell ?_ (by first | omega | (simp; done) | (simp; omega)) _ | with_reducible refine Below.drew ?_ | with_reducible refine Below.alloc ?_ (by first | omega | (simp; done) | (simp; omega)) _)
      · exact ops1_new (by simp) e7
    · have hbw29 := hbw12.trans (BB.mono hbw12.size)
      have hs29 := BB.size
      have e7 : ¬ w29.heap.size < w.heap.size := by omega
      go_wp2_with fail
      refine bodyPost_ret (v := .tuple #[.agg #[.slice a ts.length cap, .int .i64 (i29 : Nat), .int .i64 fin, .int .i64 (n1 : Nat), .int .i64 c29, .int .i64 y29], .agg #[.int .i64 11, .string ⟨#[]⟩, .string ⟨#[]⟩, .string ⟨#[]⟩, .slice (some ⟨w29.heap.size, 0, none⟩) 1 1, .slice none 0 0, .slice none 0 0, .slice none 0 0]]) (by simp [results, Tryz.results73, go_sem, q0, q1, q2, q3, q4, q5, z0, z1, z2, z3, z4, z5, z6, z7, e5, e6, zz]) rfl ⟨?_, i29, n1, c29, y29, _, M.one 11 M.em M.em M.em [o] [] .nil .nil, rfl, by rw [HV.out, HE.out.1]; exact h29, stmEnc_mk ?_ (StrsAt.nil _ _), fun S' x e => by rw [HV.out] at e; exact HE.out.2 _ _ e⟩
      · repeat (first | with_reducible exact hbw29 | with_reducible refine Below.setCell ?_ (by first | omega | (simp; done) | (simp; omega)) _ | with_reducible refine Below.drew ?_ | with_reducible refine Below.alloc ?_ (by first | omega | (simp; done) | (simp; omega)) _)
      · exact ops1_new (by simp) e7
    · have hbw29 := hbw12.trans (BB.mono hbw12.size)
      have hs29 := BB.size
      have e7 : ¬ w29.heap.size < w.heap.size := by omega
      go_wp2_with fail
      have hN29 := (one_new (undrew HB.out)).1
      refine bodyPost_ret (v := .tuple #[.agg #[.slice a ts.length cap, .int .i64 (i29 : Nat), .int .i64 fin, .int .i64 (n1 : Nat), .int .i64 c29, .int .i64 y29], .agg #[.int .i64 11, .string ⟨#[]⟩, .string ⟨#[]⟩, .string ⟨#[]⟩, .slice (some ⟨w12.heap.size, 0, none⟩) 1 1, .slice none 0 0, .slice none 0 0, .slice none 0 0]]) (by simp [results, Tryz.results73, go_sem, q0, q1, q2, q3, q4, q5, z0, z1, z2, z3, z4, z5, z6, z7, e5, e6, zz]) rfl ⟨?_, i29, n1, c29, y29, _, M.one 11 M.em M.em M.em [o] [] .nil .nil, rfl, by rw [HV.out, HE.out.1]; exact h29, stmEnc_mk ?_ (StrsAt.nil _ _), fun S' x e => by rw [HV.out] at e; exact HE.out.2 _ _ e⟩
      · repeat (first | with_reducible exact hbw29 | with_reducible refine Below.setCell ?_ (by first | omega | (simp; done) | (simp; omega)) _ | with_reducible refine Below.drew ?_ | with_reducible refine Below.alloc ?_ (by first | omega | (simp; done) | (simp; omega)) _)
      · refine ((ops1_at (X := fun b => b < w.heap.size + 1 + 1 + 1) hN29 (by omega)).keep ?_).weak fun b _ hx hy => hx (by have : b < w.heap.size := hy; omega)
        repeat (first | with_reducible exact keep_self | with_reducible refine keep_drew ?_ | with_reducible refine keep_alloc ?_ | with_reducible refine keep_setc ?_ (by first | omega | (simp; done) | (simp; omega)))
end Go.Proofs.YtkpmpnebmkeocaaGreatDoor
end
section
namespace Go.Proofs.YtkpmpnebmkeocaaGreatDoor
open Go.RowKit

set_option maxRecDepth 40000 in
set_option maxHeartbeats 3200000 in
theorem rstmt_name (N : Nat) (a : Option Addr) (cap : Nat) (ts : List M.Tok) (fin : Int) (d : Nat) (r : RSt) (i n : Nat) (c y : Int) (w : World) (h : RS ts fin d r i n c y) (hT : TokAt w (.slice a ts.length cap) ts) (hfew : ts.length ≤ 4398046511000)  (kN : isNameR r = true) (kO : isR r M.kOut = false) (kR : isR r M.kReturn = false) (kI : isR r M.kIf = false) (kW : isR r M.kWhile = false) :
    Calls Tryz.prog 73 #[.agg #[.slice a ts.length cap, .int .i64 (i : Nat), .int .i64 fin, .int .i64 (n : Nat), .int .i64 c, .int .i64 y], .int .i64 (d : Nat)] w fun e w' => Below w.heap.size w w' ∧ ∃ (i' n' : Nat) (c' y' : Int) (v : Value) (t : M.Tr), e = .returned (.tuple #[.agg #[.slice a ts.length cap, .int .i64 (i' : Nat), .int .i64 fin, .int .i64 (n' : Nat), .int .i64 c', .int .i64 y'], v]) ∧ RS ts fin d (stR (stmtR N r)) i' n' c' y' ∧ stmEnc w t v w' ∧ ∀ S' t', stmtR N r = .ok (S', t') → t = t' := by
  have hi := h.lt
  have hn2 := h.lim
  obtain ⟨S, rfl⟩ := isNameR_ok kN
  have hc0 := (h.good S rfl).1
  have hy0 := (h.good S rfl).2.1
  subst hc0 hy0
  have HSn := hid h.idx.2.2
  have HSr := hid h.idx.1
  have hbw0 := Below.refl w.heap.size w
  go_enter Tryz.func73, Tryz.ntmps73
  go_wp2_with fail
  refine (risName_any _ _ _ _ _ _ _ _ _ _ _ h (hT.keep (below_four _ _ _ _))).mono ?_
  rintro e w1 ⟨rfl, hb⟩
  obtain ⟨hP1, hQ1, hR1, hN1, hbn⟩ := four_new hb
  clear hb
  have hbw1 := hbw0.trans (hbn.mono hbw0.size)
  clear hbn 
  obtain ⟨x0, x1, x2, x3, x4, x5, xf⟩ := cells6 hP1
  rw [kN]
  by_cases hn : n = 2000
  · have hge : (2000 : Int) ≤ (n : Int) := by omega
    have HSn2 : Hid (S.n = 2000) := HSn.out.trans hn
    clear hn
    go_wp2_with fail
    obtain ⟨n0, n1, n2, n3, n4, n5, n6, n7, nf, nz⟩ := cells8 hN1
    obtain ⟨q0, q1, q2, q3, q4, q5, qf⟩ := cells6 hQ1
    obtain ⟨z0, z1, z2, z3, z4, z5, z6, z7, zf, zz⟩ := cells8 hR1
    have hl := hlt_ hN1
    have e0 : w.heap.size < w1.heap.size := by omega
    have e1 : w.heap.size + 1 < w1.heap.size := by omega
    have KH : Hid (∀ W, Keep (fun b => b = w.heap.size + 1 ∨ b = w.heap.size + 1 + 1) w1 W → W.cell? ⟨w.heap.size, 0, none⟩ = some (.slice a ts.length cap) ∧ W.cell? ⟨w.heap.size, 1, none⟩ = some (.int .i64 (i : Nat)) ∧ W.cell? ⟨w.heap.size, 2, none⟩ = some (.int .i64 fin) ∧ W.cell? ⟨w.heap.size, 3, none⟩ = some (.int .i64 (n : Nat)) ∧ W.cell? ⟨w.heap.size, 4, none⟩ = some (.int .i64 0) ∧ W.cell? ⟨w.heap.size, 5, none⟩ = some (.int .i64 0) ∧ W.cell? ⟨w.heap.size + 1 + 1 + 1, 0, none⟩ = some (.int .i64 0) ∧ W.cell? ⟨w.heap.size + 1 + 1 + 1, 1, none⟩ = some (.string ⟨#[]⟩) ∧ W.cell? ⟨w.heap.size + 1 + 1 + 1, 2, none⟩ = some (.string ⟨#[]⟩) ∧ W.cell? ⟨w.heap.size + 1 + 1 + 1, 3, none⟩ = some (.string ⟨#[]⟩) ∧ W.cell? ⟨w.heap.size + 1 + 1 + 1, 4, none⟩ = some (.slice none 0 0) ∧ W.cell? ⟨w.heap.size + 1 + 1 + 1, 5, none⟩ = some (.slice none 0 0) ∧ W.cell? ⟨w.heap.size + 1 + 1 + 1, 6, none⟩ = some (.slice none 0 0) ∧ W.cell? ⟨w.heap.size + 1 + 1 + 1, 7, none⟩ = some (.slice none 0 0)) := fun W hk => by
      have e := fun (b i : Nat) (h1 : b < w1.heap.size) (h2 : ¬ (fun b => b = w.heap.size + 1 ∨ b = w.heap.size + 1 + 1) b) => World.cell?_of_block (w := w1) (a := ⟨b, i, none⟩) (hk.block b h1 h2)
      exact ⟨(e _ _ e0 (by simp <;> omega)).trans x0, (e _ _ e0 (by simp <;> omega)).trans x1, (e _ _ e0 (by simp <;> omega)).trans x2, (e _ _ e0 (by simp <;> omega)).trans x3, (e _ _ e0 (by simp <;> omega)).trans x4, (e _ _ e0 (by simp <;> omega)).trans x5, (e _ _ hl (by simp <;> omega)).trans n0, (e _ _ hl (by simp <;> omega)).trans n1, (e _ _ hl (by simp <;> omega)).trans n2, (e _ _ hl (by simp <;> omega)).trans n3, (e _ _ hl (by simp <;> omega)).trans n4, (e _ _ hl (by simp <;> omega)).trans n5, (e _ _ hl (by simp <;> omega)).trans n6, (e _ _ hl (by simp <;> omega)).trans n7⟩
    have FAIL : Hid (∀ W, Below w1.heap.size w1 W → Calls Tryz.prog 71 #[.agg #[.slice a ts.length cap, .int .i64 (i : Nat), .int .i64 fin, .int .i64 (n : Nat), .int .i64 0, .int .i64 0], .int .i64 22] W fun e w' => Below w1.heap.size w1 w' ∧ ∃ (c' y' : Int), e = .returned (.agg #[.slice a ts.length cap, .int .i64 (i : Nat), .int .i64 fin, .int .i64 (n : Nat), .int .i64 c', .int .i64 y']) ∧ RS ts fin d (failR (.ok S) 22) i n c' y') := fun W hb => (rfail_any _ _ _ _ _ _ _ _ _ _ _ h (hT.keep (hbw1.trans (hb.mono hbw1.size))) 22 (by decide)).mono fun e w' ⟨g1, g2⟩ => ⟨hb.trans (g1.mono hb.size), g2⟩
    have HF := hid (st_full (N := N) (S := S) (by simp [atStmtR, kN, kO, kR, kI, kW]) HSn2.out)
    go_region_held3 (fun w' => w'.cell? ⟨w.heap.size, 0, none⟩ = some (.slice a ts.length cap) ∧ w'.cell? ⟨w.heap.size, 1, none⟩ = some (.int .i64 (i : Nat)) ∧ w'.cell? ⟨w.heap.size, 2, none⟩ = some (.int .i64 fin) ∧ w'.cell? ⟨w.heap.size, 3, none⟩ = some (.int .i64 (n : Nat)) ∧ w'.cell? ⟨w.heap.size, 4, none⟩ = some (.int .i64 0) ∧ w'.cell? ⟨w.heap.size, 5, none⟩ = some (.int .i64 0) ∧ w'.cell? ⟨w.heap.size + 1 + 1 + 1, 0, none⟩ = some (.int .i64 0) ∧ w'.cell? ⟨w.heap.size + 1 + 1 + 1, 1, none⟩ = some (.string ⟨#[]⟩) ∧ w'.cell? ⟨w.heap.size + 1 + 1 + 1, 2, none⟩ = some (.string ⟨#[]⟩) ∧ w'.cell? ⟨w.heap.size + 1 + 1 + 1, 3, none⟩ = some (.string ⟨#[]⟩) ∧ w'.cell? ⟨w.heap.size + 1 + 1 + 1, 4, none⟩ = some (.slice none 0 0) ∧ w'.cell? ⟨w.heap.size + 1 + 1 + 1, 5, none⟩ = some (.slice none 0 0) ∧ w'.cell? ⟨w.heap.size + 1 + 1 + 1, 6, none⟩ = some (.slice none 0 0) ∧ w'.cell? ⟨w.heap.size + 1 + 1 + 1, 7, none⟩ = some (.slice none 0 0)) (first | exact KH.out _ (by repeat (first | with_reducible exact keep_self | with_reducible exact KB | with_reducible refine keep_drew ?_ | with_reducible refine keep_alloc ?_ | with_reducible refine keep_setc ?_ (by first | omega | (simp; done) | (simp; omega)))) | go_keep) (first | (go_at_call 71; refine (FAIL.out _ (by repeat (first | with_reducible exact Below.refl _ _ | with_reducible exact BB | with_reducible refine Below.drew ?_ | with_reducible refine Below.alloc ?_ (by first | omega | (simp; done) | (simp; omega)) _))).mono ?_; rintro e w9 ⟨BB, c9, y9, rfl, h9⟩; have KB := Below.keepX (X := (fun b => b = w.heap.size + 1 ∨ b = w.heap.size + 1 + 1)) BB; obtain ⟨cc9, cf9⟩ := bcell BB; have lt9 := blt BB))
    all_goals
      have hbw9 := hbw1.trans (BB.mono hbw1.size)
      clear q0 q1 q2 q3 q4 q5 qf z0 z1 z2 z3 z4 z5 z6 z7 zf zz
      obtain ⟨q0, q1, q2, q3, q4, q5, qf⟩ := cells6 (kept BB hQ1)
      obtain ⟨z0, z1, z2, z3, z4, z5, z6, z7, zf, zz⟩ := cells8 (kept BB hR1)
      have e5 : w.heap.size < w9.heap.size := by omega
      have e6 : w.heap.size + 1 < w9.heap.size := by omega
      go_wp2_with fail
      refine bodyPost_ret (v := .tuple #[.agg #[.slice a ts.length cap, .int .i64 (i : Nat), .int .i64 fin, .int .i64 (n : Nat), .int .i64 c9, .int .i64 y9], .agg #[.int .i64 0, .string ⟨#[]⟩, .string ⟨#[]⟩, .string ⟨#[]⟩, .slice none 0 0, .slice none 0 0, .slice none 0 0, .slice none 0 0]]) (by simp [results, Tryz.results73, go_sem, q0, q1, q2, q3, q4, q5, z0, z1, z2, z3, z4, z5, z6, z7, e5, e6, zz]) rfl ⟨?_, i, n, c9, y9, _, M.one 0 M.em M.em M.em [] [] .nil .nil, rfl, by rw [HF.out.1]; exact h9, stmEnc_mk (OpsAt.nil _ _) (StrsAt.nil _ _), fun S' x e => absurd e (HF.out.2 _ _)⟩
      repeat (first | with_reducible exact hbw9 | with_reducible refine Below.setCell ?_ (by first | omega | (simp; done) | (simp; omega)) _ | with_reducible refine Below.drew ?_ | with_reducible refine Below.alloc ?_ (by first | omega | (simp; done) | (simp; omega)) _)
  · have hlt : n < 2000 := by omega
    have hlti : (n : Int) < 2000 := by omega
    have HSn2 : Hid (¬ S.n = 2000) := fun e => hn (HSn.out.symm.trans e)
    clear hn
    obtain ⟨n1, hn1⟩ : ∃ n1, n1 = n + 1 := ⟨_, rfl⟩
    have hm : RS ts fin d (.ok S.more) i n1 0 0 := by rw [hn1]; exact (h.more hlt).2.2.2
    have HN1 := hid hn1
    clear hn1
    go_wp2_with fail
    rw [show ((n : Int) + 1) = (n1 : Int) by have := HN1.out; omega]
    clear x0 x1 x2 x3 x4 x5 xf
    have hl1 := hlt_ hN1
    have hP2 := (st_set3 hP1 (.int .i64 (n1 : Nat))).1
    have hQ2 := kset hQ1 (p := ⟨w.heap.size, 3, none⟩) (show w.heap.size + 1 ≠ w.heap.size by omega) (.int .i64 (n1 : Nat))
    have hR2 := kset hR1 (p := ⟨w.heap.size, 3, none⟩) (show w.heap.size + 1 + 1 ≠ w.heap.size by omega) (.int .i64 (n1 : Nat))
    have hN2 := kset hN1 (p := ⟨w.heap.size, 3, none⟩) (show w.heap.size + 1 + 1 + 1 ≠ w.heap.size by omega) (.int .i64 (n1 : Nat))
    have hbw2 := hbw1.setCell (p := ⟨w.heap.size, 3, none⟩) (show w.heap.size ≤ w.heap.size by omega) (.int .i64 (n1 : Nat))
    generalize hW : (w1.setCell ⟨w.heap.size, 3, none⟩ (.int .i64 (n1 : Nat))) = w2 at hP2 hQ2 hR2 hN2 hbw2 ⊢
    clear hW hP1 hQ1 hR1 hN1
    refine (ris_any _ _ _ _ _ _ _ _ _ _ _ hm (hT.keep hbw2) M.kIf (by decide) (by decide)).mono ?_
    rintro e w3 ⟨rfl, hb⟩
    have hP3 := kept hb hP2
    have hQ3 := kept hb hQ2
    have hR3 := kept hb hR2
    have hN3 := kept hb hN2
    have hbw3 := hbw2.trans (hb.mono hbw2.size)
    clear hb hP2 hQ2 hR2 hN2
    obtain ⟨x0, x1, x2, x3, x4, x5, xf⟩ := cells6 hP3
    rw [show isR (.ok S.more) M.kIf = false from kI]
    go_wp2_with fail
    clear x0 x1 x2 x3 x4 x5 xf
    refine (ris_any _ _ _ _ _ _ _ _ _ _ _ hm (hT.keep hbw3) M.kWhile (by decide) (by decide)).mono ?_
    rintro e w4 ⟨rfl, hb⟩
    have hP4 := kept hb hP3
    have hQ4 := kept hb hQ3
    have hR4 := kept hb hR3
    have hN4 := kept hb hN3
    have hbw4 := hbw3.trans (hb.mono hbw3.size)
    clear hb hP3 hQ3 hR3 hN3
    obtain ⟨x0, x1, x2, x3, x4, x5, xf⟩ := cells6 hP4
    rw [show isR (.ok S.more) M.kWhile = false from kW]
    go_wp2_with fail
    clear x0 x1 x2 x3 x4 x5 xf
    refine (ris_any _ _ _ _ _ _ _ _ _ _ _ hm (hT.keep hbw4) M.kOut (by decide) (by decide)).mono ?_
    rintro e w5 ⟨rfl, hb⟩
    have hP5 := kept hb hP4
    have hQ5 := kept hb hQ4
    have hR5 := kept hb hR4
    have hN5 := kept hb hN4
    have hbw5 := hbw4.trans (hb.mono hbw4.size)
    clear hb hP4 hQ4 hR4 hN4
    obtain ⟨x0, x1, x2, x3, x4, x5, xf⟩ := cells6 hP5
    rw [show isR (.ok S.more) M.kOut = false from kO]
    go_wp2_with fail
    clear x0 x1 x2 x3 x4 x5 xf
    refine (ris_any _ _ _ _ _ _ _ _ _ _ _ hm (hT.keep hbw5) M.kReturn (by decide) (by decide)).mono ?_
    rintro e w6 ⟨rfl, hb⟩
    have hP6 := kept hb hP5
    have hQ6 := kept hb hQ5
    have hR6 := kept hb hR5
    have hN6 := kept hb hN5
    have hbw6 := hbw5.trans (hb.mono hbw5.size)
    clear hb hP5 hQ5 hR5 hN5
    obtain ⟨x0, x1, x2, x3, x4, x5, xf⟩ := cells6 hP6
    rw [show isR (.ok S.more) M.kReturn = false from kR]
    go_wp2_with fail
    clear x0 x1 x2 x3 x4 x5 xf
    refine (rname_any _ _ _ _ _ _ _ _ _ _ _ hm (hT.keep hbw6)).mono ?_
    rintro e w7 ⟨hb, ia, ca, ya, x, rfl, hqa, hx⟩
    have hQ7 := kept hb hQ6
    have hR7 := kept hb hR6
    have hN7 := kept hb hN6
    have hbw7 := hbw6.trans (hb.mono hbw6.size)
    clear hb hQ6 hR6 hN6
    have HV0 := hid (st_name (N := N) (show S.isName = true from kN) HSn2.out hx)
    clear hx
    generalize stR (nameR (.ok S.more)) = qa at hqa HV0
    have hlk := hlt_ hN7
    go_wp2_with fail
    refine (ris_any _ _ _ _ _ _ _ _ _ _ _ hqa (hT.keep (hbw7.trans ((below_box _).mono hbw7.size))) (M.ch 46) (by decide) (by decide)).mono ?_
    rintro e w8 ⟨rfl, hb⟩
    obtain ⟨hA8, _, hbn⟩ := one_new hb
    clear hb
    have hQ8 := kept hbn hQ7
    have hR8 := kept hbn hR7
    have hN8 := kept hbn hN7
    have hbw8 := hbw7.trans (hbn.mono hbw7.size)
    clear hbn hQ7 hR7 hN7
    obtain ⟨x0, x1, x2, x3, x4, x5, xf⟩ := cells6 hA8
    cases hd : isR qa (M.ch 46)
    · go_wp2_with fail
      clear x0 x1 x2 x3 x4 x5 xf
      refine (rneed_any _ _ _ _ _ _ _ _ _ _ _ hqa (hT.keep hbw8) (M.ch 61) (by decide) (by decide)).mono ?_
      rintro e w9 ⟨hb, ib, cb, yb, rfl, hqb⟩
      have hQ9 := kept hb hQ8
      have hR9 := kept hb hR8
      have hN9 := kept hb hN8
      have hbw9 := hbw8.trans (hb.mono hbw8.size)
      clear hb hQ8 hR8 hN8
      have hOW : w.heap.size + 1 + 1 + 1 ≤ w9.heap.size := by have := hlt_ hN9; omega
      go_wp2_with fail
      refine (rvalue_any _ _ _ _ _ _ _ _ _ _ _ hqb (hT.keep hbw9) hfew).mono ?_
      rintro e w10 ⟨hb, ic, cc, yc, v, xv, rfl, hq, ⟨va, vp, rfl, hOA, hOP⟩, hxv⟩
      have hQ10 := kept hb hQ9
      have hR10 := kept hb hR9
      have hN10 := kept hb hN9
      have hbw10 := hbw9.trans (hb.mono hbw9.size)
      clear hb hQ9 hR9 hN9
      obtain ⟨av, cv, rfl⟩ := SlAt.form hOA
      obtain ⟨ap, cp, rfl⟩ := SlAt.form hOP
      have HV := hid (HV0.out.trans (st_let hd hxv))
      clear hxv HV0
      generalize stR (valueR (needR qa (M.ch 61))) = q at hq HV
      have hlk2 := hlt_ hN10
      go_wp2_with fail
      obtain ⟨hA11, hT11, _, hbn⟩ := two_new (w := w10) (w1 := ((w10.alloc (.cells #[.slice a ts.length cap, .int .i64 (ic : Nat), .int .i64 fin, .int .i64 (n1 : Nat), .int .i64 cc, .int .i64 yc] 81)).alloc (.cells #[.int .i64 xv.op, .string x, .string xv.y, .string xv.p, .slice av xv.a.length cv, .slice ap xv.pr.length cp, .slice none 0 0, .slice none 0 0] 32))) (Below.refl _ _)
      have hQ11 := kept hbn hQ10
      have hR11 := kept hbn hR10
      have hN11 := kept hbn hN10
      have hOA' := SlAt.bel hOA hbn
      have hOP' := SlAt.bel hOP hbn
      have hbw11 := hbw10.trans (hbn.mono hbw10.size)
      clear hbn
      generalize hW : ((w10.alloc (.cells #[.slice a ts.length cap, .int .i64 (ic : Nat), .int .i64 fin, .int .i64 (n1 : Nat), .int .i64 cc, .int .i64 yc] 81)).alloc (.cells #[.int .i64 xv.op, .string x, .string xv.y, .string xv.p, .slice av xv.a.length cv, .slice ap xv.pr.length cp, .slice none 0 0, .slice none 0 0] 32)) = w11 at hA11 hT11 hQ11 hR11 hN11 hbw11 hOA' hOP' ⊢
      clear hW hQ10 hR10 hN10 hOA hOP
      have hOA := hOA'
      clear hOA'
      have hOP := hOP'
      clear hOP'
      obtain ⟨x0, x1, x2, x3, x4, x5, xf⟩ := cells6 hA11
      obtain ⟨t0, t1, t2, t3, t4, t5, t6, t7, tf, tz⟩ := cells8 hT11
      obtain ⟨q0, q1, q2, q3, q4, q5, qf⟩ := cells6 hQ11
      obtain ⟨z0, z1, z2, z3, z4, z5, z6, z7, zf, zz⟩ := cells8 hR11
      have hlA := hlt_ hA11
      have hlX := hlt_ hT11
      have e0 : w.heap.size < w11.heap.size := by omega
      have e1 : w.heap.size + 1 < w11.heap.size := by omega
      have e2 : ¬ w11.heap.size < w.heap.size := by omega
      have KH : Hid (∀ W, Keep (fun b => b < w.heap.size + 1 + 1 + 1) w11 W → W.cell? ⟨w10.heap.size, 0, none⟩ = some (.slice a ts.length cap) ∧ W.cell? ⟨w10.heap.size, 1, none⟩ = some (.int .i64 (ic : Nat)) ∧ W.cell? ⟨w10.heap.size, 2, none⟩ = some (.int .i64 fin) ∧ W.cell? ⟨w10.heap.size, 3, none⟩ = some (.int .i64 (n1 : Nat)) ∧ W.cell? ⟨w10.heap.size, 4, none⟩ = some (.int .i64 cc) ∧ W.cell? ⟨w10.heap.size, 5, none⟩ = some (.int .i64 yc) ∧ W.cell? ⟨w10.heap.size + 1, 0, none⟩ = some (.int .i64 xv.op) ∧ W.cell? ⟨w10.heap.size + 1, 1, none⟩ = some (.string x) ∧ W.cell? ⟨w10.heap.size + 1, 2, none⟩ = some (.string xv.y) ∧ W.cell? ⟨w10.heap.size + 1, 3, none⟩ = some (.string xv.p) ∧ W.cell? ⟨w10.heap.size + 1, 4, none⟩ = some (.slice av xv.a.length cv) ∧ W.cell? ⟨w10.heap.size + 1, 5, none⟩ = some (.slice ap xv.pr.length cp) ∧ W.cell? ⟨w10.heap.size + 1, 6, none⟩ = some (.slice none 0 0) ∧ W.cell? ⟨w10.heap.size + 1, 7, none⟩ = some (.slice none 0 0)) := fun W hk => by
        have e := fun (b i : Nat) (h1 : b < w11.heap.size) (h2 : ¬ (fun b => b < w.heap.size + 1 + 1 + 1) b) => World.cell?_of_block (w := w11) (a := ⟨b, i, none⟩) (hk.block b h1 h2)
        exact ⟨(e _ _ hlA (by simp <;> omega)).trans x0, (e _ _ hlA (by simp <;> omega)).trans x1, (e _ _ hlA (by simp <;> omega)).trans x2, (e _ _ hlA (by simp <;> omega)).trans x3, (e _ _ hlA (by simp <;> omega)).trans x4, (e _ _ hlA (by simp <;> omega)).trans x5, (e _ _ hlX (by simp <;> omega)).trans t0, (e _ _ hlX (by simp <;> omega)).trans t1, (e _ _ hlX (by simp <;> omega)).trans t2, (e _ _ hlX (by simp <;> omega)).trans t3, (e _ _ hlX (by simp <;> omega)).trans t4, (e _ _ hlX (by simp <;> omega)).trans t5, (e _ _ hlX (by simp <;> omega)).trans t6, (e _ _ hlX (by simp <;> omega)).trans t7⟩
      have NEED : Hid (∀ W, Below w11.heap.size w11 W → Calls Tryz.prog 55 #[.agg #[.slice a ts.length cap, .int .i64 (ic : Nat), .int .i64 fin, .int .i64 (n1 : Nat), .int .i64 cc, .int .i64 yc], .string (M.ch 59)] W fun e w' => Below W.heap.size W w' ∧ Below w11.heap.size w11 w' ∧ ∃ (i' : Nat) (c' y' : Int), e = .returned (.agg #[.slice a ts.length cap, .int .i64 (i' : Nat), .int .i64 fin, .int .i64 (n1 : Nat), .int .i64 c', .int .i64 y']) ∧ RS ts fin d (needR q (M.ch 59)) i' n1 c' y') := fun W hb => (rneed_any _ _ _ _ _ _ _ _ _ _ _ hq (hT.keep (hbw11.trans (hb.mono hbw11.size))) (M.ch 59) (by decide) (by decide)).mono fun e w' ⟨g1, g2⟩ => ⟨g1, hb.trans (g1.mono hb.size), g2⟩
      have NEED' := NEED
      unfold M.ch at NEED
      have HE := hid (take_end q (M.ch 59) (M.one xv.op x xv.y xv.p xv.a xv.pr .nil .nil : M.Tr))
      clear x0 x1 x2 x3 x4 x5 xf
      go_region_held3 (fun w' => w'.cell? ⟨w10.heap.size, 0, none⟩ = some (.slice a ts.length cap) ∧ w'.cell? ⟨w10.heap.size, 1, none⟩ = some (.int .i64 (ic : Nat)) ∧ w'.cell? ⟨w10.heap.size, 2, none⟩ = some (.int .i64 fin) ∧ w'.cell? ⟨w10.heap.size, 3, none⟩ = some (.int .i64 (n1 : Nat)) ∧ w'.cell? ⟨w10.heap.size, 4, none⟩ = some (.int .i64 cc) ∧ w'.cell? ⟨w10.heap.size, 5, none⟩ = some (.int .i64 yc) ∧ w'.cell? ⟨w10.heap.size + 1, 0, none⟩ = some (.int .i64 xv.op) ∧ w'.cell? ⟨w10.heap.size + 1, 1, none⟩ = some (.string x) ∧ w'.cell? ⟨w10.heap.size + 1, 2, none⟩ = some (.string xv.y) ∧ w'.cell? ⟨w10.heap.size + 1, 3, none⟩ = some (.string xv.p) ∧ w'.cell? ⟨w10.heap.size + 1, 4, none⟩ = some (.slice av xv.a.length cv) ∧ w'.cell? ⟨w10.heap.size + 1, 5, none⟩ = some (.slice ap xv.pr.length cp) ∧ w'.cell? ⟨w10.heap.size + 1, 6, none⟩ = some (.slice none 0 0) ∧ w'.cell? ⟨w10.heap.size + 1, 7, none⟩ = some (.slice none 0 0)) (first | exact KH.out _ (by repeat (first | with_reducible exact keep_self | with_reducible exact KB | with_reducible refine keep_drew ?_ | with_reducible refine keep_alloc ?_ | with_reducible refine keep_setc ?_ (by first | omega | (simp; done) | (simp; omega)))) | go_keep) (first | (go_at_call 55; refine (NEED.out _ (by repeat (first | with_reducible exact Below.refl _ _ | with_reducible exact BB | with_reducible refine Below.drew ?_ | with_reducible refine Below.alloc ?_ (by first | omega | (simp; done) | (simp; omega)) _))).mono ?_; rintro e w29 ⟨hb29, BB, i29, c29, y29, rfl, h29⟩; have KB := Below.keepX (X := (fun b => b < w.heap.size + 1 + 1 + 1)) BB; have HB := hid hb29; clear hb29 q0 q1 q2 q3 q4 q5 qf z0 z1 z2 z3 z4 z5 z6 z7 zf zz; obtain ⟨q0, q1, q2, q3, q4, q5, qf⟩ := cells6 (kept BB hQ11); obtain ⟨z0, z1, z2, z3, z4, z5, z6, z7, zf, zz⟩ := cells8 (kept BB hR11); have e5 := Nat.lt_of_lt_of_le e0 BB.size; have e6 := Nat.lt_of_lt_of_le e1 BB.size))
      all_goals
        have hbw29 := hbw11.trans (BB.mono hbw11.size)
        have hs29 := BB.size
        have e7 : ¬ w29.heap.size < w.heap.size := by omega
        go_wp2_with fail
        refine bodyPost_ret (v := .tuple #[.agg #[.slice a ts.length cap, .int .i64 (i29 : Nat), .int .i64 fin, .int .i64 (n1 : Nat), .int .i64 c29, .int .i64 y29], .agg #[.int .i64 xv.op, .string x, .string xv.y, .string xv.p, .slice av xv.a.length cv, .slice ap xv.pr.length cp, .slice none 0 0, .slice none 0 0]]) (by simp [results, Tryz.results73, go_sem, q0, q1, q2, q3, q4, q5, z0, z1, z2, z3, z4, z5, z6, z7, e5, e6, zz]) rfl ⟨?_, i29, n1, c29, y29, _, M.one xv.op x xv.y xv.p xv.a xv.pr .nil .nil, rfl, by rw [HV.out, HE.out.1]; exact h29, stmEnc_mk ?_ ?_, fun S' x e => by rw [HV.out] at e; exact HE.out.2 _ _ e⟩
        · repeat (first | with_reducible exact hbw29 | with_reducible refine Below.setCell ?_ (by first | omega | (simp; done) | (simp; omega)) _ | with_reducible refine Below.drew ?_ | with_reducible refine Below.alloc ?_ (by first | omega | (simp; done) | (simp; omega)) _)
        · refine ((SlAt.weak (SlAt.bel hOA BB) (Y := fun b => b < w.heap.size + 1 + 1 + 1) fun b _ hx hy => hx (Nat.lt_of_lt_of_le hy hOW)).keep ?_).weak fun b _ hx hy => hx (by have : b < w.heap.size := hy; omega)
          repeat (first | with_reducible exact keep_self | with_reducible refine keep_drew ?_ | with_reducible refine keep_alloc ?_ | with_reducible refine keep_setc ?_ (by first | omega | (simp; done) | (simp; omega)))
        · refine ((SlAt.weak (SlAt.bel hOP BB) (Y := fun b => b < w.heap.size + 1 + 1 + 1) fun b _ hx hy => hx (Nat.lt_of_lt_of_le hy hOW)).keep ?_).weak fun b _ hx hy => hx (by have : b < w.heap.size := hy; omega)
          repeat (first | with_reducible exact keep_self | with_reducible refine keep_drew ?_ | with_reducible refine keep_alloc ?_ | with_reducible refine keep_setc ?_ (by first | omega | (simp; done) | (simp; omega)))
    · go_wp2_with fail
      clear x0 x1 x2 x3 x4 x5 xf
      refine (rneed_any _ _ _ _ _ _ _ _ _ _ _ hqa (hT.keep hbw8) (M.ch 46) (by decide) (by decide)).mono ?_
      rintro e w9 ⟨hb, ib, cb, yb, rfl, hqb⟩
      have hQ9 := kept hb hQ8
      have hR9 := kept hb hR8
      have hN9 := kept hb hN8
      have hbw9 := hbw8.trans (hb.mono hbw8.size)
      clear hb hQ8 hR8 hN8
      go_wp2_with fail
      refine (rname_any _ _ _ _ _ _ _ _ _ _ _ hqb (hT.keep hbw9)).mono ?_
      rintro e w10 ⟨hb, ic, cc, yc, p, rfl, hqc, hp⟩
      have hQ10 := kept hb hQ9
      have hR10 := kept hb hR9
      have hN10 := kept hb hN9
      have hbw10 := hbw9.trans (hb.mono hbw9.size)
      clear hb hQ9 hR9 hN9
      go_wp2_with fail
      refine (rneed_any _ _ _ _ _ _ _ _ _ _ _ hqc (hT.keep (hbw10.trans ((below_box _).mono hbw10.size))) (M.ch 61) (by decide) (by decide)).mono ?_
      rintro e w11 ⟨hb, id, cd, yd, rfl, hqd⟩
      obtain ⟨_, _, hbn⟩ := one_new hb
      clear hb
      have hQ11 := kept hbn hQ10
      have hR11 := kept hbn hR10
      have hN11 := kept hbn hN10
      have hbw11 := hbw10.trans (hbn.mono hbw10.size)
      clear hbn hQ10 hR10 hN10
      go_wp2_with fail
      refine (roperand_any _ _ _ _ _ _ _ _ _ _ _ hqd (hT.keep hbw11)).mono ?_
      rintro e w12 ⟨hb, ie, ce, ye, o, rfl, hq, ho⟩
      have hQ12 := kept hb hQ11
      have hR12 := kept hb hR11
      have hN12 := kept hb hN11
      have hbw12 := hbw11.trans (hb.mono hbw11.size)
      clear hb hQ11 hR11 hN11
      have HV := hid (HV0.out.trans (st_set hd hp ho))
      clear hp ho HV0
      generalize stR (operandR (needR (stR (nameR (needR qa (M.ch 46)))) (M.ch 61))) = q at hq HV
      have hlk2 := hlt_ hN12
      go_wp2_with fail
      obtain ⟨hA13, hO13, _, hbn⟩ := two_new (w := w12) (w1 := ((w12.alloc (.cells #[.slice a ts.length cap, .int .i64 (ie : Nat), .int .i64 fin, .int .i64 (n1 : Nat), .int .i64 ce, .int .i64 ye] 81)).alloc (.cells #[.int .i64 o.k, .int .i64 o.n, .string o.s] 47))) (Below.refl _ _)
      have hQ13 := kept hbn hQ12
      have hR13 := kept hbn hR12
      have hN13 := kept hbn hN12
      have hbw13 := hbw12.trans (hbn.mono hbw12.size)
      have hzz := hbn.size
      generalize hW : ((w12.alloc (.cells #[.slice a ts.length cap, .int .i64 (ie : Nat), .int .i64 fin, .int .i64 (n1 : Nat), .int .i64 ce, .int .i64 ye] 81)).alloc (.cells #[.int .i64 o.k, .int .i64 o.n, .string o.s] 47)) = w13 at hA13 hO13 hQ13 hR13 hN13 hbw13 hbn ⊢
      clear hW hbn hzz hQ12 hR12 hN12
      obtain ⟨x0, x1, x2, x3, x4, x5, xf⟩ := cells6 hA13
      obtain ⟨o0, o1, o2, of⟩ := tcells3 hO13
      obtain ⟨q0, q1, q2, q3, q4, q5, qf⟩ := cells6 hQ13
      obtain ⟨z0, z1, z2, z3, z4, z5, z6, z7, zf, zz⟩ := cells8 hR13
      have hlA := hlt_ hA13
      have hlX := hlt_ hO13
      have e0 : w.heap.size < w13.heap.size := by omega
      have e1 : w.heap.size + 1 < w13.heap.size := by omega
      have e2 : ¬ w13.heap.size < w.heap.size := by omega
      have KH : Hid (∀ W, Keep (fun b => b < w.heap.size + 1 + 1 + 1) w13 W → W.cell? ⟨w12.heap.size, 0, none⟩ = some (.slice a ts.length cap) ∧ W.cell? ⟨w12.heap.size, 1, none⟩ = some (.int .i64 (ie : Nat)) ∧ W.cell? ⟨w12.heap.size, 2, none⟩ = some (.int .i64 fin) ∧ W.cell? ⟨w12.heap.size, 3, none⟩ = some (.int .i64 (n1 : Nat)) ∧ W.cell? ⟨w12.heap.size, 4, none⟩ = some (.int .i64 ce) ∧ W.cell? ⟨w12.heap.size, 5, none⟩ = some (.int .i64 ye) ∧ W.cell? ⟨w12.heap.size + 1, 0, none⟩ = some (.int .i64 o.k) ∧ W.cell? ⟨w12.heap.size + 1, 1, none⟩ = some (.int .i64 o.n) ∧ W.cell? ⟨w12.heap.size + 1, 2, none⟩ = some (.string o.s)) := fun W hk => by
        have e := fun (b i : Nat) (h1 : b < w13.heap.size) (h2 : ¬ (fun b => b < w.heap.size + 1 + 1 + 1) b) => World.cell?_of_block (w := w13) (a := ⟨b, i, none⟩) (hk.block b h1 h2)
        exact ⟨(e _ _ hlA (by simp <;> omega)).trans x0, (e _ _ hlA (by simp <;> omega)).trans x1, (e _ _ hlA (by simp <;> omega)).trans x2, (e _ _ hlA (by simp <;> omega)).trans x3, (e _ _ hlA (by simp <;> omega)).trans x4, (e _ _ hlA (by simp <;> omega)).trans x5, (e _ _ hlX (by simp <;> omega)).trans o0, (e _ _ hlX (by simp <;> omega)).trans o1, (e _ _ hlX (by simp <;> omega)).trans o2⟩
      have NEED : Hid (∀ W, Below w13.heap.size w13 W → Calls Tryz.prog 55 #[.agg #[.slice a ts.length cap, .int .i64 (ie : Nat), .int .i64 fin, .int .i64 (n1 : Nat), .int .i64 ce, .int .i64 ye], .string (M.ch 59)] W fun e w' => Below W.heap.size W w' ∧ Below w13.heap.size w13 w' ∧ ∃ (i' : Nat) (c' y' : Int), e = .returned (.agg #[.slice a ts.length cap, .int .i64 (i' : Nat), .int .i64 fin, .int .i64 (n1 : Nat), .int .i64 c', .int .i64 y']) ∧ RS ts fin d (needR q (M.ch 59)) i' n1 c' y') := fun W hb => (rneed_any _ _ _ _ _ _ _ _ _ _ _ hq (hT.keep (hbw13.trans (hb.mono hbw13.size))) (M.ch 59) (by decide) (by decide)).mono fun e w' ⟨g1, g2⟩ => ⟨g1, hb.trans (g1.mono hb.size), g2⟩
      have NEED' := NEED
      unfold M.ch at NEED
      have HE := hid (take_end q (M.ch 59) (M.one 3 x M.em p [o] [] .nil .nil : M.Tr))
      clear x0 x1 x2 x3 x4 x5 xf
      go_region_held3 (fun w' => w'.cell? ⟨w12.heap.size, 0, none⟩ = some (.slice a ts.length cap) ∧ w'.cell? ⟨w12.heap.size, 1, none⟩ = some (.int .i64 (ie : Nat)) ∧ w'.cell? ⟨w12.heap.size, 2, none⟩ = some (.int .i64 fin) ∧ w'.cell? ⟨w12.heap.size, 3, none⟩ = some (.int .i64 (n1 : Nat)) ∧ w'.cell? ⟨w12.heap.size, 4, none⟩ = some (.int .i64 ce) ∧ w'.cell? ⟨w12.heap.size, 5, none⟩ = some (.int .i64 ye) ∧ w'.cell? ⟨w12.heap.size + 1, 0, none⟩ = some (.int .i64 o.k) ∧ w'.cell? ⟨w12.heap.size + 1, 1, none⟩ = some (.int .i64 o.n) ∧ w'.cell? ⟨w12.heap.size + 1, 2, none⟩ = some (.string o.s)) (first | exact KH.out _ (by repeat (first | with_reducible exact keep_self | with_reducible exact KB | with_reducible refine keep_drew ?_ | with_reducible refine keep_alloc ?_ | with_reducible refine keep_setc ?_ (by first | omega | (simp; done) | (simp; omega)))) | go_keep) (first | (go_at_call 55; refine (NEED.out _ (by repeat (first | with_reducible exact Below.refl _ _ | with_reducible exact BB | with_reducible refine Below.drew ?_ | with_reducible refine Below.alloc ?_ (by first | omega | (simp; done) | (simp; omega)) _))).mono ?_; rintro e w29 ⟨hb29, BB, i29, c29, y29, rfl, h29⟩; have KB := Below.keepX (X := (fun b => b < w.heap.size + 1 + 1 + 1)) BB; have HB := hid hb29; clear hb29 q0 q1 q2 q3 q4 q5 qf z0 z1 z2 z3 z4 z5 z6 z7 zf zz; obtain ⟨q0, q1, q2, q3, q4, q5, qf⟩ := cells6 (kept BB hQ13); obtain ⟨z0, z1, z2, z3, z4, z5, z6, z7, zf, zz⟩ := cells8 (kept BB hR13); have e5 := Nat.lt_of_lt_of_le e0 BB.size; have e6 := Nat.lt_of_lt_of_le e1 BB.size))
      · have hbw29 := hbw13.trans (BB.mono hbw13.size)
        have hs29 := BB.size
        have e7 : ¬ w29.heap.size < w.heap.size := by omega
        go_wp2_with fail
        refine bodyPost_ret (v := .tuple #[.agg #[.slice a ts.length cap, .int .i64 (i29 : Nat), .int .i64 fin, .int .i64 (n1 : Nat), .int .i64 c29, .int .i64 y29], .agg #[.int .i64 3, .string x, .string ⟨#[]⟩, .string p, .slice (some ⟨w29.heap.size, 0, none⟩) 1 1, .slice none 0 0, .slice none 0 0, .slice none 0 0]]) (by simp [results, Tryz.results73, go_sem, q0, q1, q2, q3, q4, q5, z0, z1, z2, z3, z4, z5, z6, z7, e5, e6, zz]) rfl ⟨?_, i29, n1, c29, y29, _, M.one 3 x M.em p [o] [] .nil .nil, rfl, by rw [HV.out, HE.out.1]; exact h29, stmEnc_mk ?_ (StrsAt.nil _ _), fun S' x e => by rw [HV.out] at e; exact HE.out.2 _ _ e⟩
        · repeat (first | with_reducible exact hbw29 | with_reducible refine Below.setCell ?_ (by first | omega | (simp; done) | (simp; omega)) _ | with_reducible refine Below.drew ?_ | with_reducible refine Below.alloc ?_ (by first | omega | (simp; done) | (simp; omega)) _)
        · exact ops1_new (by simp) e7
      · have hbw29 := hbw13.trans (BB.mono hbw13.size)
        have hs29 := BB.size
        have e7 : ¬ w29.heap.size < w.heap.size := by omega
        go_wp2_with fail
        refine bodyPost_ret (v := .tuple #[.agg #[.slice a ts.length cap, .int .i64 (i29 : Nat), .int .i64 fin, .int .i64 (n1 : Nat), .int .i64 c29, .int .i64 y29], .agg #[.int .i64 3, .string x, .string ⟨#[]⟩, .string p, .slice (some ⟨w29.heap.size, 0, none⟩) 1 1, .slice none 0 0, .slice none 0 0, .slice none 0 0]]) (by simp [results, Tryz.results73, go_sem, q0, q1, q2, q3, q4, q5, z0, z1, z2, z3, z4, z5, z6, z7, e5, e6, zz]) rfl ⟨?_, i29, n1, c29, y29, _, M.one 3 x M.em p [o] [] .nil .nil, rfl, by rw [HV.out, HE.out.1]; exact h29, stmEnc_mk ?_ (StrsAt.nil _ _), fun S' x e => by rw [HV.out] at e; exact HE.out.2 _ _ e⟩
        · repeat (first | with_reducible exact hbw29 | with_reducible refine Below.setCell ?_ (by first | omega | (simp; done) | (simp; omega)) _ | with_reducible refine Below.drew ?_ | with_reducible refine Below.alloc ?_ (by first | omega | (simp; done) | (simp; omega)) _)
        · exact ops1_new (by simp) e7
      · have hbw29 := hbw13.trans (BB.mono hbw13.size)
        have hs29 := BB.size
        have e7 : ¬ w29.heap.size < w.heap.size := by omega
        go_wp2_with fail
        have hN29 := (one_new (undrew HB.out)).1
        refine bodyPost_ret (v := .tuple #[.agg #[.slice a ts.length cap, .int .i64 (i29 : Nat), .int .i64 fin, .int .i64 (n1 : Nat), .int .i64 c29, .int .i64 y29], .agg #[.int .i64 3, .string x, .string ⟨#[]⟩, .string p, .slice (some ⟨w13.heap.size, 0, none⟩) 1 1, .slice none 0 0, .slice none 0 0, .slice none 0 0]]) (by simp [results, Tryz.results73, go_sem, q0, q1, q2, q3, q4, q5, z0, z1, z2, z3, z4, z5, z6, z7, e5, e6, zz]) rfl ⟨?_, i29, n1, c29, y29, _, M.one 3 x M.em p [o] [] .nil .nil, rfl, by rw [HV.out, HE.out.1]; exact h29, stmEnc_mk ?_ (StrsAt.nil _ _), fun S' x e => by rw [HV.out] at e; exact HE.out.2 _ _ e⟩
        · repeat (first | with_reducible exact hbw29 | with_reducible refine Below.setCell ?_ (by first | omega | (simp; done) | (simp; omega)) _ | with_reducible refine Below.drew ?_ | with_reducible refine Below.alloc ?_ (by first | omega | (simp; done) | (simp; omega)) _)
        · refine ((ops1_at (X := fun b => b < w.heap.size + 1 + 1 + 1) hN29 (by omega)).keep ?_).weak fun b _ hx hy => hx (by have : b < w.heap.size := hy; omega)
          repeat (first | with_reducible exact keep_self | with_reducible refine keep_drew ?_ | with_reducible refine keep_alloc ?_ | with_reducible refine keep_setc ?_ (by first | omega | (simp; done) | (simp; omega)))
end Go.Proofs.YtkpmpnebmkeocaaGreatDoor
end
