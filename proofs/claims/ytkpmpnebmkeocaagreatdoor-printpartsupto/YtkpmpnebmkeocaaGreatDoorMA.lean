/-
  Plain facts on bytes and tokens: what a source is made of, said by functions on lists; nothing of the program is named here. No conditions.
-/
import Derived.WalkKit
import Derived.Lib.Bytealg
import Derived.KernelRfl
set_option linter.unusedVariables false
section
namespace Go.Proofs.YtkpmpnebmkeocaaGreatDoor
namespace M

def cls (c : Int) : Int :=
  if c = 9 ∨ c = 10 ∨ c = 13 ∨ c = 32 then 1
  else if c = 35 then 2
  else if (97 ≤ c ∧ c ≤ 122) ∨ (65 ≤ c ∧ c ≤ 90) then 3
  else if 48 ≤ c ∧ c ≤ 57 then 4
  else if c = 95 then 6
  else if c = 123 ∨ c = 125 ∨ c = 40 ∨ c = 41 ∨ c = 44 ∨ c = 59 ∨ c = 46 ∨ c = 61 ∨ c = 43 ∨ c = 45 ∨ c = 42 ∨ c = 60 ∨ c = 38 ∨ c = 58 then 5
  else 0

theorem idx_all : ∀ n : Fin 256, (decide (0 ≤ Lib.indexByte [123, 125, 40, 41, 44, 59, 46, 61, 43, 45, 42, 60, 38, 58] (UInt8.ofNat n.val))) = decide ((n.val : Int) = 123 ∨ (n.val : Int) = 125 ∨ (n.val : Int) = 40 ∨ (n.val : Int) = 41 ∨ (n.val : Int) = 44 ∨ (n.val : Int) = 59 ∨ (n.val : Int) = 46 ∨ (n.val : Int) = 61 ∨ (n.val : Int) = 43 ∨ (n.val : Int) = 45 ∨ (n.val : Int) = 42 ∨ (n.val : Int) = 60 ∨ (n.val : Int) = 38 ∨ (n.val : Int) = 58) := by
  decide +kernel

theorem idx_iff (c : Int) (h0 : 0 ≤ c) (h1 : c ≤ 255) : (0 ≤ Lib.indexByte [123, 125, 40, 41, 44, 59, 46, 61, 43, 45, 42, 60, 38, 58] (UInt8.ofNat c.toNat)) ↔ (c = 123 ∨ c = 125 ∨ c = 40 ∨ c = 41 ∨ c = 44 ∨ c = 59 ∨ c = 46 ∨ c = 61 ∨ c = 43 ∨ c = 45 ∨ c = 42 ∨ c = 60 ∨ c = 38 ∨ c = 58) := by
  have h := idx_all ⟨c.toNat, by omega⟩
  simp only [Int.toNat_of_nonneg h0] at h
  exact decide_eq_decide.1 h

theorem idx_lt (c : Int) (h0 : 0 ≤ c) (h1 : c ≤ 255) : (Lib.indexByte [123, 125, 40, 41, 44, 59, 46, 61, 43, 45, 42, 60, 38, 58] (UInt8.ofNat c.toNat) < 0) ↔ ¬ (c = 123 ∨ c = 125 ∨ c = 40 ∨ c = 41 ∨ c = 44 ∨ c = 59 ∨ c = 46 ∨ c = 61 ∨ c = 43 ∨ c = 45 ∨ c = 42 ∨ c = 60 ∨ c = 38 ∨ c = 58) := by
  rw [← idx_iff c h0 h1]; omega

def ext (p : UInt8 → Bool) (l : List UInt8) (k : Nat) : Nat := k + ((l.drop k).takeWhile p).length

theorem ext_end (p : UInt8 → Bool) (l : List UInt8) (k : Nat) (h : l.length ≤ k) : ext p l k = k := by
  simp [ext, List.drop_eq_nil_of_le h]

theorem ext_yes (p : UInt8 → Bool) (l : List UInt8) (k : Nat) (h : k < l.length) (hp : p l[k] = true) : ext p l k = ext p l (k + 1) := by
  unfold ext
  rw [List.drop_eq_getElem_cons h, List.takeWhile_cons_of_pos hp]
  simp only [List.length_cons]; omega

theorem ext_no (p : UInt8 → Bool) (l : List UInt8) (k : Nat) (h : k < l.length) (hp : p l[k] = false) : ext p l k = k := by
  unfold ext
  rw [List.drop_eq_getElem_cons h, List.takeWhile_cons_of_neg (by simp [hp])]
  simp

theorem ext_ge (p : UInt8 → Bool) (l : List UInt8) (k : Nat) : k ≤ ext p l k := by unfold ext; omega

theorem ext_le (p : UInt8 → Bool) (l : List UInt8) (k : Nat) (h : k ≤ l.length) : ext p l k ≤ l.length := by
  unfold ext
  have := (List.takeWhile_sublist (p := p) (l := l.drop k)).length_le
  simp only [List.length_drop] at this; omega

def pNl (b : UInt8) : Bool := decide (b.toNat ≠ 10)
def pDig (b : UInt8) : Bool := decide (cls b.toNat = 4)
def pInn (b : UInt8) : Bool := decide (cls b.toNat = 3 ∨ cls b.toNat = 4 ∨ cls b.toNat = 6)

theorem pInn_eq (b : UInt8) : pInn b = (cls b.toNat == 3 || cls b.toNat == 4 || cls b.toNat == 6) := by
  rw [Bool.eq_iff_iff]; simp [pInn, or_assoc]

def goB (l : List UInt8) (k : Nat) : Bool := (l[k]?).any pInn

theorem goB_end (l : List UInt8) (k : Nat) (h : l.length ≤ k) : goB l k = false := by
  rw [goB, List.getElem?_eq_none h]; rfl

theorem goB_in (l : List UInt8) (k : Nat) (h : k < l.length) : goB l k = pInn l[k] := by
  rw [goB, List.getElem?_eq_getElem h]; rfl

theorem goB_true (l : List UInt8) (k : Nat) (h : k < l.length) (hc : cls l[k].toNat = 3 ∨ cls l[k].toNat = 4 ∨ cls l[k].toNat = 6) : goB l k = true := by
  rw [goB_in l k h]; exact decide_eq_true hc

theorem goB_lt (l : List UInt8) (k : Nat) (h : goB l k = true) : k < l.length := by
  rcases Nat.lt_or_ge k l.length with h1 | h1
  · exact h1
  · rw [goB_end l k h1] at h; cases h


def begB (l : List UInt8) (k : Int) : Bool := l.head?.any (fun c => cls c.toNat == k)
def wordB (l : List UInt8) : Bool := decide (l.length ≤ 65536) && (begB l 3 && (ext pInn l 0 == l.length))
def numB (l : List UInt8) : Bool := !l.isEmpty && (decide (l.length ≤ 9) && (ext pDig l 0 == l.length))

structure Tok where
  k : Int
  t : ByteArray
  p : Int

def Tok.eqB (x y : Tok) : Bool := decide (x.k = y.k ∧ x.t = y.t ∧ x.p = y.p)
def same : List Tok → List Tok → Bool
  | [], [] => true
  | x :: l, y :: m => x.eqB y && same l m
  | _, _ => false
def Tok.cells (x : Tok) : List Value := [.int .i64 x.k, .string x.t, .int .i64 x.p]
def row (l : List Tok) : List Value := l.flatMap Tok.cells

def may1 (x : Tok) : Bool :=
  if x.k = 0 then wordB x.t.data.toList
  else if x.k = 1 then numB x.t.data.toList
  else if x.k = 2 then (x.t.size == 1 && begB x.t.data.toList 5)
  else false
def may (l : List Tok) : Bool := l.all may1

theorem bytes_ext {a b : ByteArray} (h : a.data.toList = b.data.toList) : a = b := by
  obtain ⟨⟨x⟩⟩ := a
  obtain ⟨⟨y⟩⟩ := b
  simp only at h
  rw [h]

theorem all_take_succ (f : Tok → Bool) (l : List Tok) (j : Nat) (h : j < l.length) : (l.take (j + 1)).all f = ((l.take j).all f && f l[j]) := by
  rw [List.take_succ_eq_append_getElem h, List.all_append]; simp

theorem all_false (f : Tok → Bool) (l : List Tok) (j : Nat) (h : j < l.length) (hf : f l[j] = false) : l.all f = false := by
  rw [List.all_eq_false]
  exact ⟨l[j], List.getElem_mem h, by simp [hf]⟩

end M
end Go.Proofs.YtkpmpnebmkeocaaGreatDoor
end
section
namespace Go.Proofs.YtkpmpnebmkeocaaGreatDoor
namespace M

def prnT (l : List Tok) : List UInt8 := l.flatMap fun x => 32 :: x.t.data.toList
def prn : List Tok → List UInt8
  | [] => []
  | x :: l => x.t.data.toList ++ prnT l
def print (l : List Tok) : List UInt8 := if may l = true then prn l else []

end M
end Go.Proofs.YtkpmpnebmkeocaaGreatDoor
end
section
namespace Go.Proofs.YtkpmpnebmkeocaaGreatDoor
namespace M

def nxt (l : List UInt8) : Option (Option Int × Nat) :=
  match l with
  | [] => none
  | c :: _ =>
    if cls c.toNat = 1 then some (none, 1)
    else if cls c.toNat = 2 then some (none, ext pNl l 0)
    else if cls c.toNat = 3 then some (some 0, ext pInn l 0)
    else if cls c.toNat = 5 then some (some 2, 1)
    else if cls c.toNat = 4 then (if ext pDig l 0 ≤ 9 ∧ goB l (ext pDig l 0) = false then some (some 1, ext pDig l 0) else none)
    else none

def lexL : Nat → Nat → List UInt8 → Except Nat (List Tok)
  | 0, _, _ => .ok []
  | _ + 1, _, [] => .ok []
  | f + 1, p, c :: r =>
    match nxt (c :: r) with
    | none => .error p
    | some (none, n) => lexL f (p + n) ((c :: r).drop n)
    | some (some k, n) =>
      match lexL f (p + n) ((c :: r).drop n) with
      | .error e => .error e
      | .ok ts => .ok (⟨k, ⟨((c :: r).take n).toArray⟩, p⟩ :: ts)

def lex (l : List UInt8) : List Tok × Int × Int :=
  if 65536 < l.length then ([], 11, 0)
  else match lexL l.length 0 l with
    | .error e => ([], 10, e)
    | .ok ts => (ts, 0, 0)

def pre (acc : List Tok) : Except Nat (List Tok) → Except Nat (List Tok)
  | .error e => .error e
  | .ok ts => .ok (acc ++ ts)

theorem pre_nil (r : Except Nat (List Tok)) : pre [] r = r := by cases r <;> rfl
theorem pre_pre (a b : List Tok) (r : Except Nat (List Tok)) : pre a (pre b r) = pre (a ++ b) r := by cases r <;> simp [pre]

theorem ext_drop (p : UInt8 → Bool) (l : List UInt8) (k : Nat) : ext p l k = k + ext p (l.drop k) 0 := by simp [ext]
theorem goB_drop (l : List UInt8) (k n : Nat) : goB (l.drop k) n = goB l (k + n) := by simp [goB]

theorem cls_pInn (c : UInt8) (h : cls c.toNat = 3 ∨ cls c.toNat = 4 ∨ cls c.toNat = 6) : pInn c = true := decide_eq_true h
theorem cls_pDig (c : UInt8) (h : cls c.toNat = 4) : pDig c = true := decide_eq_true h
theorem cls_pNl (c : UInt8) (h : cls c.toNat = 2) : pNl c = true := by
  apply decide_eq_true
  intro e
  rw [e] at h
  exact absurd h (by decide)

theorem ext_pos (p : UInt8 → Bool) (c : UInt8) (r : List UInt8) (h : p c = true) : 1 ≤ ext p (c :: r) 0 := by
  simp [ext, List.takeWhile_cons_of_pos h]

theorem nxt_bounds {l : List UInt8} {k : Option Int} {n : Nat} (h : nxt l = some (k, n)) : 1 ≤ n ∧ n ≤ l.length := by
  cases l with
  | nil => simp [nxt] at h
  | cons c r =>
    unfold nxt at h
    simp only at h
    split at h
    · simp only [Option.some.injEq, Prod.mk.injEq] at h; obtain ⟨_, rfl⟩ := h; simp
    · split at h
      · rename_i h2
        simp only [Option.some.injEq, Prod.mk.injEq] at h; obtain ⟨_, rfl⟩ := h
        exact ⟨ext_pos _ _ _ (cls_pNl _ h2), ext_le _ _ _ (Nat.zero_le _)⟩
      · split at h
        · rename_i h3
          simp only [Option.some.injEq, Prod.mk.injEq] at h; obtain ⟨_, rfl⟩ := h
          exact ⟨ext_pos _ _ _ (cls_pInn _ (.inl h3)), ext_le _ _ _ (Nat.zero_le _)⟩
        · split at h
          · simp only [Option.some.injEq, Prod.mk.injEq] at h; obtain ⟨_, rfl⟩ := h; simp
          · split at h
            · rename_i h4
              split at h
              · simp only [Option.some.injEq, Prod.mk.injEq] at h; obtain ⟨_, rfl⟩ := h
                exact ⟨ext_pos _ _ _ (cls_pDig _ h4), ext_le _ _ _ (Nat.zero_le _)⟩
              · cases h
            · cases h

theorem lexL_fuel : ∀ (f p : Nat) (l : List UInt8), l.length ≤ f → lexL f p l = lexL l.length p l
  | 0, p, l, h => by
    have : l = [] := List.length_eq_zero_iff.1 (by omega)
    subst this; rfl
  | f + 1, p, [], _ => rfl
  | f + 1, p, c :: r, h => by
    simp only [List.length_cons] at h ⊢
    unfold lexL
    cases hn : nxt (c :: r) with
    | none => rfl
    | some q =>
      obtain ⟨k, n⟩ := q
      have hb := nxt_bounds hn
      simp only [List.length_cons] at hb
      have hd : ((c :: r).drop n).length ≤ r.length := by simp only [List.length_drop, List.length_cons]; omega
      have e1 := lexL_fuel f (p + n) ((c :: r).drop n) (by omega)
      have e2 := lexL_fuel r.length (p + n) ((c :: r).drop n) hd
      cases k with
      | none => simp only [e1, e2]
      | some k => simp only [e1, e2]

def lexF (p : Nat) (l : List UInt8) : Except Nat (List Tok) := lexL l.length p l

theorem lexF_nil (p : Nat) : lexF p [] = .ok [] := rfl
theorem lexF_none {p : Nat} {l : List UInt8} (h0 : l ≠ []) (h : nxt l = none) : lexF p l = .error p := by
  cases l with
  | nil => exact absurd rfl h0
  | cons c r => simp only [lexF, List.length_cons, lexL, h]
theorem lexF_skip {p n : Nat} {l : List UInt8} (h : nxt l = some (none, n)) : lexF p l = lexF (p + n) (l.drop n) := by
  have hb := nxt_bounds h
  cases l with
  | nil => simp [nxt] at h
  | cons c r =>
    simp only [List.length_cons] at hb
    simp only [lexF, List.length_cons, lexL, h]
    exact lexL_fuel _ _ _ (by simp only [List.length_drop, List.length_cons]; omega)
theorem lexF_tok {p n : Nat} {k : Int} {l : List UInt8} (h : nxt l = some (some k, n)) : lexF p l = pre [⟨k, ⟨(l.take n).toArray⟩, p⟩] (lexF (p + n) (l.drop n)) := by
  have hb := nxt_bounds h
  cases l with
  | nil => simp [nxt] at h
  | cons c r =>
    simp only [List.length_cons] at hb
    simp only [lexF, List.length_cons, lexL, h]
    rw [lexL_fuel r.length _ _ (by simp only [List.length_drop, List.length_cons]; omega)]
    cases lexL ((c :: r).drop n).length (p + n) ((c :: r).drop n) <;> rfl

def At (l : List UInt8) (k : Nat) (acc : List Tok) : Prop := k ≤ l.length ∧ acc.length ≤ k ∧ pre acc (lexF k (l.drop k)) = lexF 0 l

theorem At.start (l : List UInt8) : At l 0 [] := ⟨Nat.zero_le _, Nat.le_refl _, by rw [pre_nil]; rfl⟩
theorem At.done {l : List UInt8} {k : Nat} {acc : List Tok} (h : At l k acc) (hk : l.length ≤ k) : lexF 0 l = .ok acc := by
  rw [← h.2.2, List.drop_eq_nil_of_le hk, lexF_nil, pre, List.append_nil]
theorem At.bad {l : List UInt8} {k : Nat} {acc : List Tok} (h : At l k acc) (hk : k < l.length) (hn : nxt (l.drop k) = none) : lexF 0 l = .error k := by
  rw [← h.2.2, lexF_none (by intro e; have := congrArg List.length e; simp at this; omega) hn]; rfl
theorem At.skip {l : List UInt8} {k m : Nat} {acc : List Tok} (h : At l k acc) (hn : nxt (l.drop k) = some (none, m)) : At l (k + m) acc := by
  have hb := nxt_bounds hn
  simp only [List.length_drop] at hb
  refine ⟨by omega, by have := h.2.1; omega, ?_⟩
  rw [← h.2.2, lexF_skip hn, List.drop_drop]
theorem At.tok {l : List UInt8} {k m : Nat} {x : Int} {acc : List Tok} (h : At l k acc) (hn : nxt (l.drop k) = some (some x, m)) : At l (k + m) (acc ++ [⟨x, ⟨((l.drop k).take m).toArray⟩, k⟩]) := by
  have hb := nxt_bounds hn
  simp only [List.length_drop] at hb
  refine ⟨by omega, by have := h.2.1; simp; omega, ?_⟩
  rw [← h.2.2, lexF_tok hn, List.drop_drop, pre_pre]

theorem nxt_at (l : List UInt8) (k : Nat) (h : k < l.length) : nxt (l.drop k) =
    if cls l[k].toNat = 1 then some (none, 1)
    else if cls l[k].toNat = 2 then some (none, ext pNl l k - k)
    else if cls l[k].toNat = 3 then some (some 0, ext pInn l k - k)
    else if cls l[k].toNat = 5 then some (some 2, 1)
    else if cls l[k].toNat = 4 then (if ext pDig l k - k ≤ 9 ∧ goB l (ext pDig l k) = false then some (some 1, ext pDig l k - k) else none)
    else none := by
  have e : ∀ p, ext p (l.drop k) 0 = ext p l k - k := fun p => by have := ext_drop p l k; omega
  have e2 : goB (l.drop k) (ext pDig l k - k) = goB l (ext pDig l k) := by
    rw [goB_drop]; congr 1; have := ext_ge pDig l k; omega
  have hd := List.drop_eq_getElem_cons h
  have : nxt (l.drop k) = (if cls l[k].toNat = 1 then some (none, 1)
    else if cls l[k].toNat = 2 then some (none, ext pNl (l.drop k) 0)
    else if cls l[k].toNat = 3 then some (some 0, ext pInn (l.drop k) 0)
    else if cls l[k].toNat = 5 then some (some 2, 1)
    else if cls l[k].toNat = 4 then (if ext pDig (l.drop k) 0 ≤ 9 ∧ goB (l.drop k) (ext pDig (l.drop k) 0) = false then some (some 1, ext pDig (l.drop k) 0) else none)
    else none) := by
    conv => lhs; rw [hd]
    rw [hd]; rfl
  rw [this, e, e, e, e2]

end M
end Go.Proofs.YtkpmpnebmkeocaaGreatDoor
end
section
namespace Go.Proofs.YtkpmpnebmkeocaaGreatDoor
namespace M

theorem lexL_small : ∀ (f p : Nat) (l : List UInt8) (ts : List Tok), lexL f p l = .ok ts → ts.length ≤ l.length ∧ ∀ x, x ∈ ts → x.t.size ≤ l.length
  | 0, p, l, ts, h => by simp only [lexL, Except.ok.injEq] at h; subst h; simp
  | f + 1, p, [], ts, h => by simp only [lexL, Except.ok.injEq] at h; subst h; simp
  | f + 1, p, c :: r, ts, h => by
    unfold lexL at h
    cases hn : nxt (c :: r) with
    | none => rw [hn] at h; cases h
    | some q =>
      obtain ⟨k, n⟩ := q
      have hb := nxt_bounds hn
      have hd : ((c :: r).drop n).length ≤ (c :: r).length := by simp only [List.length_drop]; omega
      rw [hn] at h
      cases k with
      | none =>
        simp only at h
        obtain ⟨h1, h2⟩ := lexL_small f _ _ _ h
        exact ⟨by omega, fun x hx => by have := h2 x hx; omega⟩
      | some k =>
        simp only at h
        cases hr : lexL f (p + n) ((c :: r).drop n) with
        | error e => rw [hr] at h; cases h
        | ok us =>
          rw [hr] at h
          simp only [Except.ok.injEq] at h
          subst h
          obtain ⟨h1, h2⟩ := lexL_small f _ _ _ hr
          refine ⟨by simp only [List.length_cons, List.length_drop] at h1 hb ⊢; omega, fun x hx => ?_⟩
          rcases List.mem_cons.1 hx with rfl | hx
          · have e : (ByteArray.mk ((c :: r).take n).toArray).size = ((c :: r).take n).length := by simp [ByteArray.size]
            rw [e, List.length_take]; omega
          · have := h2 x hx; omega

theorem lex_small (l : List UInt8) : (lex l).1.length ≤ 65536 ∧ ∀ x, x ∈ (lex l).1 → x.t.size ≤ 65536 := by
  unfold lex
  split
  · simp
  · rename_i hl
    cases h : lexL l.length 0 l with
    | error e => simp
    | ok ts =>
      obtain ⟨h1, h2⟩ := lexL_small _ _ _ _ h
      exact ⟨by simp only; omega, fun x hx => by have := h2 x hx; omega⟩

def six : List Tok := [⟨0, ⟨#[120]⟩, 0⟩, ⟨2, ⟨#[61]⟩, 1⟩, ⟨0, ⟨#[121]⟩, 2⟩, ⟨2, ⟨#[46]⟩, 3⟩, ⟨0, ⟨#[112]⟩, 4⟩, ⟨2, ⟨#[59]⟩, 5⟩]

end M
end Go.Proofs.YtkpmpnebmkeocaaGreatDoor
end
section
namespace Go.Proofs.YtkpmpnebmkeocaaGreatDoor
namespace M

theorem mem_tw {p : UInt8 → Bool} : ∀ {l : List UInt8} {a : UInt8}, a ∈ l.takeWhile p → p a = true
  | [], _, h => by simp at h
  | c :: r, a, h => by
    by_cases hc : p c = true
    · rw [List.takeWhile_cons_of_pos hc] at h
      rcases List.mem_cons.1 h with rfl | h
      · exact hc
      · exact mem_tw h
    · rw [List.takeWhile_cons_of_neg hc] at h; simp at h

theorem ext0_append (p : UInt8 → Bool) (l r : List UInt8) (h : ∀ a, a ∈ l → p a = true) : ext p (l ++ r) 0 = l.length + ext p r 0 := by
  simp [ext, List.takeWhile_append_of_pos h]

theorem ext0_stop (p : UInt8 → Bool) (r : List UInt8) (h : r.head?.any p = false) : ext p r 0 = 0 := by
  cases r with
  | nil => rfl
  | cons c r =>
    have : p c = false := by simpa using h
    simp [ext, List.takeWhile_cons_of_neg (by simp [this] : ¬ p c = true)]

theorem ext0_all {p : UInt8 → Bool} {l : List UInt8} (h : ext p l 0 = l.length) : ∀ a, a ∈ l → p a = true := by
  have h1 : (l.takeWhile p).length = l.length := by simpa [ext] using h
  have h2 : l.takeWhile p = l := (List.takeWhile_sublist (p := p) (l := l)).eq_of_length h1
  intro a ha
  rw [← h2] at ha
  exact mem_tw ha

theorem pDig_pInn {c : UInt8} (h : pInn c = false) : pDig c = false := by
  have h1 := of_decide_eq_false h
  apply decide_eq_false
  intro h2
  exact h1 (.inr (.inl h2))

theorem head_dig {r : List UInt8} (h : r.head?.any pInn = false) : r.head?.any pDig = false := by
  cases r with
  | nil => rfl
  | cons c r => simp only [List.head?_cons, Option.any_some] at h ⊢; exact pDig_pInn h

theorem goB_append (l r : List UInt8) : goB (l ++ r) l.length = r.head?.any pInn := by
  rw [goB, List.getElem?_append_right (Nat.le_refl _), Nat.sub_self]
  cases r <;> rfl

theorem nxt_may (x : Tok) (h : may1 x = true) (r : List UInt8) (hr : r.head?.any pInn = false) : nxt (x.t.data.toList ++ r) = some (some x.k, x.t.size) := by
  have hsz : x.t.size = x.t.data.toList.length := by simp
  rw [hsz]
  unfold may1 at h
  split at h
  · rename_i hk
    rw [hk]
    rw [wordB] at h
    simp only [Bool.and_eq_true, beq_iff_eq] at h
    obtain ⟨_, h3, h4⟩ := h
    have hall := ext0_all h4
    generalize x.t.data.toList = l at *
    cases l with
    | nil => simp [begB] at h3
    | cons c q =>
      have hc : cls c.toNat = 3 := by simpa [begB] using h3
      have he : ext pInn (c :: q ++ r) 0 = (c :: q).length := by rw [ext0_append _ _ _ hall, ext0_stop _ _ hr]; simp
      rw [List.cons_append] at he ⊢
      simp only [nxt, hc]
      simp [he]
  · split at h
    · rename_i hk
      rw [hk]
      rw [numB] at h
      simp only [Bool.and_eq_true, beq_iff_eq, decide_eq_true_eq] at h
      obtain ⟨h1, h2, h4⟩ := h
      have hall := ext0_all h4
      have hgo := goB_append x.t.data.toList r
      generalize x.t.data.toList = l at *
      cases l with
      | nil => simp at h1
      | cons c q =>
        have hc : cls c.toNat = 4 := of_decide_eq_true (hall c (List.mem_cons_self ..))
        have he : ext pDig (c :: q ++ r) 0 = (c :: q).length := by rw [ext0_append _ _ _ hall, ext0_stop _ _ (head_dig hr)]; simp
        rw [hr] at hgo
        rw [List.cons_append] at he hgo ⊢
        simp only [nxt, hc, he]
        rw [if_neg (by decide), if_neg (by decide), if_neg (by decide), if_neg (by decide), if_pos trivial, if_pos ⟨h2, hgo⟩]
    · split at h
      · rename_i hk
        rw [hk]
        simp only [Bool.and_eq_true, beq_iff_eq] at h
        obtain ⟨h1, h2⟩ := h
        rw [hsz] at h1
        generalize x.t.data.toList = l at *
        cases l with
        | nil => simp at h1
        | cons c q =>
          have hc : cls c.toNat = 5 := by simpa [begB] using h2
          have hq : q = [] := by simpa using h1
          subst hq
          simp [nxt, hc]
      · cases h

theorem bytes_mk (b : ByteArray) : (ByteArray.mk b.data.toList.toArray) = b := bytes_ext (by simp)

theorem take_left' {α : Type} (a b : List α) (n : Nat) (h : n = a.length) : (a ++ b).take n = a := by subst h; exact List.take_left
theorem drop_left' {α : Type} (a b : List α) (n : Nat) (h : n = a.length) : (a ++ b).drop n = b := by subst h; exact List.drop_left

theorem lexF_may (x : Tok) (h : may1 x = true) (r : List UInt8) (hr : r.head?.any pInn = false) (p : Nat) :
    lexF p (x.t.data.toList ++ r) = pre [⟨x.k, x.t, p⟩] (lexF (p + x.t.size) r) := by
  rw [lexF_tok (nxt_may x h r hr), take_left' _ _ _ (by simp), drop_left' _ _ _ (by simp), bytes_mk]

theorem nxt_blank (c : UInt8) (r : List UInt8) (h : cls c.toNat = 1) : nxt (c :: r) = some (none, 1) := by simp [nxt, h]

theorem lexF_blank (c : UInt8) (r : List UInt8) (h : cls c.toNat = 1) (p : Nat) : lexF p (c :: r) = lexF (p + 1) r := by
  rw [lexF_skip (nxt_blank c r h)]; rfl

theorem lex_of_ok {l : List UInt8} {ts : List Tok} (hl : l.length ≤ 65536) (h : lexF 0 l = .ok ts) : lex l = (ts, 0, 0) := by
  unfold lex
  rw [if_neg (by omega)]
  unfold lexF at h
  rw [h]

theorem lex_of_error {l : List UInt8} {e : Nat} (hl : l.length ≤ 65536) (h : lexF 0 l = .error e) : lex l = ([], 10, (e : Int)) := by
  unfold lex
  rw [if_neg (by omega)]
  unfold lexF at h
  rw [h]

theorem lex_long {l : List UInt8} (hl : 65536 < l.length) : lex l = ([], 11, 0) := by
  unfold lex; rw [if_pos hl]

end M
end Go.Proofs.YtkpmpnebmkeocaaGreatDoor
end
section
namespace Go.Proofs.YtkpmpnebmkeocaaGreatDoor
namespace M

structure Opd where
  k : Int
  n : Int
  s : ByteArray
  deriving DecidableEq
inductive Tr where
  | nil
  | cons (op : Int) (x y p : ByteArray) (a : List Opd) (pr : List ByteArray) (th el nx : Tr)
  deriving DecidableEq
def Tr.app : Tr → Tr → Tr
  | .nil, t => t
  | .cons op x y p a pr th el nx, t => .cons op x y p a pr th el (nx.app t)
def Tr.len : Tr → Nat
  | .nil => 0
  | .cons _ _ _ _ _ _ _ _ nx => nx.len + 1
structure Fn where
  name : ByteArray
  ps : List ByteArray
  body : Tr
  deriving DecidableEq
structure Val where
  op : Int
  y : ByteArray
  p : ByteArray
  a : List Opd
  pr : List ByteArray

structure St where
  rest : List Tok
  fin : Int
  n : Nat
  d : Nat

def em : ByteArray := ⟨#[]⟩
def now1 (fin : Int) : List Tok → Tok
  | [] => ⟨-1, em, fin⟩
  | t :: _ => if may1 t = true then t else ⟨-1, em, t.p⟩
def St.now (S : St) : Tok := now1 S.fin S.rest
def St.adv (S : St) : St := { S with rest := S.rest.tail }
def St.at (S : St) (t : ByteArray) : Bool := decide (S.now.t = t)

def kFun : ByteArray := ⟨#[102, 117, 110]⟩
def kOut : ByteArray := ⟨#[111, 117, 116]⟩
def kReturn : ByteArray := ⟨#[114, 101, 116, 117, 114, 110]⟩
def kIf : ByteArray := ⟨#[105, 102]⟩
def kElse : ByteArray := ⟨#[101, 108, 115, 101]⟩
def kWhile : ByteArray := ⟨#[119, 104, 105, 108, 101]⟩
def kNew : ByteArray := ⟨#[110, 101, 119]⟩
def kProto : ByteArray := ⟨#[112, 114, 111, 116, 111]⟩
def kCall : ByteArray := ⟨#[99, 97, 108, 108]⟩
def kIn : ByteArray := ⟨#[105, 110]⟩
def kNull : ByteArray := ⟨#[110, 117, 108, 108]⟩
def kTrue : ByteArray := ⟨#[116, 114, 117, 101]⟩
def kFalse : ByteArray := ⟨#[102, 97, 108, 115, 101]⟩
def ch (c : UInt8) : ByteArray := ⟨#[c]⟩

def kw (s : ByteArray) : Bool :=
  decide (s = kFun ∨ s = kOut ∨ s = kReturn ∨ s = kIf ∨ s = kElse ∨ s = kWhile ∨ s = kNew ∨ s = kProto ∨ s = kCall ∨ s = kIn ∨ s = kNull ∨ s = kTrue ∨ s = kFalse)
def St.isName (S : St) : Bool := decide (S.now.k = 0) && !kw S.now.t

abbrev Flt := Int × Int
abbrev Res (α : Type) := Except Flt (St × α)
def fail {α : Type} (S : St) (c : Int) : Except Flt α := .error (c, S.now.p)

def take (S : St) (t : ByteArray) : Res Unit := if S.at t = true then .ok (S.adv, ()) else fail S 20
def name (S : St) : Res ByteArray := if S.isName = true then .ok (S.adv, S.now.t) else fail S 20

def numV (l : List UInt8) : Int := l.foldl (fun n c => 10 * n + ((c.toNat : Int) - 48)) 0

def bnd {α β : Type} (r : Res α) (f : St → α → Res β) : Res β :=
  match r with
  | .error e => .error e
  | .ok (S, a) => f S a

def operand (S : St) : Res Opd :=
  if S.at kNull = true then .ok (S.adv, ⟨0, 0, em⟩)
  else if S.at kTrue = true then .ok (S.adv, ⟨1, 1, em⟩)
  else if S.at kFalse = true then .ok (S.adv, ⟨1, 0, em⟩)
  else if S.at (ch 38) = true then bnd (name S.adv) fun S1 n => .ok (S1, ⟨3, 0, n⟩)
  else if S.now.k = 1 then .ok (S.adv, ⟨2, numV S.now.t.data.toList, em⟩)
  else bnd (name S) fun S1 n => .ok (S1, ⟨4, 0, n⟩)

def more {β : Type} (item : St → β → Res β) : Nat → St → β → Res β
  | 0, S, b => .ok (S, b)
  | k + 1, S, b => if S.at (ch 44) = true then bnd (item S.adv b) (more item k) else .ok (S, b)
def list {β : Type} (last : ByteArray) (item : St → β → Res β) (S : St) (b : β) : Res β :=
  if S.at last = true then .ok (S.adv, b)
  else bnd (item S b) fun S1 b1 => bnd (more item S1.rest.length S1 b1) fun S2 b2 => bnd (take S2 last) fun S3 _ => .ok (S3, b2)

def itemOp (S : St) (l : List Opd) : Res (List Opd) := bnd (operand S) fun S1 o => .ok (S1, l ++ [o])
def itemName (S : St) (l : List ByteArray) : Res (List ByteArray) := bnd (name S) fun S1 o => .ok (S1, l ++ [o])
def itemProp (S : St) (l : List ByteArray × List Opd) : Res (List ByteArray × List Opd) :=
  bnd (name S) fun S1 n => bnd (take S1 (ch 58)) fun S2 _ => bnd (operand S2) fun S3 o => .ok (S3, (l.1 ++ [n], l.2 ++ [o]))

def operands (S : St) : Res (List Opd) := bnd (take S (ch 40)) fun S1 _ => list (ch 41) itemOp S1 []
def oneOperand (S : St) : Res (List Opd) := bnd (operand S) fun S1 o => .ok (S1, [o])

def object (S : St) : Res Val :=
  bnd (take S (ch 123)) fun S1 _ => bnd (list (ch 125) itemProp S1 ([], [])) fun S2 l => bnd (take S2 kProto) fun S3 _ => bnd (operand S3) fun S4 o =>
    .ok (S4, ⟨4, em, em, l.2 ++ [o], l.1⟩)

def St.atArith (S : St) : Bool := S.at (ch 43) || (S.at (ch 45) || (S.at (ch 42) || (S.at (ch 60) || S.at (ch 61))))

def value2 (S : St) (a : Opd) : Res Val :=
  if a.k = 4 ∧ S.at (ch 46) = true then bnd (name S.adv) fun S1 n => .ok (S1, ⟨2, a.s, n, [], []⟩)
  else if a.k = 4 ∧ S.at (ch 40) = true then bnd (operands S) fun S1 l => .ok (S1, ⟨6, a.s, em, l, []⟩)
  else if S.atArith = true then bnd (operand S.adv) fun S1 b => .ok (S1, ⟨1, em, S.now.t, [a, b], []⟩)
  else .ok (S, ⟨0, em, em, [a], []⟩)
def value (S : St) : Res Val :=
  if S.at kIn = true then .ok (S.adv, ⟨7, em, em, [], []⟩)
  else if S.at kCall = true then bnd (name S.adv) fun S1 n => bnd (operands S1) fun S2 l => .ok (S2, ⟨5, em, n, l, []⟩)
  else if S.at kNew = true then object S.adv
  else bnd (operand S) value2

def one (op : Int) (x y p : ByteArray) (a : List Opd) (pr : List ByteArray) (th el : Tr) : Tr := .cons op x y p a pr th el .nil

def plain (S : St) : Res Tr :=
  if S.at kOut = true then bnd (oneOperand S.adv) fun S1 a => .ok (S1, one 8 em em em a [] .nil .nil)
  else if S.at kReturn = true then bnd (oneOperand S.adv) fun S1 a => .ok (S1, one 11 em em em a [] .nil .nil)
  else bnd (name S) fun S1 x =>
    if S1.at (ch 46) = true then bnd (name S1.adv) fun S2 p => bnd (take S2 (ch 61)) fun S3 _ => bnd (oneOperand S3) fun S4 a => .ok (S4, one 3 x em p a [] .nil .nil)
    else bnd (take S1 (ch 61)) fun S2 _ => bnd (value S2) fun S3 v => .ok (S3, one v.op x v.y v.p v.a v.pr .nil .nil)

def St.atStmt (S : St) : Bool := S.isName || (S.at kOut || (S.at kReturn || (S.at kIf || S.at kWhile)))
def St.more (S : St) : St := { S with n := S.n + 1 }
def St.down (S : St) : St := { S with d := S.d + 1 }
def St.up (S : St) : St := { S with d := S.d - 1 }

def branch (blk : St → Res Tr) (S : St) : Res Tr :=
  bnd (oneOperand S) fun S1 a => bnd (blk S1) fun S2 th =>
    if S2.at kElse = true then bnd (blk S2.adv) fun S3 el => .ok (S3, one 9 em em em a [] th el)
    else .ok (S2, one 9 em em em a [] th .nil)
def loopS (blk : St → Res Tr) (S : St) : Res Tr :=
  bnd (oneOperand S) fun S1 a => bnd (blk S1) fun S2 th => .ok (S2, one 10 em em em a [] th .nil)
def stmt (blk : St → Res Tr) (S : St) : Res Tr :=
  if S.atStmt = true then
    if S.n = 2000 then fail S 22
    else if S.at kIf = true then branch blk S.more.adv
    else if S.at kWhile = true then loopS blk S.more.adv
    else bnd (plain S.more) fun S1 t => bnd (take S1 (ch 59)) fun S2 _ => .ok (S2, t)
  else fail S 20
def stmts (st : St → Res Tr) : Nat → St → Tr → Res Tr
  | 0, S, _ => fail S 20
  | k + 1, S, acc => if S.at (ch 125) = true then .ok (S.adv, acc) else bnd (st S) fun S1 t => stmts st k S1 (acc.app t)
def block (st : St → Res Tr) (S : St) : Res Tr :=
  if S.at (ch 123) = true ∧ S.d = 32 then fail S 21
  else bnd (take S (ch 123)) fun S1 _ => bnd (stmts st (S1.rest.length + 1) S1.down .nil) fun S2 t => .ok (S2.up, t)
def blk : Nat → St → Res Tr
  | 0, S => fail S 20
  | n + 1, S => block (stmt (blk n)) S

def function (N : Nat) (S : St) : Res Fn :=
  bnd (take S kFun) fun S1 _ => bnd (name S1) fun S2 n => bnd (take S2 (ch 40)) fun S3 _ => bnd (list (ch 41) itemName S3 []) fun S4 ps => bnd (blk N S4) fun S5 b => .ok (S5, ⟨n, ps, b⟩)
def funcs (N : Nat) : Nat → St → List Fn → Res (List Fn)
  | 0, S, acc => .ok (S, acc)
  | k + 1, S, acc => if S.rest.isEmpty = true then .ok (S, acc) else bnd (function N S) fun S1 f => funcs N k S1 (acc ++ [f])
def read (l : List Tok) (fin : Int) : Except Flt (List Fn) :=
  match funcs (l.length + 1) (l.length + 1) ⟨l, fin, 0, 0⟩ [] with
  | .error e => .error e
  | .ok (_, p) => .ok p
def parse (s : List UInt8) : Except Flt (List Fn) :=
  if (lex s).2.1 = 0 then read (lex s).1 s.length else .error (lex s).2

theorem adv_short {S : St} (h : S.rest ≠ []) : S.adv.rest.length < S.rest.length := by
  obtain ⟨rest, fin, n, d⟩ := S
  cases rest with
  | nil => exact absurd rfl h
  | cons x l => simp [St.adv]
theorem now_nil {S : St} (h : S.rest = []) : S.now = ⟨-1, em, S.fin⟩ := by
  obtain ⟨rest, fin, n, d⟩ := S
  simp only at h
  subst h; rfl
theorem at_ne {S : St} {t : ByteArray} (h : S.at t = true) (ht : t ≠ em) : S.rest ≠ [] := by
  intro h0
  have h1 : S.now.t = t := of_decide_eq_true h
  rw [now_nil h0] at h1
  exact ht h1.symm
theorem isName_ne {S : St} (h : S.isName = true) : S.rest ≠ [] := by
  intro h0
  simp only [St.isName, now_nil h0, Bool.and_eq_true] at h
  have := of_decide_eq_true h.1
  omega
structure Le (S S' : St) : Prop where
  rest : S'.rest.length ≤ S.rest.length
  n : S.n ≤ S'.n
  d : S'.d = S.d
  lim : S.n ≤ 2000 → S'.n ≤ 2000
theorem Le.refl (S : St) : Le S S := ⟨Nat.le_refl _, Nat.le_refl _, rfl, id⟩
theorem Le.trans {a b c : St} (h : Le a b) (k : Le b c) : Le a c := ⟨Nat.le_trans k.rest h.rest, Nat.le_trans h.n k.n, k.d.trans h.d, fun x => k.lim (h.lim x)⟩
theorem adv_le (S : St) : Le S S.adv := ⟨by simp [St.adv], Nat.le_refl _, rfl, id⟩
theorem bnd_ok {α β : Type} {r : Res α} {f : St → α → Res β} {S : St} {b : β} (h : bnd r f = .ok (S, b)) : ∃ S1 a, r = .ok (S1, a) ∧ f S1 a = .ok (S, b) := by
  cases r with
  | error e => cases h
  | ok p => exact ⟨p.1, p.2, rfl, h⟩
theorem take_ok {S S' : St} {t : ByteArray} {u : Unit} (h : take S t = .ok (S', u)) : S.at t = true ∧ S' = S.adv := by
  unfold take at h
  split at h
  · rename_i h1; cases h; exact ⟨h1, rfl⟩
  · cases h
theorem name_ok {S S' : St} {s : ByteArray} (h : name S = .ok (S', s)) : S.isName = true ∧ S' = S.adv := by
  unfold name at h
  split at h
  · rename_i h1; cases h; exact ⟨h1, rfl⟩
  · cases h
theorem take_le {S S' : St} {t : ByteArray} {u : Unit} (h : take S t = .ok (S', u)) : Le S S' := by rw [(take_ok h).2]; exact adv_le S
theorem take_short {S S' : St} {t : ByteArray} {u : Unit} (h : take S t = .ok (S', u)) (ht : t ≠ em) : S'.rest.length < S.rest.length := by
  rw [(take_ok h).2]; exact adv_short (at_ne (take_ok h).1 ht)
theorem name_le {S S' : St} {s : ByteArray} (h : name S = .ok (S', s)) : Le S S' := by rw [(name_ok h).2]; exact adv_le S
theorem name_short {S S' : St} {s : ByteArray} (h : name S = .ok (S', s)) : S'.rest.length < S.rest.length := by
  rw [(name_ok h).2]; exact adv_short (isName_ne (name_ok h).1)
theorem arith_ne {S : St} (h : S.atArith = true) : S.rest ≠ [] := by
  unfold St.atArith at h
  simp only [Bool.or_eq_true] at h
  rcases h with h | h | h | h | h
  all_goals exact at_ne h (by decide)
theorem num_ne {S : St} (h : S.now.k = 1) : S.rest ≠ [] := by
  intro h0
  rw [now_nil h0] at h
  simp at h
theorem operand_both {S S' : St} {o : Opd} (h : operand S = .ok (S', o)) : Le S S' ∧ S'.rest.length < S.rest.length := by
  unfold operand at h
  split at h
  · rename_i h1; cases h; exact ⟨adv_le S, adv_short (at_ne h1 (by decide))⟩
  · split at h
    · rename_i h1; cases h; exact ⟨adv_le S, adv_short (at_ne h1 (by decide))⟩
    · split at h
      · rename_i h1; cases h; exact ⟨adv_le S, adv_short (at_ne h1 (by decide))⟩
      · split at h
        · rename_i h1
          obtain ⟨S1, n, h2, h3⟩ := bnd_ok h
          cases h3
          have := adv_short (at_ne h1 (by decide))
          exact ⟨(adv_le S).trans (name_le h2), by have := name_short h2; omega⟩
        · split at h
          · rename_i h1; cases h; exact ⟨adv_le S, adv_short (num_ne h1)⟩
          · obtain ⟨S1, n, h2, h3⟩ := bnd_ok h
            cases h3
            exact ⟨name_le h2, name_short h2⟩
theorem operand_short {S S' : St} {o : Opd} (h : operand S = .ok (S', o)) : S'.rest.length < S.rest.length := (operand_both h).2
theorem operand_le {S S' : St} {o : Opd} (h : operand S = .ok (S', o)) : Le S S' := (operand_both h).1

end M
end Go.Proofs.YtkpmpnebmkeocaaGreatDoor
end
section
namespace Go.Proofs.YtkpmpnebmkeocaaGreatDoor
namespace M

theorem more_le {β : Type} {item : St → β → Res β} (hi : ∀ S b S' b', item S b = .ok (S', b') → Le S S') : ∀ (k : Nat) {S S' : St} {b b' : β}, more item k S b = .ok (S', b') → Le S S'
  | 0, S, S', b, b', h => by cases h; exact Le.refl _
  | k + 1, S, S', b, b', h => by
    unfold more at h
    split at h
    · obtain ⟨S1, b1, h1, h2⟩ := bnd_ok h
      exact ((adv_le S).trans (hi _ _ _ _ h1)).trans (more_le hi k h2)
    · cases h; exact Le.refl _
theorem list_le {β : Type} {item : St → β → Res β} (hi : ∀ S b S' b', item S b = .ok (S', b') → Le S S') {last : ByteArray} {S S' : St} {b b' : β} (h : list last item S b = .ok (S', b')) : Le S S' := by
  unfold list at h
  split at h
  · cases h; exact adv_le S
  · obtain ⟨S1, b1, h1, h2⟩ := bnd_ok h
    obtain ⟨S2, b2, h3, h4⟩ := bnd_ok h2
    obtain ⟨S3, b3, h5, h6⟩ := bnd_ok h4
    cases h6
    exact ((hi _ _ _ _ h1).trans (more_le hi _ h3)).trans (take_le h5)
theorem itemOp_le {S S' : St} {l l' : List Opd} (h : itemOp S l = .ok (S', l')) : Le S S' := by
  obtain ⟨S1, o, h1, h2⟩ := bnd_ok h
  cases h2; exact operand_le h1
theorem itemName_le {S S' : St} {l l' : List ByteArray} (h : itemName S l = .ok (S', l')) : Le S S' := by
  obtain ⟨S1, o, h1, h2⟩ := bnd_ok h
  cases h2; exact name_le h1
theorem itemProp_le {S S' : St} {l l' : List ByteArray × List Opd} (h : itemProp S l = .ok (S', l')) : Le S S' := by
  obtain ⟨S1, o, h1, h2⟩ := bnd_ok h
  obtain ⟨S2, o2, h3, h4⟩ := bnd_ok h2
  obtain ⟨S3, o3, h5, h6⟩ := bnd_ok h4
  cases h6; exact ((name_le h1).trans (take_le h3)).trans (operand_le h5)
theorem operands_le {S S' : St} {l : List Opd} (h : operands S = .ok (S', l)) : Le S S' := by
  obtain ⟨S1, o, h1, h2⟩ := bnd_ok h
  exact (take_le h1).trans (list_le (fun _ _ _ _ h => itemOp_le h) h2)
theorem oneOperand_le {S S' : St} {l : List Opd} (h : oneOperand S = .ok (S', l)) : Le S S' := by
  obtain ⟨S1, o, h1, h2⟩ := bnd_ok h
  cases h2; exact operand_le h1
theorem object_le {S S' : St} {v : Val} (h : object S = .ok (S', v)) : Le S S' := by
  obtain ⟨S1, o, h1, h2⟩ := bnd_ok h
  obtain ⟨S2, o2, h3, h4⟩ := bnd_ok h2
  obtain ⟨S3, o3, h5, h6⟩ := bnd_ok h4
  obtain ⟨S4, o4, h7, h8⟩ := bnd_ok h6
  cases h8
  exact (((take_le h1).trans (list_le (fun _ _ _ _ h => itemProp_le h) h3)).trans (take_le h5)).trans (operand_le h7)
theorem value2_le {S S' : St} {a : Opd} {v : Val} (h : value2 S a = .ok (S', v)) : Le S S' := by
  unfold value2 at h
  split at h
  · obtain ⟨S1, o, h1, h2⟩ := bnd_ok h
    cases h2; exact (adv_le S).trans (name_le h1)
  · split at h
    · obtain ⟨S1, o, h1, h2⟩ := bnd_ok h
      cases h2; exact operands_le h1
    · split at h
      · obtain ⟨S1, o, h1, h2⟩ := bnd_ok h
        cases h2; exact (adv_le S).trans (operand_le h1)
      · cases h; exact Le.refl _
theorem value_le {S S' : St} {v : Val} (h : value S = .ok (S', v)) : Le S S' := by
  unfold value at h
  split at h
  · cases h; exact adv_le S
  · split at h
    · obtain ⟨S1, o, h1, h2⟩ := bnd_ok h
      obtain ⟨S2, o2, h3, h4⟩ := bnd_ok h2
      cases h4; exact ((adv_le S).trans (name_le h1)).trans (operands_le h3)
    · split at h
      · exact (adv_le S).trans (object_le h)
      · obtain ⟨S1, o, h1, h2⟩ := bnd_ok h
        exact (operand_le h1).trans (value2_le h2)
theorem plain_both {S S' : St} {t : Tr} (h : plain S = .ok (S', t)) : Le S S' ∧ S'.rest.length < S.rest.length := by
  unfold plain at h
  split at h
  · rename_i h0
    obtain ⟨S1, o, h1, h2⟩ := bnd_ok h
    cases h2
    have := adv_short (at_ne h0 (by decide))
    have l1 := oneOperand_le h1
    exact ⟨(adv_le S).trans l1, by have := l1.rest; omega⟩
  · split at h
    · rename_i h0
      obtain ⟨S1, o, h1, h2⟩ := bnd_ok h
      cases h2
      have := adv_short (at_ne h0 (by decide))
      have l1 := oneOperand_le h1
      exact ⟨(adv_le S).trans l1, by have := l1.rest; omega⟩
    · obtain ⟨S1, x, h1, h2⟩ := bnd_ok h
      have hs := name_short h1
      have hl := name_le h1
      split at h2
      · obtain ⟨S2, o2, h3, h4⟩ := bnd_ok h2
        obtain ⟨S3, o3, h5, h6⟩ := bnd_ok h4
        obtain ⟨S4, o4, h7, h8⟩ := bnd_ok h6
        cases h8
        have hl2 := (((adv_le S1).trans (name_le h3)).trans (take_le h5)).trans (oneOperand_le h7)
        exact ⟨hl.trans hl2, by have := hl2.rest; omega⟩
      · obtain ⟨S2, o2, h3, h4⟩ := bnd_ok h2
        obtain ⟨S3, o3, h5, h6⟩ := bnd_ok h4
        cases h6
        have hl2 := (take_le h3).trans (value_le h5)
        exact ⟨hl.trans hl2, by have := hl2.rest; omega⟩

theorem atStmt_ne {S : St} (h : S.atStmt = true) : S.rest ≠ [] := by
  unfold St.atStmt at h
  simp only [Bool.or_eq_true] at h
  rcases h with h | h | h | h | h
  · exact isName_ne h
  all_goals exact at_ne h (by decide)

structure Lt (S S' : St) : Prop where
  rest : S'.rest.length < S.rest.length
  n : S.n + 1 ≤ S'.n
  d : S'.d = S.d
theorem stmt_lt {b : St → Res Tr} (hb : ∀ S S' t, b S = .ok (S', t) → Le S S') {S S' : St} {t : Tr} (h : stmt b S = .ok (S', t)) : Lt S S' := by
  unfold stmt at h
  split at h
  · rename_i ha
    have hne := atStmt_ne ha
    split at h
    · cases h
    · have hm : S.more.adv.rest.length < S.rest.length := adv_short (S := S.more) hne
      split at h
      · unfold branch at h
        obtain ⟨S1, o, h1, h2⟩ := bnd_ok h
        obtain ⟨S2, o2, h3, h4⟩ := bnd_ok h2
        have hl := (oneOperand_le h1).trans (hb _ _ _ h3)
        split at h4
        · obtain ⟨S3, o3, h5, h6⟩ := bnd_ok h4
          cases h6
          have hl2 := (hl.trans (adv_le S2)).trans (hb _ _ _ h5)
          exact ⟨by have := hl2.rest; omega, hl2.n, hl2.d⟩
        · cases h4
          exact ⟨by have := hl.rest; omega, hl.n, hl.d⟩
      · split at h
        · unfold loopS at h
          obtain ⟨S1, o, h1, h2⟩ := bnd_ok h
          obtain ⟨S2, o2, h3, h4⟩ := bnd_ok h2
          cases h4
          have hl := (oneOperand_le h1).trans (hb _ _ _ h3)
          exact ⟨by have := hl.rest; omega, hl.n, hl.d⟩
        · obtain ⟨S1, o, h1, h2⟩ := bnd_ok h
          obtain ⟨S2, o2, h3, h4⟩ := bnd_ok h2
          cases h4
          obtain ⟨hl, hs⟩ := plain_both h1
          have hl2 := hl.trans (take_le h3)
          have e : S.more.rest.length = S.rest.length := rfl
          exact ⟨by have := (take_le h3).rest; omega, hl2.n, hl2.d⟩
  · cases h
theorem stmt_lim {b : St → Res Tr} (hb : ∀ S S' t, b S = .ok (S', t) → Le S S') {S S' : St} {t : Tr} (h : stmt b S = .ok (S', t)) (hl0 : S.n ≤ 2000) : S'.n ≤ 2000 := by
  unfold stmt at h
  split at h
  · split at h
    · cases h
    · rename_i hn
      have hm : S.more.n ≤ 2000 := by show S.n + 1 ≤ 2000; omega
      split at h
      · unfold branch at h
        obtain ⟨S1, o, h1, h2⟩ := bnd_ok h
        obtain ⟨S2, o2, h3, h4⟩ := bnd_ok h2
        have hl := (oneOperand_le h1).trans (hb _ _ _ h3)
        split at h4
        · obtain ⟨S3, o3, h5, h6⟩ := bnd_ok h4
          cases h6
          exact ((hl.trans (adv_le S2)).trans (hb _ _ _ h5)).lim hm
        · cases h4
          exact hl.lim hm
      · split at h
        · unfold loopS at h
          obtain ⟨S1, o, h1, h2⟩ := bnd_ok h
          obtain ⟨S2, o2, h3, h4⟩ := bnd_ok h2
          cases h4
          exact ((oneOperand_le h1).trans (hb _ _ _ h3)).lim hm
        · obtain ⟨S1, o, h1, h2⟩ := bnd_ok h
          obtain ⟨S2, o2, h3, h4⟩ := bnd_ok h2
          cases h4
          exact ((plain_both h1).1.trans (take_le h3)).lim hm
  · cases h
theorem stmts_le {st : St → Res Tr} (hs : ∀ S S' t, st S = .ok (S', t) → Lt S S') (hl : ∀ S S' t, st S = .ok (S', t) → S.n ≤ 2000 → S'.n ≤ 2000) : ∀ (k : Nat) {S S' : St} {acc t : Tr}, stmts st k S acc = .ok (S', t) → Le S S'
  | 0, S, S', acc, t, h => by cases h
  | k + 1, S, S', acc, t, h => by
    unfold stmts at h
    split at h
    · cases h; exact adv_le S
    · obtain ⟨S1, t1, h1, h2⟩ := bnd_ok h
      have l1 := hs _ _ _ h1
      exact (⟨Nat.le_of_lt l1.rest, by have := l1.n; omega, l1.d, hl _ _ _ h1⟩ : Le S S1).trans (stmts_le hs hl k h2)
theorem block_le {st : St → Res Tr} (hs : ∀ S S' t, st S = .ok (S', t) → Lt S S') (hl : ∀ S S' t, st S = .ok (S', t) → S.n ≤ 2000 → S'.n ≤ 2000) {S S' : St} {t : Tr} (h : block st S = .ok (S', t)) : Le S S' := by
  unfold block at h
  split at h
  · cases h
  · obtain ⟨S1, u, h1, h2⟩ := bnd_ok h
    obtain ⟨S2, t2, h3, h4⟩ := bnd_ok h2
    cases h4
    have l1 := take_le h1
    have l2 := stmts_le hs hl _ h3
    refine ⟨Nat.le_trans l2.rest l1.rest, Nat.le_trans l1.n l2.n, ?_, fun x => l2.lim (l1.lim x)⟩
    show S2.d - 1 = S.d
    have e : S2.d = S1.d + 1 := l2.d
    rw [e, l1.d]; rfl
theorem blk_le : ∀ (N : Nat) {S S' : St} {t : Tr}, blk N S = .ok (S', t) → Le S S'
  | 0, S, S', t, h => by cases h
  | N + 1, S, S', t, h => block_le (fun _ _ _ h => stmt_lt (fun _ _ _ h => blk_le N h) h) (fun _ _ _ h x => stmt_lim (fun _ _ _ h => blk_le N h) h x) h
theorem stmtN_lt {N : Nat} {S S' : St} {t : Tr} (h : stmt (blk N) S = .ok (S', t)) : Lt S S' := stmt_lt (fun _ _ _ h => blk_le N h) h
theorem app_len : ∀ a b : Tr, (a.app b).len = a.len + b.len
  | .nil, b => by simp [Tr.app, Tr.len]
  | .cons _ _ _ _ _ _ _ _ nx, b => by simp only [Tr.app, Tr.len, app_len nx b]; omega
theorem function_short {N : Nat} {S S' : St} {f : Fn} (h : function N S = .ok (S', f)) : S'.rest.length + 3 ≤ S.rest.length := by
  obtain ⟨S1, u1, h1, h2⟩ := bnd_ok h
  obtain ⟨S2, u2, h3, h4⟩ := bnd_ok h2
  obtain ⟨S3, u3, h5, h6⟩ := bnd_ok h4
  obtain ⟨S4, u4, h7, h8⟩ := bnd_ok h6
  obtain ⟨S5, u5, h9, h10⟩ := bnd_ok h8
  cases h10
  have a1 := take_short h1 (by decide)
  have a2 := name_short h3
  have a3 := take_short h5 (by decide)
  have a4 := (list_le (fun _ _ _ _ h => itemName_le h) h7).rest
  have a5 := (blk_le N h9).rest
  omega
theorem app_nil : ∀ t : Tr, t.app .nil = t
  | .nil => rfl
  | .cons _ _ _ _ _ _ _ _ nx => by simp only [Tr.app, app_nil nx]
theorem app_assoc : ∀ a b c : Tr, (a.app b).app c = a.app (b.app c)
  | .nil, _, _ => rfl
  | .cons _ _ _ _ _ _ _ _ nx, b, c => by simp only [Tr.app, app_assoc nx b c]
end M
end Go.Proofs.YtkpmpnebmkeocaaGreatDoor
end
