/-
  Plain facts on what a source is made of: the tokens of bytes, or the place of the first fault, said by functions on lists. Nothing of the program is named here. No conditions.
-/
import Derived.Test.YtkonkdhoakcmdaaDoorMathB
namespace Go.Proofs.YtkonkdhoakcmdaaDoor
namespace M

/-- what begins here: nothing, or what is skipped (no kind), or a token's kind; and how long it is -/
def nxt (l : List UInt8) : Option (Option Int × Nat) :=
  match l with
  | [] => none
  | c :: _ =>
    if cls c.toNat = 1 then some (none, 1)
    else if cls c.toNat = 2 then some (none, ext pNl l 0)
    else if cls c.toNat = 3 then some (some 0, ext pInn l 0)
    else if cls c.toNat = 5 then some (some 2, 1)
    else if cls c.toNat = 4 then (if ext pDig l 0 ≤ 9 ∧ goB l (ext pDig l 0) = false then some (some 1, ext pDig l 0) else none)
    else none

/-- the tokens from the place p on, where l stands; or the place of the first fault -/
def lexL : Nat → Nat → List UInt8 → Except Nat (List Tok)
  | 0, _, _ => .ok []
  | _ + 1, _, [] => .ok []
  | f + 1, p, c :: r =>
    match nxt (c :: r) with
    | none => .error p
    | some (none, n) => lexL f (p + n) ((c :: r).drop n)
    | some (some k, n) =>
      match lexL f (p + n) ((c :: r).drop n) with
      | .error e => .error e
      | .ok ts => .ok (⟨k, ⟨((c :: r).take n).toArray⟩, p⟩ :: ts)

def lex (l : List UInt8) : List Tok × Int × Int :=
  if 65536 < l.length then ([], 11, 0)
  else match lexL l.length 0 l with
    | .error e => ([], 10, e)
    | .ok ts => (ts, 0, 0)

def pre (acc : List Tok) : Except Nat (List Tok) → Except Nat (List Tok)
  | .error e => .error e
  | .ok ts => .ok (acc ++ ts)

theorem pre_nil (r : Except Nat (List Tok)) : pre [] r = r := by cases r <;> rfl
theorem pre_pre (a b : List Tok) (r : Except Nat (List Tok)) : pre a (pre b r) = pre (a ++ b) r := by cases r <;> simp [pre]

theorem ext_drop (p : UInt8 → Bool) (l : List UInt8) (k : Nat) : ext p l k = k + ext p (l.drop k) 0 := by simp [ext]
theorem goB_drop (l : List UInt8) (k n : Nat) : goB (l.drop k) n = goB l (k + n) := by simp [goB]

theorem cls_pInn (c : UInt8) (h : cls c.toNat = 3 ∨ cls c.toNat = 4 ∨ cls c.toNat = 6) : pInn c = true := decide_eq_true h
theorem cls_pDig (c : UInt8) (h : cls c.toNat = 4) : pDig c = true := decide_eq_true h
theorem cls_pNl (c : UInt8) (h : cls c.toNat = 2) : pNl c = true := by
  apply decide_eq_true
  intro e
  rw [e] at h
  exact absurd h (by decide)

theorem ext_pos (p : UInt8 → Bool) (c : UInt8) (r : List UInt8) (h : p c = true) : 1 ≤ ext p (c :: r) 0 := by
  simp [ext, List.takeWhile_cons_of_pos h]

theorem nxt_bounds {l : List UInt8} {k : Option Int} {n : Nat} (h : nxt l = some (k, n)) : 1 ≤ n ∧ n ≤ l.length := by
  cases l with
  | nil => simp [nxt] at h
  | cons c r =>
    unfold nxt at h
    simp only at h
    split at h
    · simp only [Option.some.injEq, Prod.mk.injEq] at h; obtain ⟨_, rfl⟩ := h; simp
    · split at h
      · rename_i h2
        simp only [Option.some.injEq, Prod.mk.injEq] at h; obtain ⟨_, rfl⟩ := h
        exact ⟨ext_pos _ _ _ (cls_pNl _ h2), ext_le _ _ _ (Nat.zero_le _)⟩
      · split at h
        · rename_i h3
          simp only [Option.some.injEq, Prod.mk.injEq] at h; obtain ⟨_, rfl⟩ := h
          exact ⟨ext_pos _ _ _ (cls_pInn _ (.inl h3)), ext_le _ _ _ (Nat.zero_le _)⟩
        · split at h
          · simp only [Option.some.injEq, Prod.mk.injEq] at h; obtain ⟨_, rfl⟩ := h; simp
          · split at h
            · rename_i h4
              split at h
              · simp only [Option.some.injEq, Prod.mk.injEq] at h; obtain ⟨_, rfl⟩ := h
                exact ⟨ext_pos _ _ _ (cls_pDig _ h4), ext_le _ _ _ (Nat.zero_le _)⟩
              · cases h
            · cases h

theorem lexL_nil (f p : Nat) : lexL f p [] = .ok [] := by cases f <;> rfl

theorem lexL_fuel : ∀ (f p : Nat) (l : List UInt8), l.length ≤ f → lexL f p l = lexL l.length p l
  | 0, p, l, h => by
    have : l = [] := List.length_eq_zero_iff.1 (by omega)
    subst this; rfl
  | f + 1, p, [], _ => rfl
  | f + 1, p, c :: r, h => by
    simp only [List.length_cons] at h ⊢
    unfold lexL
    cases hn : nxt (c :: r) with
    | none => rfl
    | some q =>
      obtain ⟨k, n⟩ := q
      have hb := nxt_bounds hn
      simp only [List.length_cons] at hb
      have hd : ((c :: r).drop n).length ≤ r.length := by simp only [List.length_drop, List.length_cons]; omega
      have e1 := lexL_fuel f (p + n) ((c :: r).drop n) (by omega)
      have e2 := lexL_fuel r.length (p + n) ((c :: r).drop n) hd
      cases k with
      | none => simp only [e1, e2]
      | some k => simp only [e1, e2]

/-- the tokens from a place on, with just the fuel that is wanted -/
def lexF (p : Nat) (l : List UInt8) : Except Nat (List Tok) := lexL l.length p l

theorem lexF_nil (p : Nat) : lexF p [] = .ok [] := rfl
theorem lexF_none {p : Nat} {l : List UInt8} (h0 : l ≠ []) (h : nxt l = none) : lexF p l = .error p := by
  cases l with
  | nil => exact absurd rfl h0
  | cons c r => simp only [lexF, List.length_cons, lexL, h]
theorem lexF_skip {p n : Nat} {l : List UInt8} (h : nxt l = some (none, n)) : lexF p l = lexF (p + n) (l.drop n) := by
  have hb := nxt_bounds h
  cases l with
  | nil => simp [nxt] at h
  | cons c r =>
    simp only [List.length_cons] at hb
    simp only [lexF, List.length_cons, lexL, h]
    exact lexL_fuel _ _ _ (by simp only [List.length_drop, List.length_cons]; omega)
theorem lexF_tok {p n : Nat} {k : Int} {l : List UInt8} (h : nxt l = some (some k, n)) : lexF p l = pre [⟨k, ⟨(l.take n).toArray⟩, p⟩] (lexF (p + n) (l.drop n)) := by
  have hb := nxt_bounds h
  cases l with
  | nil => simp [nxt] at h
  | cons c r =>
    simp only [List.length_cons] at hb
    simp only [lexF, List.length_cons, lexL, h]
    rw [lexL_fuel r.length _ _ (by simp only [List.length_drop, List.length_cons]; omega)]
    cases lexL ((c :: r).drop n).length (p + n) ((c :: r).drop n) <;> rfl

/-- the state of a round: the tokens so far, and the place -/
def At (l : List UInt8) (k : Nat) (acc : List Tok) : Prop := k ≤ l.length ∧ acc.length ≤ k ∧ pre acc (lexF k (l.drop k)) = lexF 0 l

theorem At.start (l : List UInt8) : At l 0 [] := ⟨Nat.zero_le _, Nat.le_refl _, by rw [pre_nil]; rfl⟩
theorem At.done {l : List UInt8} {k : Nat} {acc : List Tok} (h : At l k acc) (hk : l.length ≤ k) : lexF 0 l = .ok acc := by
  rw [← h.2.2, List.drop_eq_nil_of_le hk, lexF_nil, pre, List.append_nil]
theorem At.bad {l : List UInt8} {k : Nat} {acc : List Tok} (h : At l k acc) (hk : k < l.length) (hn : nxt (l.drop k) = none) : lexF 0 l = .error k := by
  rw [← h.2.2, lexF_none (by intro e; have := congrArg List.length e; simp at this; omega) hn]; rfl
theorem At.skip {l : List UInt8} {k m : Nat} {acc : List Tok} (h : At l k acc) (hn : nxt (l.drop k) = some (none, m)) : At l (k + m) acc := by
  have hb := nxt_bounds hn
  simp only [List.length_drop] at hb
  refine ⟨by omega, by have := h.2.1; omega, ?_⟩
  rw [← h.2.2, lexF_skip hn, List.drop_drop]
theorem At.tok {l : List UInt8} {k m : Nat} {x : Int} {acc : List Tok} (h : At l k acc) (hn : nxt (l.drop k) = some (some x, m)) : At l (k + m) (acc ++ [⟨x, ⟨((l.drop k).take m).toArray⟩, k⟩]) := by
  have hb := nxt_bounds hn
  simp only [List.length_drop] at hb
  refine ⟨by omega, by have := h.2.1; simp; omega, ?_⟩
  rw [← h.2.2, lexF_tok hn, List.drop_drop, pre_pre]

/-- what begins at k, by the class of the byte there -/
theorem nxt_at (l : List UInt8) (k : Nat) (h : k < l.length) : nxt (l.drop k) =
    if cls l[k].toNat = 1 then some (none, 1)
    else if cls l[k].toNat = 2 then some (none, ext pNl l k - k)
    else if cls l[k].toNat = 3 then some (some 0, ext pInn l k - k)
    else if cls l[k].toNat = 5 then some (some 2, 1)
    else if cls l[k].toNat = 4 then (if ext pDig l k - k ≤ 9 ∧ goB l (ext pDig l k) = false then some (some 1, ext pDig l k - k) else none)
    else none := by
  have e : ∀ p, ext p (l.drop k) 0 = ext p l k - k := fun p => by have := ext_drop p l k; omega
  have e2 : goB (l.drop k) (ext pDig l k - k) = goB l (ext pDig l k) := by
    rw [goB_drop]; congr 1; have := ext_ge pDig l k; omega
  have hd := List.drop_eq_getElem_cons h
  have : nxt (l.drop k) = (if cls l[k].toNat = 1 then some (none, 1)
    else if cls l[k].toNat = 2 then some (none, ext pNl (l.drop k) 0)
    else if cls l[k].toNat = 3 then some (some 0, ext pInn (l.drop k) 0)
    else if cls l[k].toNat = 5 then some (some 2, 1)
    else if cls l[k].toNat = 4 then (if ext pDig (l.drop k) 0 ≤ 9 ∧ goB (l.drop k) (ext pDig (l.drop k) 0) = false then some (some 1, ext pDig (l.drop k) 0) else none)
    else none) := by
    conv => lhs; rw [hd]
    rw [hd]; rfl
  rw [this, e, e, e, e2]

end M
end Go.Proofs.YtkonkdhoakcmdaaDoor
