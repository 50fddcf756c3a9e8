/-
  Plain facts on what is read: what is read may be; places shift; of two texts with a byte 10 between the tokens are those of the one, and then of the other one; a gap ahead of a token changes nothing but places. Nothing of the program is named here. No conditions but those that each fact names.
-/
import Derived.Test.YtkpmpnebmkeocaaGreatDoorMA
namespace Go.Proofs.YtkpmpnebmkeocaaGreatDoor
namespace M

theorem ext0_of_all {p : UInt8 → Bool} {l : List UInt8} (h : ∀ a, a ∈ l → p a = true) : ext p l 0 = l.length := by
  have := ext0_append p l [] h
  rw [List.append_nil] at this
  rw [this]; rfl

/-- what begins here, by its class -/
theorem nxt_cons (c : UInt8) (r : List UInt8) : nxt (c :: r) =
    if cls c.toNat = 1 then some (none, 1)
    else if cls c.toNat = 2 then some (none, ext pNl (c :: r) 0)
    else if cls c.toNat = 3 then some (some 0, ext pInn (c :: r) 0)
    else if cls c.toNat = 5 then some (some 2, 1)
    else if cls c.toNat = 4 then (if ext pDig (c :: r) 0 ≤ 9 ∧ goB (c :: r) (ext pDig (c :: r) 0) = false then some (some 1, ext pDig (c :: r) 0) else none)
    else none := rfl

/-- the ways in which something begins -/
theorem nxt_ways {l : List UInt8} {k : Option Int} {n : Nat} (h : nxt l = some (k, n)) :
    ∃ c r, l = c :: r ∧ ((cls c.toNat = 1 ∧ k = none ∧ n = 1) ∨ (cls c.toNat = 2 ∧ k = none ∧ n = ext pNl l 0) ∨ (cls c.toNat = 3 ∧ k = some 0 ∧ n = ext pInn l 0) ∨ (cls c.toNat = 5 ∧ k = some 2 ∧ n = 1) ∨
      (cls c.toNat = 4 ∧ k = some 1 ∧ n = ext pDig l 0 ∧ n ≤ 9 ∧ goB l n = false)) := by
  cases l with
  | nil => simp [nxt] at h
  | cons c r =>
    refine ⟨c, r, rfl, ?_⟩
    rw [nxt_cons] at h
    split at h
    · rename_i h1; simp only [Option.some.injEq, Prod.mk.injEq] at h; exact .inl ⟨h1, h.1.symm, h.2.symm⟩
    · split at h
      · rename_i h1; simp only [Option.some.injEq, Prod.mk.injEq] at h; exact .inr (.inl ⟨h1, h.1.symm, h.2.symm⟩)
      · split at h
        · rename_i h1; simp only [Option.some.injEq, Prod.mk.injEq] at h; exact .inr (.inr (.inl ⟨h1, h.1.symm, h.2.symm⟩))
        · split at h
          · rename_i h1; simp only [Option.some.injEq, Prod.mk.injEq] at h; exact .inr (.inr (.inr (.inl ⟨h1, h.1.symm, h.2.symm⟩)))
          · split at h
            · rename_i h1
              split at h
              · rename_i h2
                simp only [Option.some.injEq, Prod.mk.injEq] at h
                obtain ⟨rfl, rfl⟩ := h
                exact .inr (.inr (.inr (.inr ⟨h1, rfl, rfl, h2.1, h2.2⟩)))
              · cases h
            · cases h

/-- what is read may be -/
theorem nxt_may1 {l : List UInt8} {k : Int} {n : Nat} (h : nxt l = some (some k, n)) (hl : l.length ≤ 65536) (p : Int) : may1 ⟨k, ⟨(l.take n).toArray⟩, p⟩ = true := by
  have hb := nxt_bounds h
  obtain ⟨c, r, rfl, hw⟩ := nxt_ways h
  have ht : ∃ q, (c :: r).take n = c :: q := by
    obtain ⟨m, rfl⟩ : ∃ m, n = m + 1 := ⟨n - 1, by omega⟩
    exact ⟨_, List.take_succ_cons⟩
  obtain ⟨q, hq⟩ := ht
  have hlen : ((c :: r).take n).length = n := by rw [List.length_take]; omega
  have hsz : (ByteArray.mk ((c :: r).take n).toArray).size = n := by simp only [ByteArray.size, List.size_toArray]; exact hlen
  rcases hw with ⟨_, e, _⟩ | ⟨_, e, _⟩ | ⟨h3, e, hn⟩ | ⟨h5, e, hn⟩ | ⟨h4, e, hn, h9, _⟩
  · cases e
  · cases e
  · simp only [Option.some.injEq] at e; subst e
    have hs := (ext0_split pInn (c :: r)).1
    rw [← hn] at hs
    have he := ext0_of_all hs
    have : wordB ((c :: r).take n) = true := by
      rw [wordB, he, hlen, hq]
      simp only [begB, List.head?_cons, Option.any_some, h3, beq_self_eq_true, Bool.and_true, decide_eq_true_eq]
      omega
    simpa [may1] using this
  · simp only [Option.some.injEq] at e; subst e
    have : (((c :: r).take n).length == 1 && begB ((c :: r).take n) 5) = true := by
      rw [hlen, hn, ← hn, hq]
      simp [begB, h5, hn]
    simp only [may1, hsz]
    rw [hlen] at this
    simpa using this
  · simp only [Option.some.injEq] at e; subst e
    have hs := (ext0_split pDig (c :: r)).1
    rw [← hn] at hs
    have he := ext0_of_all hs
    have : numB ((c :: r).take n) = true := by
      rw [numB, he, hlen]
      simp only [hq, List.isEmpty_cons, Bool.not_false, beq_self_eq_true, Bool.and_true, Bool.true_and, decide_eq_true_eq]
      exact h9
    simpa [may1] using this

theorem lexL_may : ∀ (f p : Nat) (l : List UInt8) (ts : List Tok), l.length ≤ 65536 → lexL f p l = .ok ts → may ts = true
  | 0, p, l, ts, _, h => by simp only [lexL, Except.ok.injEq] at h; subst h; rfl
  | f + 1, p, [], ts, _, h => by simp only [lexL, Except.ok.injEq] at h; subst h; rfl
  | f + 1, p, c :: r, ts, hl, h => by
    unfold lexL at h
    cases hn : nxt (c :: r) with
    | none => rw [hn] at h; cases h
    | some q =>
      obtain ⟨k, n⟩ := q
      have hd : ((c :: r).drop n).length ≤ 65536 := by simp only [List.length_drop]; omega
      rw [hn] at h
      cases k with
      | none => simp only at h; exact lexL_may f _ _ _ hd h
      | some k =>
        simp only at h
        cases hr : lexL f (p + n) ((c :: r).drop n) with
        | error e => rw [hr] at h; cases h
        | ok us =>
          rw [hr] at h
          simp only [Except.ok.injEq] at h
          subst h
          have h1 := nxt_may1 hn hl p
          have h2 := lexL_may f _ _ _ hd hr
          simp only [may, List.all_cons, Bool.and_eq_true]
          exact ⟨h1, h2⟩

theorem lex_may (l : List UInt8) : may (lex l).1 = true := by
  unfold lex
  split
  · rfl
  · rename_i hl
    cases h : lexL l.length 0 l with
    | error e => rfl
    | ok ts => exact lexL_may _ _ _ _ (by omega) h

/-- tokens, or a fault, so much farther on -/
def shift (d : Nat) : Except Nat (List Tok) → Except Nat (List Tok)
  | .error e => .error (e + d)
  | .ok ts => .ok (ts.map fun x => ⟨x.k, x.t, x.p + d⟩)

theorem lexL_shift (d : Nat) : ∀ (f p : Nat) (l : List UInt8), lexL f (p + d) l = shift d (lexL f p l)
  | 0, p, l => rfl
  | f + 1, p, [] => rfl
  | f + 1, p, c :: r => by
    unfold lexL
    cases hn : nxt (c :: r) with
    | none => rfl
    | some q =>
      obtain ⟨k, n⟩ := q
      have ih := lexL_shift d f (p + n) ((c :: r).drop n)
      rw [show p + n + d = p + d + n by omega] at ih
      cases k with
      | none => simp only; exact ih
      | some k =>
        simp only [ih]
        cases lexL f (p + n) ((c :: r).drop n) with
        | error e => rfl
        | ok us => simp [shift]

theorem lexF_shift (d p : Nat) (l : List UInt8) : lexF (p + d) l = shift d (lexF p l) := lexL_shift d l.length p l

theorem ext0_stop10 (p : UInt8 → Bool) (h : p 10 = false) : ∀ (l m : List UInt8), ext p (l ++ 10 :: m) 0 = ext p l 0
  | [], m => by rw [List.nil_append, ext0_stop p _ (by simpa using h)]; rfl
  | c :: l, m => by
    by_cases hc : p c = true
    · have ih := ext0_stop10 p h l m
      simp only [ext, List.drop_zero, Nat.zero_add] at ih ⊢
      rw [List.cons_append, List.takeWhile_cons_of_pos hc, List.takeWhile_cons_of_pos hc, List.length_cons, List.length_cons, ih]
    · simp only [ext, List.drop_zero, Nat.zero_add]
      rw [List.cons_append, List.takeWhile_cons_of_neg hc, List.takeWhile_cons_of_neg hc]

theorem goB_stop10 (l m : List UInt8) (n : Nat) (h : n ≤ l.length) : goB (l ++ 10 :: m) n = goB l n := by
  rcases Nat.lt_or_ge n l.length with h1 | h1
  · rw [goB, goB, List.getElem?_append_left h1]
  · obtain rfl : n = l.length := by omega
    rw [goB_append, goB_end _ _ (Nat.le_refl _)]
    simp only [List.head?_cons, Option.any_some]; decide

theorem nxt_parts (c : UInt8) (r m : List UInt8) : nxt (c :: r ++ 10 :: m) = nxt (c :: r) := by
  have e1 := ext0_stop10 pNl (by decide) (c :: r) m
  have e2 := ext0_stop10 pInn (by decide) (c :: r) m
  have e3 := ext0_stop10 pDig (by decide) (c :: r) m
  have e4 := goB_stop10 (c :: r) m (ext pDig (c :: r) 0) (ext_le _ _ _ (Nat.zero_le _))
  rw [List.cons_append] at e1 e2 e3 e4 ⊢
  rw [nxt_cons, nxt_cons, e1, e2, e3, e4]

/-- two texts with a byte 10 between -/
theorem lexF_parts : ∀ (f : Nat) (l m : List UInt8) (p : Nat), l.length ≤ f →
    lexF p (l ++ 10 :: m) = match lexF p l with
      | .error e => .error e
      | .ok ts => pre ts (lexF (p + l.length + 1) m)
  | f, [], m, p, _ => by
    rw [List.nil_append, lexF_blank 10 m (by decide), lexF_nil]
    simp only [List.length_nil, Nat.add_zero, pre_nil]
  | 0, c :: r, m, p, h => by simp at h
  | f + 1, c :: r, m, p, h => by
    have e := nxt_parts c r m
    cases hn : nxt (c :: r) with
    | none =>
      rw [hn] at e
      rw [lexF_none (by simp) e, lexF_none (by simp) hn]
    | some q =>
      obtain ⟨k, n⟩ := q
      have hb := nxt_bounds hn
      rw [hn] at e
      have hd : (c :: r ++ 10 :: m).drop n = (c :: r).drop n ++ 10 :: m := List.drop_append_of_le_length hb.2
      have ht : (c :: r ++ 10 :: m).take n = (c :: r).take n := List.take_append_of_le_length hb.2
      have ih := lexF_parts f ((c :: r).drop n) m (p + n) (by simp only [List.length_drop]; omega)
      have hlen : p + n + ((c :: r).drop n).length + 1 = p + (c :: r).length + 1 := by simp only [List.length_drop]; omega
      rw [hlen] at ih
      cases k with
      | none => rw [lexF_skip e, lexF_skip hn, hd, ih]
      | some k =>
        rw [lexF_tok e, lexF_tok hn, hd, ht, ih]
        cases lexF (p + n) ((c :: r).drop n) with
        | error e => rfl
        | ok us => exact pre_pre _ _ _

end M
end Go.Proofs.YtkpmpnebmkeocaaGreatDoor
