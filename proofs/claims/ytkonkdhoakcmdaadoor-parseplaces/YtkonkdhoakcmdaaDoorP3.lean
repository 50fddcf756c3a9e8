/-
  Plain facts on programs: what is read of tokens is read of them with others behind, elsewhere, and with more statements ahead, too; or there are too many statements. Nothing of the program is named here. No conditions.
-/
import Derived.Test.YtkonkdhoakcmdaaDoorP2
set_option linter.unusedVariables false
namespace Go.Proofs.YtkonkdhoakcmdaaDoor
namespace M

/-- a token elsewhere -/
def Tok.mv (δ : Int) (x : Tok) : Tok := ⟨x.k, x.t, x.p + δ⟩
/-- the same, elsewhere, with m behind, and c statements ahead -/
structure Mv where
  δ : Int
  m : List Tok
  fin : Int
  c : Nat
def Mv.T (v : Mv) (S : St) : St := ⟨S.rest.map (Tok.mv v.δ) ++ v.m, v.fin, S.n + v.c, S.d⟩
theorem may1_mv (δ : Int) (x : Tok) : may1 (x.mv δ) = may1 x := rfl
theorem T_now (v : Mv) {S : St} (h : S.rest ≠ []) : (v.T S).now.k = S.now.k ∧ (v.T S).now.t = S.now.t := by
  obtain ⟨rest, fin, n, d⟩ := S
  cases rest with
  | nil => exact absurd rfl h
  | cons x l =>
    show (if may1 (x.mv v.δ) = true then x.mv v.δ else ⟨-1, em, (x.mv v.δ).p⟩ : Tok).k = (if may1 x = true then x else ⟨-1, em, x.p⟩ : Tok).k ∧ (if may1 (x.mv v.δ) = true then x.mv v.δ else ⟨-1, em, (x.mv v.δ).p⟩ : Tok).t = (if may1 x = true then x else ⟨-1, em, x.p⟩ : Tok).t
    rw [may1_mv]
    split <;> exact ⟨rfl, rfl⟩
theorem T_at (v : Mv) {S : St} (h : S.rest ≠ []) (t : ByteArray) : (v.T S).at t = S.at t := by unfold St.at; rw [(T_now v h).2]
theorem T_isName (v : Mv) {S : St} (h : S.rest ≠ []) : (v.T S).isName = S.isName := by unfold St.isName; rw [(T_now v h).1, (T_now v h).2]
theorem T_arith (v : Mv) {S : St} (h : S.rest ≠ []) : (v.T S).atArith = S.atArith := by unfold St.atArith; simp only [T_at v h]
theorem T_stmt (v : Mv) {S : St} (h : S.rest ≠ []) : (v.T S).atStmt = S.atStmt := by unfold St.atStmt; simp only [T_at v h, T_isName v h]
theorem T_adv (v : Mv) {S : St} (h : S.rest ≠ []) : (v.T S).adv = v.T S.adv := by
  obtain ⟨rest, fin, n, d⟩ := S
  cases rest with
  | nil => exact absurd rfl h
  | cons x l => rfl
theorem T_more (v : Mv) (S : St) : (v.T S).more = v.T S.more := by
  unfold St.more Mv.T; simp only [St.mk.injEq, true_and, and_true]; omega
theorem T_len (v : Mv) (S : St) : S.rest.length ≤ (v.T S).rest.length := by simp [Mv.T]

/-- so it is read, or there are too many statements -/
def To {α : Type} (v : Mv) (S : St) (a : α) (r : Res α) : Prop := r = .ok (v.T S, a) ∨ ∃ q, r = .error (22, q)
theorem To.bnd {α β : Type} {v : Mv} {S1 S : St} {a : α} {b : β} {r : Res α} {f : St → α → Res β} (h : To v S1 a r) (hf : To v S b (f (v.T S1) a)) : To v S b (bnd r f) := by
  rcases h with h | ⟨q, h⟩
  · rw [h]; exact hf
  · exact .inr ⟨q, by rw [h]; rfl⟩
theorem ne_of_le {S S' : St} (h : Le S S') (hn : S'.rest ≠ []) : S.rest ≠ [] := by
  intro e
  have := h.rest
  rw [e] at this
  exact hn (List.length_eq_zero_iff.1 (by simpa using this))

theorem take_T (v : Mv) {S S' : St} {t : ByteArray} {u : Unit} (ht : t ≠ em) (h : take S t = .ok (S', u)) : To v S' u (take (v.T S) t) := by
  obtain ⟨h1, rfl⟩ := take_ok h
  have hn := at_ne h1 ht
  left
  unfold take
  rw [if_pos (by rw [T_at v hn]; exact h1), T_adv v hn]
theorem name_T (v : Mv) {S S' : St} {s : ByteArray} (h : name S = .ok (S', s)) : To v S' s (name (v.T S)) := by
  have h0 := h
  obtain ⟨h1, rfl⟩ := name_ok h
  have hn := isName_ne h1
  unfold name at h0
  rw [if_pos h1] at h0
  cases h0
  left
  unfold name
  rw [if_pos (by rw [T_isName v hn]; exact h1), T_adv v hn, (T_now v hn).2]
theorem operand_T (v : Mv) {S S' : St} {o : Opd} (h : operand S = .ok (S', o)) : To v S' o (operand (v.T S)) := by
  have hn : S.rest ≠ [] := by
    intro e
    have := operand_short h
    rw [e] at this
    simp at this
  have e1 := T_now v hn
  unfold operand at h ⊢
  simp only [T_at v hn, e1.1, e1.2, T_adv v hn]
  split at h
  · rename_i h1; rw [if_pos h1]; cases h; exact .inl rfl
  · rename_i h1; rw [if_neg h1]
    split at h
    · rename_i h2; rw [if_pos h2]; cases h; exact .inl rfl
    · rename_i h2; rw [if_neg h2]
      split at h
      · rename_i h3; rw [if_pos h3]; cases h; exact .inl rfl
      · rename_i h3; rw [if_neg h3]
        split at h
        · rename_i h4; rw [if_pos h4]
          obtain ⟨S1, n, h5, h6⟩ := bnd_ok h
          cases h6
          exact (name_T v h5).bnd (.inl rfl)
        · rename_i h4; rw [if_neg h4]
          split at h
          · rename_i h5; rw [if_pos h5]; cases h; exact .inl rfl
          · rename_i h5; rw [if_neg h5]
            obtain ⟨S1, n, h6, h7⟩ := bnd_ok h
            cases h7
            exact (name_T v h6).bnd (.inl rfl)

theorem more_T (v : Mv) {β : Type} {item : St → β → Res β} (hi : ∀ S b S' b', item S b = .ok (S', b') → To v S' b' (item (v.T S) b)) (hl : ∀ S b S' b', item S b = .ok (S', b') → Le S S' ∧ S'.rest.length < S.rest.length) :
    ∀ (k k' : Nat) {S S' : St} {b b' : β}, S.rest.length ≤ k → k ≤ k' → more item k S b = .ok (S', b') → S'.rest ≠ [] → To v S' b' (more item k' (v.T S) b)
  | 0, k', S, S', b, b', hk, hkk, h, hn => by
    cases h
    exact absurd (List.length_eq_zero_iff.1 (Nat.le_zero.1 hk)) hn
  | k + 1, 0, S, S', b, b', hk, hkk, h, hn => by omega
  | k + 1, k' + 1, S, S', b, b', hk, hkk, h, hn => by
    have hle := more_le (fun S b S' b' h => (hl S b S' b' h).1) _ h
    have hS := ne_of_le hle hn
    unfold more at h ⊢
    rw [T_at v hS]
    split at h
    · rename_i h1
      rw [if_pos h1, T_adv v hS]
      obtain ⟨S1, b1, h2, h3⟩ := bnd_ok h
      have ha := adv_short (S := S) hS
      exact (hi _ _ _ _ h2).bnd (more_T v hi hl k k' (by have := (hl _ _ _ _ h2).2; omega) (by omega) h3 hn)
    · rename_i h1
      rw [if_neg h1]
      cases h
      exact .inl rfl
theorem list_T (v : Mv) {β : Type} {item : St → β → Res β} (hi : ∀ S b S' b', item S b = .ok (S', b') → To v S' b' (item (v.T S) b)) (hl : ∀ S b S' b', item S b = .ok (S', b') → Le S S' ∧ S'.rest.length < S.rest.length)
    {last : ByteArray} (hlast : last ≠ em) {S S' : St} {b b' : β} (h : list last item S b = .ok (S', b')) : To v S' b' (list last item (v.T S) b) := by
  unfold list at h ⊢
  split at h
  · rename_i h1
    have hn := at_ne h1 hlast
    rw [if_pos (by rw [T_at v hn]; exact h1), T_adv v hn]
    cases h
    exact .inl rfl
  · rename_i h1
    obtain ⟨S1, b1, h2, h3⟩ := bnd_ok h
    obtain ⟨S2, b2, h4, h5⟩ := bnd_ok h3
    obtain ⟨S3, b3, h6, h7⟩ := bnd_ok h5
    cases h7
    have hn : S.rest ≠ [] := by
      intro e
      have := (hl _ _ _ _ h2).2
      rw [e] at this
      simp at this
    have hn2 : S2.rest ≠ [] := at_ne (take_ok h6).1 hlast
    rw [if_neg (by rw [T_at v hn]; exact h1)]
    exact (hi _ _ _ _ h2).bnd ((more_T v hi hl _ _ (Nat.le_refl _) (T_len v S1) h4 hn2).bnd ((take_T v hlast h6).bnd (.inl rfl)))
theorem itemOp_T (v : Mv) (S : St) (l : List Opd) (S' : St) (l' : List Opd) (h : itemOp S l = .ok (S', l')) : To v S' l' (itemOp (v.T S) l) := by
  obtain ⟨S1, o, h1, h2⟩ := bnd_ok h
  cases h2
  exact (operand_T v h1).bnd (.inl rfl)
theorem itemName_T (v : Mv) (S : St) (l : List ByteArray) (S' : St) (l' : List ByteArray) (h : itemName S l = .ok (S', l')) : To v S' l' (itemName (v.T S) l) := by
  obtain ⟨S1, o, h1, h2⟩ := bnd_ok h
  cases h2
  exact (name_T v h1).bnd (.inl rfl)
theorem itemProp_T (v : Mv) (S : St) (l : List ByteArray × List Opd) (S' : St) (l' : List ByteArray × List Opd) (h : itemProp S l = .ok (S', l')) : To v S' l' (itemProp (v.T S) l) := by
  obtain ⟨S1, o, h1, h2⟩ := bnd_ok h
  obtain ⟨S2, o2, h3, h4⟩ := bnd_ok h2
  obtain ⟨S3, o3, h5, h6⟩ := bnd_ok h4
  cases h6
  exact (name_T v h1).bnd ((take_T v (by decide) h3).bnd ((operand_T v h5).bnd (.inl rfl)))
theorem itemOp_b (S : St) (l : List Opd) (S' : St) (l' : List Opd) (h : itemOp S l = .ok (S', l')) : Le S S' ∧ S'.rest.length < S.rest.length := by
  refine ⟨itemOp_le h, ?_⟩
  obtain ⟨S1, o, h1, h2⟩ := bnd_ok h
  cases h2
  exact operand_short h1
theorem itemName_b (S : St) (l : List ByteArray) (S' : St) (l' : List ByteArray) (h : itemName S l = .ok (S', l')) : Le S S' ∧ S'.rest.length < S.rest.length := by
  refine ⟨itemName_le h, ?_⟩
  obtain ⟨S1, o, h1, h2⟩ := bnd_ok h
  cases h2
  exact name_short h1
theorem itemProp_b (S : St) (l : List ByteArray × List Opd) (S' : St) (l' : List ByteArray × List Opd) (h : itemProp S l = .ok (S', l')) : Le S S' ∧ S'.rest.length < S.rest.length := by
  refine ⟨itemProp_le h, ?_⟩
  obtain ⟨S1, o, h1, h2⟩ := bnd_ok h
  obtain ⟨S2, o2, h3, h4⟩ := bnd_ok h2
  obtain ⟨S3, o3, h5, h6⟩ := bnd_ok h4
  cases h6
  have := name_short h1
  have := (take_le h3).rest
  have := operand_short h5
  omega
theorem operands_T (v : Mv) {S S' : St} {l : List Opd} (h : operands S = .ok (S', l)) : To v S' l (operands (v.T S)) := by
  obtain ⟨S1, o, h1, h2⟩ := bnd_ok h
  exact (take_T v (by decide) h1).bnd (list_T v (itemOp_T v) itemOp_b (by decide) h2)
theorem oneOperand_T (v : Mv) {S S' : St} {l : List Opd} (h : oneOperand S = .ok (S', l)) : To v S' l (oneOperand (v.T S)) := by
  obtain ⟨S1, o, h1, h2⟩ := bnd_ok h
  cases h2
  exact (operand_T v h1).bnd (.inl rfl)
theorem object_T (v : Mv) {S S' : St} {x : Val} (h : object S = .ok (S', x)) : To v S' x (object (v.T S)) := by
  obtain ⟨S1, o, h1, h2⟩ := bnd_ok h
  obtain ⟨S2, o2, h3, h4⟩ := bnd_ok h2
  obtain ⟨S3, o3, h5, h6⟩ := bnd_ok h4
  obtain ⟨S4, o4, h7, h8⟩ := bnd_ok h6
  cases h8
  exact (take_T v (by decide) h1).bnd ((list_T v (itemProp_T v) itemProp_b (by decide) h3).bnd ((take_T v (by decide) h5).bnd ((operand_T v h7).bnd (.inl rfl))))
theorem value2_T (v : Mv) {S S' : St} {a : Opd} {x : Val} (h : value2 S a = .ok (S', x)) (hn : S'.rest ≠ []) : To v S' x (value2 (v.T S) a) := by
  have hS := ne_of_le (value2_le h) hn
  unfold value2 at h ⊢
  simp only [T_at v hS, T_arith v hS, T_adv v hS, (T_now v hS).2]
  split at h
  · rename_i h1; rw [if_pos h1]
    obtain ⟨S1, o, h2, h3⟩ := bnd_ok h
    cases h3; exact (name_T v h2).bnd (.inl rfl)
  · rename_i h1; rw [if_neg h1]
    split at h
    · rename_i h2; rw [if_pos h2]
      obtain ⟨S1, o, h3, h4⟩ := bnd_ok h
      cases h4; exact (operands_T v h3).bnd (.inl rfl)
    · rename_i h2; rw [if_neg h2]
      split at h
      · rename_i h3; rw [if_pos h3]
        obtain ⟨S1, o, h4, h5⟩ := bnd_ok h
        cases h5; exact (operand_T v h4).bnd (.inl rfl)
      · rename_i h3; rw [if_neg h3]
        cases h; exact .inl rfl
theorem value_T (v : Mv) {S S' : St} {x : Val} (h : value S = .ok (S', x)) (hn : S'.rest ≠ []) : To v S' x (value (v.T S)) := by
  have hS := ne_of_le (value_le h) hn
  unfold value at h ⊢
  simp only [T_at v hS, T_adv v hS]
  split at h
  · rename_i h1; rw [if_pos h1]; cases h; exact .inl rfl
  · rename_i h1; rw [if_neg h1]
    split at h
    · rename_i h2; rw [if_pos h2]
      obtain ⟨S1, o, h3, h4⟩ := bnd_ok h
      obtain ⟨S2, o2, h5, h6⟩ := bnd_ok h4
      cases h6; exact (name_T v h3).bnd ((operands_T v h5).bnd (.inl rfl))
    · rename_i h2; rw [if_neg h2]
      split at h
      · rename_i h3; rw [if_pos h3]; exact object_T v h
      · rename_i h3; rw [if_neg h3]
        obtain ⟨S1, o, h4, h5⟩ := bnd_ok h
        exact (operand_T v h4).bnd (value2_T v h5 hn)
theorem plain_T (v : Mv) {S S' : St} {t : Tr} (h : plain S = .ok (S', t)) (hn : S'.rest ≠ []) : To v S' t (plain (v.T S)) := by
  have hS := ne_of_le (plain_both h).1 hn
  unfold plain at h ⊢
  simp only [T_at v hS, T_adv v hS]
  split at h
  · rename_i h1; rw [if_pos h1]
    obtain ⟨S1, o, h2, h3⟩ := bnd_ok h
    cases h3; exact (oneOperand_T v h2).bnd (.inl rfl)
  · rename_i h1; rw [if_neg h1]
    split at h
    · rename_i h2; rw [if_pos h2]
      obtain ⟨S1, o, h3, h4⟩ := bnd_ok h
      cases h4; exact (oneOperand_T v h3).bnd (.inl rfl)
    · rename_i h2; rw [if_neg h2]
      obtain ⟨S1, x, h3, h4⟩ := bnd_ok h
      refine (name_T v h3).bnd ?_
      split at h4
      · rename_i h5
        have hS1 := at_ne h5 (by decide)
        rw [if_pos (by rw [T_at v hS1]; exact h5), T_adv v hS1]
        obtain ⟨S2, o2, h6, h7⟩ := bnd_ok h4
        obtain ⟨S3, o3, h8, h9⟩ := bnd_ok h7
        obtain ⟨S4, o4, h10, h11⟩ := bnd_ok h9
        cases h11
        exact (name_T v h6).bnd ((take_T v (by decide) h8).bnd ((oneOperand_T v h10).bnd (.inl rfl)))
      · rename_i h5
        obtain ⟨S2, o2, h6, h7⟩ := bnd_ok h4
        obtain ⟨S3, o3, h8, h9⟩ := bnd_ok h7
        cases h9
        have hS1 := at_ne (take_ok h6).1 (by decide)
        rw [if_neg (by rw [T_at v hS1]; exact h5)]
        exact (take_T v (by decide) h6).bnd ((value_T v h8 hn).bnd (.inl rfl))
end M
end Go.Proofs.YtkonkdhoakcmdaaDoor
