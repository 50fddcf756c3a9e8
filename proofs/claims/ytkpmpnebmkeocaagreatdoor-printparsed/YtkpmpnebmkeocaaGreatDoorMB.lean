/-
  Plain facts on programs: what is read of tokens is read of them with others behind, elsewhere, and with more statements ahead, too; or there are too many statements. Nothing of the program is named here. No conditions. Plain facts on programs: of two texts that are programs, one behind the other with a byte 10 between, the program has the functions of the one, and then of the other one; or there are too many statements. Nothing of the program is named here. Conditions: the two together are short enough to be a source. Plain facts on the reader: a fault's code is never 0; a program has no more functions than its source has tokens. Nothing of the program is named here. No conditions.
-/
import Derived.Test.YtkpmpnebmkeocaaGreatDoorMA
import Derived.Test.YtkpmpnebmkeocaaGreatDoorMathF
section
set_option linter.unusedVariables false
namespace Go.Proofs.YtkpmpnebmkeocaaGreatDoor
namespace M

/-- a token elsewhere -/
def Tok.mv (δ : Int) (x : Tok) : Tok := ⟨x.k, x.t, x.p + δ⟩
/-- the same, elsewhere, with m behind, and c statements ahead -/
structure Mv where
  δ : Int
  m : List Tok
  fin : Int
  c : Nat
def Mv.T (v : Mv) (S : St) : St := ⟨S.rest.map (Tok.mv v.δ) ++ v.m, v.fin, S.n + v.c, S.d⟩
theorem may1_mv (δ : Int) (x : Tok) : may1 (x.mv δ) = may1 x := rfl
theorem T_now (v : Mv) {S : St} (h : S.rest ≠ []) : (v.T S).now.k = S.now.k ∧ (v.T S).now.t = S.now.t := by
  obtain ⟨rest, fin, n, d⟩ := S
  cases rest with
  | nil => exact absurd rfl h
  | cons x l =>
    show (if may1 (x.mv v.δ) = true then x.mv v.δ else ⟨-1, em, (x.mv v.δ).p⟩ : Tok).k = (if may1 x = true then x else ⟨-1, em, x.p⟩ : Tok).k ∧ (if may1 (x.mv v.δ) = true then x.mv v.δ else ⟨-1, em, (x.mv v.δ).p⟩ : Tok).t = (if may1 x = true then x else ⟨-1, em, x.p⟩ : Tok).t
    rw [may1_mv]
    split <;> exact ⟨rfl, rfl⟩
theorem T_at (v : Mv) {S : St} (h : S.rest ≠ []) (t : ByteArray) : (v.T S).at t = S.at t := by unfold St.at; rw [(T_now v h).2]
theorem T_isName (v : Mv) {S : St} (h : S.rest ≠ []) : (v.T S).isName = S.isName := by unfold St.isName; rw [(T_now v h).1, (T_now v h).2]
theorem T_arith (v : Mv) {S : St} (h : S.rest ≠ []) : (v.T S).atArith = S.atArith := by unfold St.atArith; simp only [T_at v h]
theorem T_stmt (v : Mv) {S : St} (h : S.rest ≠ []) : (v.T S).atStmt = S.atStmt := by unfold St.atStmt; simp only [T_at v h, T_isName v h]
theorem T_adv (v : Mv) {S : St} (h : S.rest ≠ []) : (v.T S).adv = v.T S.adv := by
  obtain ⟨rest, fin, n, d⟩ := S
  cases rest with
  | nil => exact absurd rfl h
  | cons x l => rfl
theorem T_more (v : Mv) (S : St) : (v.T S).more = v.T S.more := by
  unfold St.more Mv.T; simp only [St.mk.injEq, true_and, and_true]; omega
theorem T_len (v : Mv) (S : St) : S.rest.length ≤ (v.T S).rest.length := by simp [Mv.T]

/-- so it is read, or there are too many statements -/
def To {α : Type} (v : Mv) (S : St) (a : α) (r : Res α) : Prop := r = .ok (v.T S, a) ∨ ∃ q, r = .error (22, q)
theorem To.bnd {α β : Type} {v : Mv} {S1 S : St} {a : α} {b : β} {r : Res α} {f : St → α → Res β} (h : To v S1 a r) (hf : To v S b (f (v.T S1) a)) : To v S b (bnd r f) := by
  rcases h with h | ⟨q, h⟩
  · rw [h]; exact hf
  · exact .inr ⟨q, by rw [h]; rfl⟩
theorem ne_of_le {S S' : St} (h : Le S S') (hn : S'.rest ≠ []) : S.rest ≠ [] := by
  intro e
  have := h.rest
  rw [e] at this
  exact hn (List.length_eq_zero_iff.1 (by simpa using this))

theorem take_T (v : Mv) {S S' : St} {t : ByteArray} {u : Unit} (ht : t ≠ em) (h : take S t = .ok (S', u)) : To v S' u (take (v.T S) t) := by
  obtain ⟨h1, rfl⟩ := take_ok h
  have hn := at_ne h1 ht
  left
  unfold take
  rw [if_pos (by rw [T_at v hn]; exact h1), T_adv v hn]
theorem name_T (v : Mv) {S S' : St} {s : ByteArray} (h : name S = .ok (S', s)) : To v S' s (name (v.T S)) := by
  have h0 := h
  obtain ⟨h1, rfl⟩ := name_ok h
  have hn := isName_ne h1
  unfold name at h0
  rw [if_pos h1] at h0
  cases h0
  left
  unfold name
  rw [if_pos (by rw [T_isName v hn]; exact h1), T_adv v hn, (T_now v hn).2]
theorem operand_T (v : Mv) {S S' : St} {o : Opd} (h : operand S = .ok (S', o)) : To v S' o (operand (v.T S)) := by
  have hn : S.rest ≠ [] := by
    intro e
    have := operand_short h
    rw [e] at this
    simp at this
  have e1 := T_now v hn
  unfold operand at h ⊢
  simp only [T_at v hn, e1.1, e1.2, T_adv v hn]
  split at h
  · rename_i h1; rw [if_pos h1]; cases h; exact .inl rfl
  · rename_i h1; rw [if_neg h1]
    split at h
    · rename_i h2; rw [if_pos h2]; cases h; exact .inl rfl
    · rename_i h2; rw [if_neg h2]
      split at h
      · rename_i h3; rw [if_pos h3]; cases h; exact .inl rfl
      · rename_i h3; rw [if_neg h3]
        split at h
        · rename_i h4; rw [if_pos h4]
          obtain ⟨S1, n, h5, h6⟩ := bnd_ok h
          cases h6
          exact (name_T v h5).bnd (.inl rfl)
        · rename_i h4; rw [if_neg h4]
          split at h
          · rename_i h5; rw [if_pos h5]; cases h; exact .inl rfl
          · rename_i h5; rw [if_neg h5]
            obtain ⟨S1, n, h6, h7⟩ := bnd_ok h
            cases h7
            exact (name_T v h6).bnd (.inl rfl)

theorem more_T (v : Mv) {β : Type} {item : St → β → Res β} (hi : ∀ S b S' b', item S b = .ok (S', b') → To v S' b' (item (v.T S) b)) (hl : ∀ S b S' b', item S b = .ok (S', b') → Le S S' ∧ S'.rest.length < S.rest.length) :
    ∀ (k k' : Nat) {S S' : St} {b b' : β}, S.rest.length ≤ k → k ≤ k' → more item k S b = .ok (S', b') → S'.rest ≠ [] → To v S' b' (more item k' (v.T S) b)
  | 0, k', S, S', b, b', hk, hkk, h, hn => by
    cases h
    exact absurd (List.length_eq_zero_iff.1 (Nat.le_zero.1 hk)) hn
  | k + 1, 0, S, S', b, b', hk, hkk, h, hn => by omega
  | k + 1, k' + 1, S, S', b, b', hk, hkk, h, hn => by
    have hle := more_le (fun S b S' b' h => (hl S b S' b' h).1) _ h
    have hS := ne_of_le hle hn
    unfold more at h ⊢
    rw [T_at v hS]
    split at h
    · rename_i h1
      rw [if_pos h1, T_adv v hS]
      obtain ⟨S1, b1, h2, h3⟩ := bnd_ok h
      have ha := adv_short (S := S) hS
      exact (hi _ _ _ _ h2).bnd (more_T v hi hl k k' (by have := (hl _ _ _ _ h2).2; omega) (by omega) h3 hn)
    · rename_i h1
      rw [if_neg h1]
      cases h
      exact .inl rfl
theorem list_T (v : Mv) {β : Type} {item : St → β → Res β} (hi : ∀ S b S' b', item S b = .ok (S', b') → To v S' b' (item (v.T S) b)) (hl : ∀ S b S' b', item S b = .ok (S', b') → Le S S' ∧ S'.rest.length < S.rest.length)
    {last : ByteArray} (hlast : last ≠ em) {S S' : St} {b b' : β} (h : list last item S b = .ok (S', b')) : To v S' b' (list last item (v.T S) b) := by
  unfold list at h ⊢
  split at h
  · rename_i h1
    have hn := at_ne h1 hlast
    rw [if_pos (by rw [T_at v hn]; exact h1), T_adv v hn]
    cases h
    exact .inl rfl
  · rename_i h1
    obtain ⟨S1, b1, h2, h3⟩ := bnd_ok h
    obtain ⟨S2, b2, h4, h5⟩ := bnd_ok h3
    obtain ⟨S3, b3, h6, h7⟩ := bnd_ok h5
    cases h7
    have hn : S.rest ≠ [] := by
      intro e
      have := (hl _ _ _ _ h2).2
      rw [e] at this
      simp at this
    have hn2 : S2.rest ≠ [] := at_ne (take_ok h6).1 hlast
    rw [if_neg (by rw [T_at v hn]; exact h1)]
    exact (hi _ _ _ _ h2).bnd ((more_T v hi hl _ _ (Nat.le_refl _) (T_len v S1) h4 hn2).bnd ((take_T v hlast h6).bnd (.inl rfl)))
theorem itemOp_T (v : Mv) (S : St) (l : List Opd) (S' : St) (l' : List Opd) (h : itemOp S l = .ok (S', l')) : To v S' l' (itemOp (v.T S) l) := by
  obtain ⟨S1, o, h1, h2⟩ := bnd_ok h
  cases h2
  exact (operand_T v h1).bnd (.inl rfl)
theorem itemName_T (v : Mv) (S : St) (l : List ByteArray) (S' : St) (l' : List ByteArray) (h : itemName S l = .ok (S', l')) : To v S' l' (itemName (v.T S) l) := by
  obtain ⟨S1, o, h1, h2⟩ := bnd_ok h
  cases h2
  exact (name_T v h1).bnd (.inl rfl)
theorem itemProp_T (v : Mv) (S : St) (l : List ByteArray × List Opd) (S' : St) (l' : List ByteArray × List Opd) (h : itemProp S l = .ok (S', l')) : To v S' l' (itemProp (v.T S) l) := by
  obtain ⟨S1, o, h1, h2⟩ := bnd_ok h
  obtain ⟨S2, o2, h3, h4⟩ := bnd_ok h2
  obtain ⟨S3, o3, h5, h6⟩ := bnd_ok h4
  cases h6
  exact (name_T v h1).bnd ((take_T v (by decide) h3).bnd ((operand_T v h5).bnd (.inl rfl)))
theorem itemOp_b (S : St) (l : List Opd) (S' : St) (l' : List Opd) (h : itemOp S l = .ok (S', l')) : Le S S' ∧ S'.rest.length < S.rest.length := by
  refine ⟨itemOp_le h, ?_⟩
  obtain ⟨S1, o, h1, h2⟩ := bnd_ok h
  cases h2
  exact operand_short h1
theorem itemName_b (S : St) (l : List ByteArray) (S' : St) (l' : List ByteArray) (h : itemName S l = .ok (S', l')) : Le S S' ∧ S'.rest.length < S.rest.length := by
  refine ⟨itemName_le h, ?_⟩
  obtain ⟨S1, o, h1, h2⟩ := bnd_ok h
  cases h2
  exact name_short h1
theorem itemProp_b (S : St) (l : List ByteArray × List Opd) (S' : St) (l' : List ByteArray × List Opd) (h : itemProp S l = .ok (S', l')) : Le S S' ∧ S'.rest.length < S.rest.length := by
  refine ⟨itemProp_le h, ?_⟩
  obtain ⟨S1, o, h1, h2⟩ := bnd_ok h
  obtain ⟨S2, o2, h3, h4⟩ := bnd_ok h2
  obtain ⟨S3, o3, h5, h6⟩ := bnd_ok h4
  cases h6
  have := name_short h1
  have := (take_le h3).rest
  have := operand_short h5
  omega
theorem operands_T (v : Mv) {S S' : St} {l : List Opd} (h : operands S = .ok (S', l)) : To v S' l (operands (v.T S)) := by
  obtain ⟨S1, o, h1, h2⟩ := bnd_ok h
  exact (take_T v (by decide) h1).bnd (list_T v (itemOp_T v) itemOp_b (by decide) h2)
theorem oneOperand_T (v : Mv) {S S' : St} {l : List Opd} (h : oneOperand S = .ok (S', l)) : To v S' l (oneOperand (v.T S)) := by
  obtain ⟨S1, o, h1, h2⟩ := bnd_ok h
  cases h2
  exact (operand_T v h1).bnd (.inl rfl)
theorem object_T (v : Mv) {S S' : St} {x : Val} (h : object S = .ok (S', x)) : To v S' x (object (v.T S)) := by
  obtain ⟨S1, o, h1, h2⟩ := bnd_ok h
  obtain ⟨S2, o2, h3, h4⟩ := bnd_ok h2
  obtain ⟨S3, o3, h5, h6⟩ := bnd_ok h4
  obtain ⟨S4, o4, h7, h8⟩ := bnd_ok h6
  cases h8
  exact (take_T v (by decide) h1).bnd ((list_T v (itemProp_T v) itemProp_b (by decide) h3).bnd ((take_T v (by decide) h5).bnd ((operand_T v h7).bnd (.inl rfl))))
theorem value2_T (v : Mv) {S S' : St} {a : Opd} {x : Val} (h : value2 S a = .ok (S', x)) (hn : S'.rest ≠ []) : To v S' x (value2 (v.T S) a) := by
  have hS := ne_of_le (value2_le h) hn
  unfold value2 at h ⊢
  simp only [T_at v hS, T_arith v hS, T_adv v hS, (T_now v hS).2]
  split at h
  · rename_i h1; rw [if_pos h1]
    obtain ⟨S1, o, h2, h3⟩ := bnd_ok h
    cases h3; exact (name_T v h2).bnd (.inl rfl)
  · rename_i h1; rw [if_neg h1]
    split at h
    · rename_i h2; rw [if_pos h2]
      obtain ⟨S1, o, h3, h4⟩ := bnd_ok h
      cases h4; exact (operands_T v h3).bnd (.inl rfl)
    · rename_i h2; rw [if_neg h2]
      split at h
      · rename_i h3; rw [if_pos h3]
        obtain ⟨S1, o, h4, h5⟩ := bnd_ok h
        cases h5; exact (operand_T v h4).bnd (.inl rfl)
      · rename_i h3; rw [if_neg h3]
        cases h; exact .inl rfl
theorem value_T (v : Mv) {S S' : St} {x : Val} (h : value S = .ok (S', x)) (hn : S'.rest ≠ []) : To v S' x (value (v.T S)) := by
  have hS := ne_of_le (value_le h) hn
  unfold value at h ⊢
  simp only [T_at v hS, T_adv v hS]
  split at h
  · rename_i h1; rw [if_pos h1]; cases h; exact .inl rfl
  · rename_i h1; rw [if_neg h1]
    split at h
    · rename_i h2; rw [if_pos h2]
      obtain ⟨S1, o, h3, h4⟩ := bnd_ok h
      obtain ⟨S2, o2, h5, h6⟩ := bnd_ok h4
      cases h6; exact (name_T v h3).bnd ((operands_T v h5).bnd (.inl rfl))
    · rename_i h2; rw [if_neg h2]
      split at h
      · rename_i h3; rw [if_pos h3]; exact object_T v h
      · rename_i h3; rw [if_neg h3]
        obtain ⟨S1, o, h4, h5⟩ := bnd_ok h
        exact (operand_T v h4).bnd (value2_T v h5 hn)
theorem plain_T (v : Mv) {S S' : St} {t : Tr} (h : plain S = .ok (S', t)) (hn : S'.rest ≠ []) : To v S' t (plain (v.T S)) := by
  have hS := ne_of_le (plain_both h).1 hn
  unfold plain at h ⊢
  simp only [T_at v hS, T_adv v hS]
  split at h
  · rename_i h1; rw [if_pos h1]
    obtain ⟨S1, o, h2, h3⟩ := bnd_ok h
    cases h3; exact (oneOperand_T v h2).bnd (.inl rfl)
  · rename_i h1; rw [if_neg h1]
    split at h
    · rename_i h2; rw [if_pos h2]
      obtain ⟨S1, o, h3, h4⟩ := bnd_ok h
      cases h4; exact (oneOperand_T v h3).bnd (.inl rfl)
    · rename_i h2; rw [if_neg h2]
      obtain ⟨S1, x, h3, h4⟩ := bnd_ok h
      refine (name_T v h3).bnd ?_
      split at h4
      · rename_i h5
        have hS1 := at_ne h5 (by decide)
        rw [if_pos (by rw [T_at v hS1]; exact h5), T_adv v hS1]
        obtain ⟨S2, o2, h6, h7⟩ := bnd_ok h4
        obtain ⟨S3, o3, h8, h9⟩ := bnd_ok h7
        obtain ⟨S4, o4, h10, h11⟩ := bnd_ok h9
        cases h11
        exact (name_T v h6).bnd ((take_T v (by decide) h8).bnd ((oneOperand_T v h10).bnd (.inl rfl)))
      · rename_i h5
        obtain ⟨S2, o2, h6, h7⟩ := bnd_ok h4
        obtain ⟨S3, o3, h8, h9⟩ := bnd_ok h7
        cases h9
        have hS1 := at_ne (take_ok h6).1 (by decide)
        rw [if_neg (by rw [T_at v hS1]; exact h5)]
        exact (take_T v (by decide) h6).bnd ((value_T v h8 hn).bnd (.inl rfl))
end M
end Go.Proofs.YtkpmpnebmkeocaaGreatDoor
end
section
set_option linter.unusedVariables false
namespace Go.Proofs.YtkpmpnebmkeocaaGreatDoor
namespace M

theorem stmt_T (v : Mv) {b b' : St → Res Tr} (hb : ∀ S S' t, b S = .ok (S', t) → To v S' t (b' (v.T S))) (hl : ∀ S S' t, b S = .ok (S', t) → Le S S') {S S' : St} {t : Tr}
    (h : stmt b S = .ok (S', t)) (hn : S'.rest ≠ []) : To v S' t (stmt b' (v.T S)) := by
  have hlt := stmt_lt hl h
  have hS : S.rest ≠ [] := by
    intro e
    have := hlt.rest
    rw [e] at this
    simp at this
  unfold stmt at h ⊢
  rw [T_stmt v hS]
  split at h
  · rename_i ha
    rw [if_pos ha]
    split at h
    · cases h
    · rename_i hn0
      by_cases hc : (v.T S).n = 2000
      · rw [if_pos hc]; exact .inr ⟨_, rfl⟩
      · rw [if_neg hc]
        have hM : S.more.rest ≠ [] := hS
        have ea : (v.T S).more.adv = v.T S.more.adv := by rw [T_more]; exact T_adv v hM
        rw [T_at v hS, T_at v hS, ea]
        split at h
        · rename_i h1
          rw [if_pos h1]
          unfold branch at h ⊢
          obtain ⟨S1, o, h2, h3⟩ := bnd_ok h
          obtain ⟨S2, o2, h4, h5⟩ := bnd_ok h3
          refine (oneOperand_T v h2).bnd ((hb _ _ _ h4).bnd ?_)
          split at h5
          · rename_i h6
            have hS2 := at_ne h6 (by decide)
            rw [if_pos (by rw [T_at v hS2]; exact h6), T_adv v hS2]
            obtain ⟨S3, o3, h7, h8⟩ := bnd_ok h5
            cases h8
            exact (hb _ _ _ h7).bnd (.inl rfl)
          · rename_i h6
            cases h5
            rw [if_neg (by rw [T_at v hn]; exact h6)]
            exact .inl rfl
        · rename_i h1
          rw [if_neg h1]
          split at h
          · rename_i h2
            rw [if_pos h2]
            unfold loopS at h ⊢
            obtain ⟨S1, o, h3, h4⟩ := bnd_ok h
            obtain ⟨S2, o2, h5, h6⟩ := bnd_ok h4
            cases h6
            exact (oneOperand_T v h3).bnd ((hb _ _ _ h5).bnd (.inl rfl))
          · rename_i h2
            rw [if_neg h2, T_more]
            obtain ⟨S1, o, h3, h4⟩ := bnd_ok h
            obtain ⟨S2, o2, h5, h6⟩ := bnd_ok h4
            cases h6
            exact (plain_T v h3 (at_ne (take_ok h5).1 (by decide))).bnd ((take_T v (by decide) h5).bnd (.inl rfl))
  · cases h
theorem stmts_ne {st : St → Res Tr} (hs : ∀ S S' t, st S = .ok (S', t) → Lt S S') : ∀ (k : Nat) {S S' : St} {acc t : Tr}, stmts st k S acc = .ok (S', t) → S.rest ≠ []
  | 0, S, S', acc, t, h => by cases h
  | k + 1, S, S', acc, t, h => by
    unfold stmts at h
    split at h
    · rename_i h1; exact at_ne h1 (by decide)
    · obtain ⟨S1, t1, h1, h2⟩ := bnd_ok h
      intro e
      have := (hs _ _ _ h1).rest
      rw [e] at this
      simp at this
theorem stmts_T (v : Mv) {st st' : St → Res Tr} (hs : ∀ S S' t, st S = .ok (S', t) → S'.rest ≠ [] → To v S' t (st' (v.T S))) (hl : ∀ S S' t, st S = .ok (S', t) → Lt S S') :
    ∀ (k k' : Nat) {S S' : St} {acc t : Tr}, k ≤ k' → stmts st k S acc = .ok (S', t) → To v S' t (stmts st' k' (v.T S) acc)
  | 0, k', S, S', acc, t, hk, h => by cases h
  | k + 1, 0, S, S', acc, t, hk, h => by omega
  | k + 1, k' + 1, S, S', acc, t, hk, h => by
    have hS := stmts_ne hl _ h
    unfold stmts at h ⊢
    rw [T_at v hS]
    split at h
    · rename_i h1
      rw [if_pos h1, T_adv v hS]
      cases h
      exact .inl rfl
    · rename_i h1
      rw [if_neg h1]
      obtain ⟨S1, t1, h2, h3⟩ := bnd_ok h
      exact (hs _ _ _ h2 (stmts_ne hl _ h3)).bnd (stmts_T v hs hl k k' (by omega) h3)
theorem block_T (v : Mv) {st st' : St → Res Tr} (hs : ∀ S S' t, st S = .ok (S', t) → S'.rest ≠ [] → To v S' t (st' (v.T S))) (hl : ∀ S S' t, st S = .ok (S', t) → Lt S S') {S S' : St} {t : Tr}
    (h : block st S = .ok (S', t)) : To v S' t (block st' (v.T S)) := by
  unfold block at h ⊢
  split at h
  · cases h
  · rename_i h1
    obtain ⟨S1, u, h2, h3⟩ := bnd_ok h
    obtain ⟨S2, t2, h4, h5⟩ := bnd_ok h3
    cases h5
    have hS := at_ne (take_ok h2).1 (by decide)
    rw [if_neg (by rw [T_at v hS]; exact h1)]
    refine (take_T v (by decide) h2).bnd ((stmts_T v hs hl _ ((v.T S1).rest.length + 1) (by have := T_len v S1; omega) h4).bnd (.inl rfl))
theorem blk_T (v : Mv) : ∀ (N N' : Nat) {S S' : St} {t : Tr}, N ≤ N' → blk N S = .ok (S', t) → To v S' t (blk N' (v.T S))
  | 0, N', S, S', t, hN, h => by cases h
  | N + 1, 0, S, S', t, hN, h => by omega
  | N + 1, N' + 1, S, S', t, hN, h =>
    block_T v (fun S S' t h hn => stmt_T v (fun S S' t h => blk_T v N N' (by omega) h) (fun S S' t h => blk_le N h) h hn) (fun S S' t h => stmtN_lt h) h
theorem function_T (v : Mv) {N N' : Nat} (hN : N ≤ N') {S S' : St} {f : Fn} (h : function N S = .ok (S', f)) : To v S' f (function N' (v.T S)) := by
  obtain ⟨S1, u1, h1, h2⟩ := bnd_ok h
  obtain ⟨S2, u2, h3, h4⟩ := bnd_ok h2
  obtain ⟨S3, u3, h5, h6⟩ := bnd_ok h4
  obtain ⟨S4, u4, h7, h8⟩ := bnd_ok h6
  obtain ⟨S5, u5, h9, h10⟩ := bnd_ok h8
  cases h10
  exact (take_T v (by decide) h1).bnd ((name_T v h3).bnd ((take_T v (by decide) h5).bnd ((list_T v (itemName_T v) itemName_b (by decide) h7).bnd ((blk_T v N N' hN h9).bnd (.inl rfl)))))
theorem function_le {N : Nat} {S S' : St} {f : Fn} (h : function N S = .ok (S', f)) : Le S S' := by
  obtain ⟨S1, u1, h1, h2⟩ := bnd_ok h
  obtain ⟨S2, u2, h3, h4⟩ := bnd_ok h2
  obtain ⟨S3, u3, h5, h6⟩ := bnd_ok h4
  obtain ⟨S4, u4, h7, h8⟩ := bnd_ok h6
  obtain ⟨S5, u5, h9, h10⟩ := bnd_ok h8
  cases h10
  exact ((((take_le h1).trans (name_le h3)).trans (take_le h5)).trans (list_le (fun _ _ _ _ h => itemName_le h) h7)).trans (blk_le N h9)

theorem funcs_T (v : Mv) {N N' : Nat} (hN : N ≤ N') : ∀ (k k' : Nat) {S S' : St} {acc p : List Fn}, S.rest.length < k → S.rest.length < k' → funcs N k S acc = .ok (S', p) →
    S'.rest = [] ∧ S'.d = S.d ∧ ∃ r, p = acc ++ r ∧ ∀ acc', (∃ k'', k' ≤ k'' + S.rest.length ∧ funcs N' k' (v.T S) acc' = funcs N' k'' (v.T S') (acc' ++ r)) ∨ ∃ q, funcs N' k' (v.T S) acc' = .error (22, q)
  | 0, k', S, S', acc, p, hk, hk', h => by omega
  | k + 1, 0, S, S', acc, p, hk, hk', h => by omega
  | k + 1, k' + 1, S, S', acc, p, hk, hk', h => by
    unfold funcs at h
    split at h
    · rename_i h1
      cases h
      exact ⟨List.isEmpty_iff.1 h1, rfl, [], by simp, fun acc' => .inl ⟨k' + 1, by omega, by simp⟩⟩
    · rename_i h1
      obtain ⟨S1, f, h2, h3⟩ := bnd_ok h
      have hsh := function_short h2
      have hS : S.rest ≠ [] := fun e => h1 (by rw [e]; rfl)
      obtain ⟨e1, e2, r, e3, e4⟩ := funcs_T v hN k k' (by omega) (by omega) h3
      refine ⟨e1, e2.trans (function_le h2).d, f :: r, by rw [e3]; simp, fun acc' => ?_⟩
      have hT : (v.T S).rest.isEmpty = false := by
        obtain ⟨rest, fin, n, d⟩ := S
        cases rest with
        | nil => exact absurd rfl hS
        | cons => rfl
      have ho : funcs N' (k' + 1) (v.T S) acc' = bnd (function N' (v.T S)) fun S1 f => funcs N' k' S1 (acc' ++ [f]) := by
        conv => lhs; unfold funcs
        rw [hT]; rfl
      rw [ho]
      rcases function_T v hN h2 with h4 | ⟨q, h4⟩
      · rw [h4]
        rcases e4 (acc' ++ [f]) with ⟨k'', hk2, h5⟩ | ⟨q, h5⟩
        · exact .inl ⟨k'', by omega, by show funcs N' k' (v.T S1) (acc' ++ [f]) = _; rw [h5]; simp⟩
        · exact .inr ⟨q, h5⟩
      · exact .inr ⟨q, by rw [h4]; rfl⟩

theorem read_ok {l : List Tok} {fin : Int} {p : List Fn} (h : read l fin = .ok p) : ∃ S, funcs (l.length + 1) (l.length + 1) ⟨l, fin, 0, 0⟩ [] = .ok (S, p) := by
  unfold read at h
  split at h
  · cases h
  · rename_i S p' h1
    cases h
    exact ⟨S, h1⟩
theorem read_parts {l m : List Tok} {f1 f2 f3 : Int} {p q : List Fn} (δ : Int) (h1 : read l f1 = .ok p) (h2 : read m f2 = .ok q) :
    read (l ++ m.map (Tok.mv δ)) f3 = .ok (p ++ q) ∨ ∃ x, read (l ++ m.map (Tok.mv δ)) f3 = .error (22, x) := by
  obtain ⟨S1, g1⟩ := read_ok h1
  obtain ⟨S2, g2⟩ := read_ok h2
  have hid : l.map (Tok.mv 0) = l := by
    have : Tok.mv 0 = id := by funext x; simp [Tok.mv]
    rw [this, List.map_id]
  have hlen : (l ++ m.map (Tok.mv δ)).length = l.length + m.length := by simp
  let v1 : Mv := ⟨0, m.map (Tok.mv δ), f3, 0⟩
  obtain ⟨a1, a2, r1, a3, a4⟩ := funcs_T v1 (N' := l.length + m.length + 1) (by omega) (l.length + 1) (l.length + m.length + 1) (by show l.length < _; omega) (by show l.length < _; omega) g1
  have t1 : v1.T ⟨l, f1, 0, 0⟩ = ⟨l ++ m.map (Tok.mv δ), f3, 0, 0⟩ := by simp [v1, Mv.T, hid]
  let v2 : Mv := ⟨δ, [], f3, S1.n⟩
  have t2 : v1.T S1 = v2.T ⟨m, f2, 0, 0⟩ := by
    have e : S1.d = 0 := a2
    simp [v1, v2, Mv.T, a1, e]
  simp only [List.nil_append] at a3
  subst a3
  unfold read
  rw [hlen]
  rcases a4 [] with ⟨k2, hk2, h3⟩ | ⟨x, h3⟩
  · rw [t1, t2] at h3
    have hk2' : l.length + m.length + 1 ≤ k2 + l.length := hk2
    obtain ⟨b1, b2, r2, b3, b4⟩ := funcs_T v2 (N' := l.length + m.length + 1) (by omega) (m.length + 1) k2 (by show m.length < _; omega) (by show m.length < _; omega) g2
    simp only [List.nil_append] at b3
    subst b3
    rcases b4 ([] ++ p) with ⟨k3, hk3, h4⟩ | ⟨x, h4⟩
    · left
      rw [h3, h4]
      have hT : v2.T S2 = ⟨[], f3, S2.n + S1.n, S2.d⟩ := by simp [v2, Mv.T, b1]
      rw [hT]
      have hd : ∀ k, funcs (l.length + m.length + 1) k ⟨[], f3, S2.n + S1.n, S2.d⟩ ([] ++ p ++ q) = .ok (⟨[], f3, S2.n + S1.n, S2.d⟩, p ++ q) := fun k => by
        cases k with
        | zero => simp [funcs]
        | succ k => simp [funcs]
      rw [hd]
    · right
      rw [h3, h4]
      exact ⟨x, rfl⟩
  · right
    rw [t1] at h3
    rw [h3]
    exact ⟨x, rfl⟩

theorem lex_ok {s : List UInt8} (h : (lex s).2.1 = 0) : s.length ≤ 65536 ∧ lexF 0 s = .ok (lex s).1 := by
  unfold lex at h ⊢
  split at h
  · simp at h
  · rename_i h1
    refine ⟨by omega, ?_⟩
    rw [if_neg h1]
    unfold lexF
    split at h
    · simp at h
    · rename_i ts h2; simp only [h2]
theorem parse_ok {s : List UInt8} {p : List Fn} (h : parse s = .ok p) : (lex s).2.1 = 0 ∧ read (lex s).1 s.length = .ok p := by
  unfold parse at h
  split at h
  · rename_i h1; exact ⟨h1, h⟩
  · cases h
theorem parse_parts {s t : List UInt8} {p q : List Fn} (hl : s.length + 1 + t.length ≤ 65536) (h1 : parse s = .ok p) (h2 : parse t = .ok q) :
    parse (s ++ 10 :: t) = .ok (p ++ q) ∨ ∃ x, parse (s ++ 10 :: t) = .error (22, x) := by
  obtain ⟨g1, r1⟩ := parse_ok h1
  obtain ⟨g2, r2⟩ := parse_ok h2
  obtain ⟨_, e1⟩ := lex_ok g1
  obtain ⟨_, e2⟩ := lex_ok g2
  have hj := lexF_parts s.length s t 0 (Nat.le_refl _)
  rw [e1] at hj
  have hsh := lexF_shift (s.length + 1) 0 t
  rw [e2] at hsh
  simp only [Nat.zero_add] at hj hsh
  rw [hsh] at hj
  have hmv : ((lex t).1.map fun x => (⟨x.k, x.t, x.p + ((s.length + 1 : Nat) : Int)⟩ : Tok)) = (lex t).1.map (Tok.mv ((s.length + 1 : Nat) : Int)) := rfl
  simp only [shift, pre] at hj
  have hlx : lex (s ++ 10 :: t) = ((lex s).1 ++ (lex t).1.map (Tok.mv ((s.length + 1 : Nat) : Int)), 0, 0) := by
    unfold lex
    rw [if_neg (by simp only [List.length_append, List.length_cons]; omega)]
    have : lexL (s ++ 10 :: t).length 0 (s ++ 10 :: t) = lexF 0 (s ++ 10 :: t) := rfl
    rw [this, hj]
    rfl
  unfold parse
  rw [hlx]
  exact read_parts _ r1 r2
end M
end Go.Proofs.YtkpmpnebmkeocaaGreatDoor
end
section
set_option linter.unusedVariables false
namespace Go.Proofs.YtkpmpnebmkeocaaGreatDoor
namespace M

/-- if it fails, the code is not 0 -/
def Nz {α : Type} (r : Except Flt α) : Prop := ∀ f, r = .error f → f.1 ≠ 0
theorem Nz.ok {α : Type} (a : α) : Nz (.ok a) := fun f h => by cases h
theorem Nz.fail {α : Type} (S : St) (c : Int) (hc : c ≠ 0) : Nz (fail S c : Except Flt α) := fun f h => by
  simp only [M.fail, Except.error.injEq] at h
  rw [← h]; exact hc
theorem Nz.bnd {α β : Type} {r : Res α} {f : St → α → Res β} (h : Nz r) (k : ∀ S a, Nz (f S a)) : Nz (M.bnd r f) := by
  unfold M.bnd
  split
  · rename_i e; intro g hg; simp only [Except.error.injEq] at hg; rw [← hg]; exact h e rfl
  · exact k _ _
theorem Nz.ite {α : Type} {c : Prop} [Decidable c] {x y : Except Flt α} (h : Nz x) (k : Nz y) : Nz (if c then x else y) := by
  split
  · exact h
  · exact k
theorem take_nz (S : St) (t : ByteArray) : Nz (take S t) := Nz.ite (Nz.ok _) (Nz.fail _ _ (by decide))
theorem name_nz (S : St) : Nz (name S) := Nz.ite (Nz.ok _) (Nz.fail _ _ (by decide))
theorem operand_nz (S : St) : Nz (operand S) :=
  Nz.ite (Nz.ok _) (Nz.ite (Nz.ok _) (Nz.ite (Nz.ok _) (Nz.ite (Nz.bnd (name_nz _) fun _ _ => Nz.ok _) (Nz.ite (Nz.ok _) (Nz.bnd (name_nz _) fun _ _ => Nz.ok _)))))
theorem more_nz {β : Type} {item : St → β → Res β} (h : ∀ S b, Nz (item S b)) : ∀ k S b, Nz (more item k S b)
  | 0, S, b => Nz.ok _
  | k + 1, S, b => Nz.ite (Nz.bnd (h _ _) fun S1 b1 => more_nz h k S1 b1) (Nz.ok _)
theorem list_nz {β : Type} {item : St → β → Res β} (h : ∀ S b, Nz (item S b)) (last : ByteArray) (S : St) (b : β) : Nz (list last item S b) :=
  Nz.ite (Nz.ok _) (Nz.bnd (h _ _) fun _ _ => Nz.bnd (more_nz h _ _ _) fun _ _ => Nz.bnd (take_nz _ _) fun _ _ => Nz.ok _)
theorem itemOp_nz (S : St) (l : List Opd) : Nz (itemOp S l) := Nz.bnd (operand_nz _) fun _ _ => Nz.ok _
theorem itemName_nz (S : St) (l : List ByteArray) : Nz (itemName S l) := Nz.bnd (name_nz _) fun _ _ => Nz.ok _
theorem itemProp_nz (S : St) (l : List ByteArray × List Opd) : Nz (itemProp S l) := Nz.bnd (name_nz _) fun _ _ => Nz.bnd (take_nz _ _) fun _ _ => Nz.bnd (operand_nz _) fun _ _ => Nz.ok _
theorem operands_nz (S : St) : Nz (operands S) := Nz.bnd (take_nz _ _) fun _ _ => list_nz itemOp_nz _ _ _
theorem oneOperand_nz (S : St) : Nz (oneOperand S) := Nz.bnd (operand_nz _) fun _ _ => Nz.ok _
theorem object_nz (S : St) : Nz (object S) := Nz.bnd (take_nz _ _) fun _ _ => Nz.bnd (list_nz itemProp_nz _ _ _) fun _ _ => Nz.bnd (take_nz _ _) fun _ _ => Nz.bnd (operand_nz _) fun _ _ => Nz.ok _
theorem value2_nz (S : St) (a : Opd) : Nz (value2 S a) :=
  Nz.ite (Nz.bnd (name_nz _) fun _ _ => Nz.ok _) (Nz.ite (Nz.bnd (operands_nz _) fun _ _ => Nz.ok _) (Nz.ite (Nz.bnd (operand_nz _) fun _ _ => Nz.ok _) (Nz.ok _)))
theorem value_nz (S : St) : Nz (value S) :=
  Nz.ite (Nz.ok _) (Nz.ite (Nz.bnd (name_nz _) fun _ _ => Nz.bnd (operands_nz _) fun _ _ => Nz.ok _) (Nz.ite (object_nz _) (Nz.bnd (operand_nz _) value2_nz)))
theorem plain_nz (S : St) : Nz (plain S) :=
  Nz.ite (Nz.bnd (oneOperand_nz _) fun _ _ => Nz.ok _) (Nz.ite (Nz.bnd (oneOperand_nz _) fun _ _ => Nz.ok _) (Nz.bnd (name_nz _) fun _ _ =>
    Nz.ite (Nz.bnd (name_nz _) fun _ _ => Nz.bnd (take_nz _ _) fun _ _ => Nz.bnd (oneOperand_nz _) fun _ _ => Nz.ok _) (Nz.bnd (take_nz _ _) fun _ _ => Nz.bnd (value_nz _) fun _ _ => Nz.ok _)))
theorem branch_nz {b : St → Res Tr} (h : ∀ S, Nz (b S)) (S : St) : Nz (branch b S) :=
  Nz.bnd (oneOperand_nz _) fun _ _ => Nz.bnd (h _) fun _ _ => Nz.ite (Nz.bnd (h _) fun _ _ => Nz.ok _) (Nz.ok _)
theorem loopS_nz {b : St → Res Tr} (h : ∀ S, Nz (b S)) (S : St) : Nz (loopS b S) := Nz.bnd (oneOperand_nz _) fun _ _ => Nz.bnd (h _) fun _ _ => Nz.ok _
theorem stmt_nz {b : St → Res Tr} (h : ∀ S, Nz (b S)) (S : St) : Nz (stmt b S) :=
  Nz.ite (Nz.ite (Nz.fail _ _ (by decide)) (Nz.ite (branch_nz h _) (Nz.ite (loopS_nz h _) (Nz.bnd (plain_nz _) fun _ _ => Nz.bnd (take_nz _ _) fun _ _ => Nz.ok _)))) (Nz.fail _ _ (by decide))
theorem stmts_nz {st : St → Res Tr} (h : ∀ S, Nz (st S)) : ∀ k S acc, Nz (stmts st k S acc)
  | 0, S, _ => Nz.fail _ _ (by decide)
  | k + 1, S, acc => Nz.ite (Nz.ok _) (Nz.bnd (h _) fun S1 t => stmts_nz h k S1 _)
theorem block_nz {st : St → Res Tr} (h : ∀ S, Nz (st S)) (S : St) : Nz (block st S) :=
  Nz.ite (Nz.fail _ _ (by decide)) (Nz.bnd (take_nz _ _) fun _ _ => Nz.bnd (stmts_nz h _ _ _) fun _ _ => Nz.ok _)
theorem blk_nz : ∀ n S, Nz (blk n S)
  | 0, S => Nz.fail _ _ (by decide)
  | n + 1, S => block_nz (stmt_nz (blk_nz n)) S
theorem function_nz (N : Nat) (S : St) : Nz (function N S) :=
  Nz.bnd (take_nz _ _) fun _ _ => Nz.bnd (name_nz _) fun _ _ => Nz.bnd (take_nz _ _) fun _ _ => Nz.bnd (list_nz itemName_nz _ _ _) fun _ _ => Nz.bnd (blk_nz _ _) fun _ _ => Nz.ok _
theorem funcs_nz (N : Nat) : ∀ k S acc, Nz (funcs N k S acc)
  | 0, S, acc => Nz.ok _
  | k + 1, S, acc => Nz.ite (Nz.ok _) (Nz.bnd (function_nz N S) fun S1 f => funcs_nz N k S1 _)
theorem read_nz (l : List Tok) (fin : Int) : Nz (read l fin) := by
  unfold read
  split
  · rename_i e he; intro g hg; simp only [Except.error.injEq] at hg; rw [← hg]; exact funcs_nz _ _ _ _ e he
  · exact Nz.ok _
theorem parse_nz (s : List UInt8) : Nz (parse s) := by
  unfold parse
  split
  · exact read_nz _ _
  · rename_i h; intro g hg; simp only [Except.error.injEq] at hg; rw [← hg]; exact h

theorem funcs_few (N : Nat) : ∀ k S acc S' p, funcs N k S acc = .ok (S', p) → p.length ≤ acc.length + S.rest.length
  | 0, S, acc, S', p, h => by
    simp only [funcs, Except.ok.injEq, Prod.mk.injEq] at h
    rw [← h.2]; omega
  | k + 1, S, acc, S', p, h => by
    unfold funcs at h
    split at h
    · simp only [Except.ok.injEq, Prod.mk.injEq] at h
      rw [← h.2]; omega
    · obtain ⟨S1, f, h1, h2⟩ := bnd_ok h
      have a := function_short h1
      have b := funcs_few N k S1 _ S' p h2
      simp only [List.length_append, List.length_cons, List.length_nil] at b
      omega
theorem parse_few {s : List UInt8} {p : List Fn} (h : parse s = .ok p) : p.length ≤ 65536 := by
  obtain ⟨_, r⟩ := parse_ok h
  have hs := (lex_small s).1
  unfold read at r
  split at r
  · cases r
  · rename_i S' q hq
    simp only [Except.ok.injEq] at r
    subst r
    have := funcs_few _ _ _ _ _ _ hq
    simp only [List.length_nil] at this
    omega
end M
end Go.Proofs.YtkpmpnebmkeocaaGreatDoor
end
