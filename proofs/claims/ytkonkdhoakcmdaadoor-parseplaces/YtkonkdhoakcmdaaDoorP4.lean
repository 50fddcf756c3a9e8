/-
  Plain facts on programs: of two texts that are programs, one behind the other with a byte 10 between, the program has the functions of the one, and then of the other one; or there are too many statements. Nothing of the program is named here. Conditions: the two together are short enough to be a source.
-/
import Derived.Test.YtkonkdhoakcmdaaDoorP3
import Derived.Test.YtkonkdhoakcmdaaDoorMathF
set_option linter.unusedVariables false
namespace Go.Proofs.YtkonkdhoakcmdaaDoor
namespace M

theorem stmt_T (v : Mv) {b b' : St → Res Tr} (hb : ∀ S S' t, b S = .ok (S', t) → To v S' t (b' (v.T S))) (hl : ∀ S S' t, b S = .ok (S', t) → Le S S') {S S' : St} {t : Tr}
    (h : stmt b S = .ok (S', t)) (hn : S'.rest ≠ []) : To v S' t (stmt b' (v.T S)) := by
  have hlt := stmt_lt hl h
  have hS : S.rest ≠ [] := by
    intro e
    have := hlt.rest
    rw [e] at this
    simp at this
  unfold stmt at h ⊢
  rw [T_stmt v hS]
  split at h
  · rename_i ha
    rw [if_pos ha]
    split at h
    · cases h
    · rename_i hn0
      by_cases hc : (v.T S).n = 2000
      · rw [if_pos hc]; exact .inr ⟨_, rfl⟩
      · rw [if_neg hc]
        have hM : S.more.rest ≠ [] := hS
        have ea : (v.T S).more.adv = v.T S.more.adv := by rw [T_more]; exact T_adv v hM
        rw [T_at v hS, T_at v hS, ea]
        split at h
        · rename_i h1
          rw [if_pos h1]
          unfold branch at h ⊢
          obtain ⟨S1, o, h2, h3⟩ := bnd_ok h
          obtain ⟨S2, o2, h4, h5⟩ := bnd_ok h3
          refine (oneOperand_T v h2).bnd ((hb _ _ _ h4).bnd ?_)
          split at h5
          · rename_i h6
            have hS2 := at_ne h6 (by decide)
            rw [if_pos (by rw [T_at v hS2]; exact h6), T_adv v hS2]
            obtain ⟨S3, o3, h7, h8⟩ := bnd_ok h5
            cases h8
            exact (hb _ _ _ h7).bnd (.inl rfl)
          · rename_i h6
            cases h5
            rw [if_neg (by rw [T_at v hn]; exact h6)]
            exact .inl rfl
        · rename_i h1
          rw [if_neg h1]
          split at h
          · rename_i h2
            rw [if_pos h2]
            unfold loopS at h ⊢
            obtain ⟨S1, o, h3, h4⟩ := bnd_ok h
            obtain ⟨S2, o2, h5, h6⟩ := bnd_ok h4
            cases h6
            exact (oneOperand_T v h3).bnd ((hb _ _ _ h5).bnd (.inl rfl))
          · rename_i h2
            rw [if_neg h2, T_more]
            obtain ⟨S1, o, h3, h4⟩ := bnd_ok h
            obtain ⟨S2, o2, h5, h6⟩ := bnd_ok h4
            cases h6
            exact (plain_T v h3 (at_ne (take_ok h5).1 (by decide))).bnd ((take_T v (by decide) h5).bnd (.inl rfl))
  · cases h
theorem stmts_ne {st : St → Res Tr} (hs : ∀ S S' t, st S = .ok (S', t) → Lt S S') : ∀ (k : Nat) {S S' : St} {acc t : Tr}, stmts st k S acc = .ok (S', t) → S.rest ≠ []
  | 0, S, S', acc, t, h => by cases h
  | k + 1, S, S', acc, t, h => by
    unfold stmts at h
    split at h
    · rename_i h1; exact at_ne h1 (by decide)
    · obtain ⟨S1, t1, h1, h2⟩ := bnd_ok h
      intro e
      have := (hs _ _ _ h1).rest
      rw [e] at this
      simp at this
theorem stmts_T (v : Mv) {st st' : St → Res Tr} (hs : ∀ S S' t, st S = .ok (S', t) → S'.rest ≠ [] → To v S' t (st' (v.T S))) (hl : ∀ S S' t, st S = .ok (S', t) → Lt S S') :
    ∀ (k k' : Nat) {S S' : St} {acc t : Tr}, k ≤ k' → stmts st k S acc = .ok (S', t) → To v S' t (stmts st' k' (v.T S) acc)
  | 0, k', S, S', acc, t, hk, h => by cases h
  | k + 1, 0, S, S', acc, t, hk, h => by omega
  | k + 1, k' + 1, S, S', acc, t, hk, h => by
    have hS := stmts_ne hl _ h
    unfold stmts at h ⊢
    rw [T_at v hS]
    split at h
    · rename_i h1
      rw [if_pos h1, T_adv v hS]
      cases h
      exact .inl rfl
    · rename_i h1
      rw [if_neg h1]
      obtain ⟨S1, t1, h2, h3⟩ := bnd_ok h
      exact (hs _ _ _ h2 (stmts_ne hl _ h3)).bnd (stmts_T v hs hl k k' (by omega) h3)
theorem block_T (v : Mv) {st st' : St → Res Tr} (hs : ∀ S S' t, st S = .ok (S', t) → S'.rest ≠ [] → To v S' t (st' (v.T S))) (hl : ∀ S S' t, st S = .ok (S', t) → Lt S S') {S S' : St} {t : Tr}
    (h : block st S = .ok (S', t)) : To v S' t (block st' (v.T S)) := by
  unfold block at h ⊢
  split at h
  · cases h
  · rename_i h1
    obtain ⟨S1, u, h2, h3⟩ := bnd_ok h
    obtain ⟨S2, t2, h4, h5⟩ := bnd_ok h3
    cases h5
    have hS := at_ne (take_ok h2).1 (by decide)
    rw [if_neg (by rw [T_at v hS]; exact h1)]
    refine (take_T v (by decide) h2).bnd ((stmts_T v hs hl _ ((v.T S1).rest.length + 1) (by have := T_len v S1; omega) h4).bnd (.inl rfl))
theorem blk_T (v : Mv) : ∀ (N N' : Nat) {S S' : St} {t : Tr}, N ≤ N' → blk N S = .ok (S', t) → To v S' t (blk N' (v.T S))
  | 0, N', S, S', t, hN, h => by cases h
  | N + 1, 0, S, S', t, hN, h => by omega
  | N + 1, N' + 1, S, S', t, hN, h =>
    block_T v (fun S S' t h hn => stmt_T v (fun S S' t h => blk_T v N N' (by omega) h) (fun S S' t h => blk_le N h) h hn) (fun S S' t h => stmtN_lt h) h
theorem function_T (v : Mv) {N N' : Nat} (hN : N ≤ N') {S S' : St} {f : Fn} (h : function N S = .ok (S', f)) : To v S' f (function N' (v.T S)) := by
  obtain ⟨S1, u1, h1, h2⟩ := bnd_ok h
  obtain ⟨S2, u2, h3, h4⟩ := bnd_ok h2
  obtain ⟨S3, u3, h5, h6⟩ := bnd_ok h4
  obtain ⟨S4, u4, h7, h8⟩ := bnd_ok h6
  obtain ⟨S5, u5, h9, h10⟩ := bnd_ok h8
  cases h10
  exact (take_T v (by decide) h1).bnd ((name_T v h3).bnd ((take_T v (by decide) h5).bnd ((list_T v (itemName_T v) itemName_b (by decide) h7).bnd ((blk_T v N N' hN h9).bnd (.inl rfl)))))
theorem function_le {N : Nat} {S S' : St} {f : Fn} (h : function N S = .ok (S', f)) : Le S S' := by
  obtain ⟨S1, u1, h1, h2⟩ := bnd_ok h
  obtain ⟨S2, u2, h3, h4⟩ := bnd_ok h2
  obtain ⟨S3, u3, h5, h6⟩ := bnd_ok h4
  obtain ⟨S4, u4, h7, h8⟩ := bnd_ok h6
  obtain ⟨S5, u5, h9, h10⟩ := bnd_ok h8
  cases h10
  exact ((((take_le h1).trans (name_le h3)).trans (take_le h5)).trans (list_le (fun _ _ _ _ h => itemName_le h) h7)).trans (blk_le N h9)

theorem funcs_T (v : Mv) {N N' : Nat} (hN : N ≤ N') : ∀ (k k' : Nat) {S S' : St} {acc p : List Fn}, S.rest.length < k → S.rest.length < k' → funcs N k S acc = .ok (S', p) →
    S'.rest = [] ∧ S'.d = S.d ∧ ∃ r, p = acc ++ r ∧ ∀ acc', (∃ k'', k' ≤ k'' + S.rest.length ∧ funcs N' k' (v.T S) acc' = funcs N' k'' (v.T S') (acc' ++ r)) ∨ ∃ q, funcs N' k' (v.T S) acc' = .error (22, q)
  | 0, k', S, S', acc, p, hk, hk', h => by omega
  | k + 1, 0, S, S', acc, p, hk, hk', h => by omega
  | k + 1, k' + 1, S, S', acc, p, hk, hk', h => by
    unfold funcs at h
    split at h
    · rename_i h1
      cases h
      exact ⟨List.isEmpty_iff.1 h1, rfl, [], by simp, fun acc' => .inl ⟨k' + 1, by omega, by simp⟩⟩
    · rename_i h1
      obtain ⟨S1, f, h2, h3⟩ := bnd_ok h
      have hsh := function_short h2
      have hS : S.rest ≠ [] := fun e => h1 (by rw [e]; rfl)
      obtain ⟨e1, e2, r, e3, e4⟩ := funcs_T v hN k k' (by omega) (by omega) h3
      refine ⟨e1, e2.trans (function_le h2).d, f :: r, by rw [e3]; simp, fun acc' => ?_⟩
      have hT : (v.T S).rest.isEmpty = false := by
        obtain ⟨rest, fin, n, d⟩ := S
        cases rest with
        | nil => exact absurd rfl hS
        | cons => rfl
      have ho : funcs N' (k' + 1) (v.T S) acc' = bnd (function N' (v.T S)) fun S1 f => funcs N' k' S1 (acc' ++ [f]) := by
        conv => lhs; unfold funcs
        rw [hT]; rfl
      rw [ho]
      rcases function_T v hN h2 with h4 | ⟨q, h4⟩
      · rw [h4]
        rcases e4 (acc' ++ [f]) with ⟨k'', hk2, h5⟩ | ⟨q, h5⟩
        · exact .inl ⟨k'', by omega, by show funcs N' k' (v.T S1) (acc' ++ [f]) = _; rw [h5]; simp⟩
        · exact .inr ⟨q, h5⟩
      · exact .inr ⟨q, by rw [h4]; rfl⟩

theorem read_ok {l : List Tok} {fin : Int} {p : List Fn} (h : read l fin = .ok p) : ∃ S, funcs (l.length + 1) (l.length + 1) ⟨l, fin, 0, 0⟩ [] = .ok (S, p) := by
  unfold read at h
  split at h
  · cases h
  · rename_i S p' h1
    cases h
    exact ⟨S, h1⟩
theorem read_parts {l m : List Tok} {f1 f2 f3 : Int} {p q : List Fn} (δ : Int) (h1 : read l f1 = .ok p) (h2 : read m f2 = .ok q) :
    read (l ++ m.map (Tok.mv δ)) f3 = .ok (p ++ q) ∨ ∃ x, read (l ++ m.map (Tok.mv δ)) f3 = .error (22, x) := by
  obtain ⟨S1, g1⟩ := read_ok h1
  obtain ⟨S2, g2⟩ := read_ok h2
  have hid : l.map (Tok.mv 0) = l := by
    have : Tok.mv 0 = id := by funext x; simp [Tok.mv]
    rw [this, List.map_id]
  have hlen : (l ++ m.map (Tok.mv δ)).length = l.length + m.length := by simp
  let v1 : Mv := ⟨0, m.map (Tok.mv δ), f3, 0⟩
  obtain ⟨a1, a2, r1, a3, a4⟩ := funcs_T v1 (N' := l.length + m.length + 1) (by omega) (l.length + 1) (l.length + m.length + 1) (by show l.length < _; omega) (by show l.length < _; omega) g1
  have t1 : v1.T ⟨l, f1, 0, 0⟩ = ⟨l ++ m.map (Tok.mv δ), f3, 0, 0⟩ := by simp [v1, Mv.T, hid]
  let v2 : Mv := ⟨δ, [], f3, S1.n⟩
  have t2 : v1.T S1 = v2.T ⟨m, f2, 0, 0⟩ := by
    have e : S1.d = 0 := a2
    simp [v1, v2, Mv.T, a1, e]
  simp only [List.nil_append] at a3
  subst a3
  unfold read
  rw [hlen]
  rcases a4 [] with ⟨k2, hk2, h3⟩ | ⟨x, h3⟩
  · rw [t1, t2] at h3
    have hk2' : l.length + m.length + 1 ≤ k2 + l.length := hk2
    obtain ⟨b1, b2, r2, b3, b4⟩ := funcs_T v2 (N' := l.length + m.length + 1) (by omega) (m.length + 1) k2 (by show m.length < _; omega) (by show m.length < _; omega) g2
    simp only [List.nil_append] at b3
    subst b3
    rcases b4 ([] ++ p) with ⟨k3, hk3, h4⟩ | ⟨x, h4⟩
    · left
      rw [h3, h4]
      have hT : v2.T S2 = ⟨[], f3, S2.n + S1.n, S2.d⟩ := by simp [v2, Mv.T, b1]
      rw [hT]
      have hd : ∀ k, funcs (l.length + m.length + 1) k ⟨[], f3, S2.n + S1.n, S2.d⟩ ([] ++ p ++ q) = .ok (⟨[], f3, S2.n + S1.n, S2.d⟩, p ++ q) := fun k => by
        cases k with
        | zero => simp [funcs]
        | succ k => simp [funcs]
      rw [hd]
    · right
      rw [h3, h4]
      exact ⟨x, rfl⟩
  · right
    rw [t1] at h3
    rw [h3]
    exact ⟨x, rfl⟩

theorem lex_ok {s : List UInt8} (h : (lex s).2.1 = 0) : s.length ≤ 65536 ∧ lexF 0 s = .ok (lex s).1 := by
  unfold lex at h ⊢
  split at h
  · simp at h
  · rename_i h1
    refine ⟨by omega, ?_⟩
    rw [if_neg h1]
    unfold lexF
    split at h
    · simp at h
    · rename_i ts h2; simp only [h2]
theorem parse_ok {s : List UInt8} {p : List Fn} (h : parse s = .ok p) : (lex s).2.1 = 0 ∧ read (lex s).1 s.length = .ok p := by
  unfold parse at h
  split at h
  · rename_i h1; exact ⟨h1, h⟩
  · cases h
theorem parse_parts {s t : List UInt8} {p q : List Fn} (hl : s.length + 1 + t.length ≤ 65536) (h1 : parse s = .ok p) (h2 : parse t = .ok q) :
    parse (s ++ 10 :: t) = .ok (p ++ q) ∨ ∃ x, parse (s ++ 10 :: t) = .error (22, x) := by
  obtain ⟨g1, r1⟩ := parse_ok h1
  obtain ⟨g2, r2⟩ := parse_ok h2
  obtain ⟨_, e1⟩ := lex_ok g1
  obtain ⟨_, e2⟩ := lex_ok g2
  have hj := lexF_parts s.length s t 0 (Nat.le_refl _)
  rw [e1] at hj
  have hsh := lexF_shift (s.length + 1) 0 t
  rw [e2] at hsh
  simp only [Nat.zero_add] at hj hsh
  rw [hsh] at hj
  have hmv : ((lex t).1.map fun x => (⟨x.k, x.t, x.p + ((s.length + 1 : Nat) : Int)⟩ : Tok)) = (lex t).1.map (Tok.mv ((s.length + 1 : Nat) : Int)) := rfl
  simp only [shift, pre] at hj
  have hlx : lex (s ++ 10 :: t) = ((lex s).1 ++ (lex t).1.map (Tok.mv ((s.length + 1 : Nat) : Int)), 0, 0) := by
    unfold lex
    rw [if_neg (by simp only [List.length_append, List.length_cons]; omega)]
    have : lexL (s ++ 10 :: t).length 0 (s ++ 10 :: t) = lexF 0 (s ++ 10 :: t) := rfl
    rw [this, hj]
    rfl
  unfold parse
  rw [hlx]
  exact read_parts _ r1 r2
end M
end Go.Proofs.YtkonkdhoakcmdaaDoor
