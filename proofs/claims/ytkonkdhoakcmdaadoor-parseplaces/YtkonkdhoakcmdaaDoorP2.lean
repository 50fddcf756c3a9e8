/-
  Plain facts on programs: each reading takes tokens and gives none back; statements are counted; blocks end where they began. Nothing of the program is named here. No conditions.
-/
import Derived.Test.YtkonkdhoakcmdaaDoorP
set_option linter.unusedVariables false
namespace Go.Proofs.YtkonkdhoakcmdaaDoor
namespace M

theorem more_le {β : Type} {item : St → β → Res β} (hi : ∀ S b S' b', item S b = .ok (S', b') → Le S S') : ∀ (k : Nat) {S S' : St} {b b' : β}, more item k S b = .ok (S', b') → Le S S'
  | 0, S, S', b, b', h => by cases h; exact Le.refl _
  | k + 1, S, S', b, b', h => by
    unfold more at h
    split at h
    · obtain ⟨S1, b1, h1, h2⟩ := bnd_ok h
      exact ((adv_le S).trans (hi _ _ _ _ h1)).trans (more_le hi k h2)
    · cases h; exact Le.refl _
theorem list_le {β : Type} {item : St → β → Res β} (hi : ∀ S b S' b', item S b = .ok (S', b') → Le S S') {last : ByteArray} {S S' : St} {b b' : β} (h : list last item S b = .ok (S', b')) : Le S S' := by
  unfold list at h
  split at h
  · cases h; exact adv_le S
  · obtain ⟨S1, b1, h1, h2⟩ := bnd_ok h
    obtain ⟨S2, b2, h3, h4⟩ := bnd_ok h2
    obtain ⟨S3, b3, h5, h6⟩ := bnd_ok h4
    cases h6
    exact ((hi _ _ _ _ h1).trans (more_le hi _ h3)).trans (take_le h5)
theorem itemOp_le {S S' : St} {l l' : List Opd} (h : itemOp S l = .ok (S', l')) : Le S S' := by
  obtain ⟨S1, o, h1, h2⟩ := bnd_ok h
  cases h2; exact operand_le h1
theorem itemName_le {S S' : St} {l l' : List ByteArray} (h : itemName S l = .ok (S', l')) : Le S S' := by
  obtain ⟨S1, o, h1, h2⟩ := bnd_ok h
  cases h2; exact name_le h1
theorem itemProp_le {S S' : St} {l l' : List ByteArray × List Opd} (h : itemProp S l = .ok (S', l')) : Le S S' := by
  obtain ⟨S1, o, h1, h2⟩ := bnd_ok h
  obtain ⟨S2, o2, h3, h4⟩ := bnd_ok h2
  obtain ⟨S3, o3, h5, h6⟩ := bnd_ok h4
  cases h6; exact ((name_le h1).trans (take_le h3)).trans (operand_le h5)
theorem operands_le {S S' : St} {l : List Opd} (h : operands S = .ok (S', l)) : Le S S' := by
  obtain ⟨S1, o, h1, h2⟩ := bnd_ok h
  exact (take_le h1).trans (list_le (fun _ _ _ _ h => itemOp_le h) h2)
theorem oneOperand_le {S S' : St} {l : List Opd} (h : oneOperand S = .ok (S', l)) : Le S S' := by
  obtain ⟨S1, o, h1, h2⟩ := bnd_ok h
  cases h2; exact operand_le h1
theorem object_le {S S' : St} {v : Val} (h : object S = .ok (S', v)) : Le S S' := by
  obtain ⟨S1, o, h1, h2⟩ := bnd_ok h
  obtain ⟨S2, o2, h3, h4⟩ := bnd_ok h2
  obtain ⟨S3, o3, h5, h6⟩ := bnd_ok h4
  obtain ⟨S4, o4, h7, h8⟩ := bnd_ok h6
  cases h8
  exact (((take_le h1).trans (list_le (fun _ _ _ _ h => itemProp_le h) h3)).trans (take_le h5)).trans (operand_le h7)
theorem value2_le {S S' : St} {a : Opd} {v : Val} (h : value2 S a = .ok (S', v)) : Le S S' := by
  unfold value2 at h
  split at h
  · obtain ⟨S1, o, h1, h2⟩ := bnd_ok h
    cases h2; exact (adv_le S).trans (name_le h1)
  · split at h
    · obtain ⟨S1, o, h1, h2⟩ := bnd_ok h
      cases h2; exact operands_le h1
    · split at h
      · obtain ⟨S1, o, h1, h2⟩ := bnd_ok h
        cases h2; exact (adv_le S).trans (operand_le h1)
      · cases h; exact Le.refl _
theorem value_le {S S' : St} {v : Val} (h : value S = .ok (S', v)) : Le S S' := by
  unfold value at h
  split at h
  · cases h; exact adv_le S
  · split at h
    · obtain ⟨S1, o, h1, h2⟩ := bnd_ok h
      obtain ⟨S2, o2, h3, h4⟩ := bnd_ok h2
      cases h4; exact ((adv_le S).trans (name_le h1)).trans (operands_le h3)
    · split at h
      · exact (adv_le S).trans (object_le h)
      · obtain ⟨S1, o, h1, h2⟩ := bnd_ok h
        exact (operand_le h1).trans (value2_le h2)
theorem plain_both {S S' : St} {t : Tr} (h : plain S = .ok (S', t)) : Le S S' ∧ S'.rest.length < S.rest.length := by
  unfold plain at h
  split at h
  · rename_i h0
    obtain ⟨S1, o, h1, h2⟩ := bnd_ok h
    cases h2
    have := adv_short (at_ne h0 (by decide))
    have l1 := oneOperand_le h1
    exact ⟨(adv_le S).trans l1, by have := l1.rest; omega⟩
  · split at h
    · rename_i h0
      obtain ⟨S1, o, h1, h2⟩ := bnd_ok h
      cases h2
      have := adv_short (at_ne h0 (by decide))
      have l1 := oneOperand_le h1
      exact ⟨(adv_le S).trans l1, by have := l1.rest; omega⟩
    · obtain ⟨S1, x, h1, h2⟩ := bnd_ok h
      have hs := name_short h1
      have hl := name_le h1
      split at h2
      · obtain ⟨S2, o2, h3, h4⟩ := bnd_ok h2
        obtain ⟨S3, o3, h5, h6⟩ := bnd_ok h4
        obtain ⟨S4, o4, h7, h8⟩ := bnd_ok h6
        cases h8
        have hl2 := (((adv_le S1).trans (name_le h3)).trans (take_le h5)).trans (oneOperand_le h7)
        exact ⟨hl.trans hl2, by have := hl2.rest; omega⟩
      · obtain ⟨S2, o2, h3, h4⟩ := bnd_ok h2
        obtain ⟨S3, o3, h5, h6⟩ := bnd_ok h4
        cases h6
        have hl2 := (take_le h3).trans (value_le h5)
        exact ⟨hl.trans hl2, by have := hl2.rest; omega⟩

theorem atStmt_ne {S : St} (h : S.atStmt = true) : S.rest ≠ [] := by
  unfold St.atStmt at h
  simp only [Bool.or_eq_true] at h
  rcases h with h | h | h | h | h
  · exact isName_ne h
  all_goals exact at_ne h (by decide)

/-- what a statement takes -/
structure Lt (S S' : St) : Prop where
  rest : S'.rest.length < S.rest.length
  n : S.n + 1 ≤ S'.n
  d : S'.d = S.d
theorem stmt_lt {b : St → Res Tr} (hb : ∀ S S' t, b S = .ok (S', t) → Le S S') {S S' : St} {t : Tr} (h : stmt b S = .ok (S', t)) : Lt S S' := by
  unfold stmt at h
  split at h
  · rename_i ha
    have hne := atStmt_ne ha
    split at h
    · cases h
    · have hm : S.more.adv.rest.length < S.rest.length := adv_short (S := S.more) hne
      split at h
      · unfold branch at h
        obtain ⟨S1, o, h1, h2⟩ := bnd_ok h
        obtain ⟨S2, o2, h3, h4⟩ := bnd_ok h2
        have hl := (oneOperand_le h1).trans (hb _ _ _ h3)
        split at h4
        · obtain ⟨S3, o3, h5, h6⟩ := bnd_ok h4
          cases h6
          have hl2 := (hl.trans (adv_le S2)).trans (hb _ _ _ h5)
          exact ⟨by have := hl2.rest; omega, hl2.n, hl2.d⟩
        · cases h4
          exact ⟨by have := hl.rest; omega, hl.n, hl.d⟩
      · split at h
        · unfold loopS at h
          obtain ⟨S1, o, h1, h2⟩ := bnd_ok h
          obtain ⟨S2, o2, h3, h4⟩ := bnd_ok h2
          cases h4
          have hl := (oneOperand_le h1).trans (hb _ _ _ h3)
          exact ⟨by have := hl.rest; omega, hl.n, hl.d⟩
        · obtain ⟨S1, o, h1, h2⟩ := bnd_ok h
          obtain ⟨S2, o2, h3, h4⟩ := bnd_ok h2
          cases h4
          obtain ⟨hl, hs⟩ := plain_both h1
          have hl2 := hl.trans (take_le h3)
          have e : S.more.rest.length = S.rest.length := rfl
          exact ⟨by have := (take_le h3).rest; omega, hl2.n, hl2.d⟩
  · cases h
theorem stmt_lim {b : St → Res Tr} (hb : ∀ S S' t, b S = .ok (S', t) → Le S S') {S S' : St} {t : Tr} (h : stmt b S = .ok (S', t)) (hl0 : S.n ≤ 2000) : S'.n ≤ 2000 := by
  unfold stmt at h
  split at h
  · split at h
    · cases h
    · rename_i hn
      have hm : S.more.n ≤ 2000 := by show S.n + 1 ≤ 2000; omega
      split at h
      · unfold branch at h
        obtain ⟨S1, o, h1, h2⟩ := bnd_ok h
        obtain ⟨S2, o2, h3, h4⟩ := bnd_ok h2
        have hl := (oneOperand_le h1).trans (hb _ _ _ h3)
        split at h4
        · obtain ⟨S3, o3, h5, h6⟩ := bnd_ok h4
          cases h6
          exact ((hl.trans (adv_le S2)).trans (hb _ _ _ h5)).lim hm
        · cases h4
          exact hl.lim hm
      · split at h
        · unfold loopS at h
          obtain ⟨S1, o, h1, h2⟩ := bnd_ok h
          obtain ⟨S2, o2, h3, h4⟩ := bnd_ok h2
          cases h4
          exact ((oneOperand_le h1).trans (hb _ _ _ h3)).lim hm
        · obtain ⟨S1, o, h1, h2⟩ := bnd_ok h
          obtain ⟨S2, o2, h3, h4⟩ := bnd_ok h2
          cases h4
          exact ((plain_both h1).1.trans (take_le h3)).lim hm
  · cases h
theorem stmts_le {st : St → Res Tr} (hs : ∀ S S' t, st S = .ok (S', t) → Lt S S') (hl : ∀ S S' t, st S = .ok (S', t) → S.n ≤ 2000 → S'.n ≤ 2000) : ∀ (k : Nat) {S S' : St} {acc t : Tr}, stmts st k S acc = .ok (S', t) → Le S S'
  | 0, S, S', acc, t, h => by cases h
  | k + 1, S, S', acc, t, h => by
    unfold stmts at h
    split at h
    · cases h; exact adv_le S
    · obtain ⟨S1, t1, h1, h2⟩ := bnd_ok h
      have l1 := hs _ _ _ h1
      exact (⟨Nat.le_of_lt l1.rest, by have := l1.n; omega, l1.d, hl _ _ _ h1⟩ : Le S S1).trans (stmts_le hs hl k h2)
theorem block_le {st : St → Res Tr} (hs : ∀ S S' t, st S = .ok (S', t) → Lt S S') (hl : ∀ S S' t, st S = .ok (S', t) → S.n ≤ 2000 → S'.n ≤ 2000) {S S' : St} {t : Tr} (h : block st S = .ok (S', t)) : Le S S' := by
  unfold block at h
  split at h
  · cases h
  · obtain ⟨S1, u, h1, h2⟩ := bnd_ok h
    obtain ⟨S2, t2, h3, h4⟩ := bnd_ok h2
    cases h4
    have l1 := take_le h1
    have l2 := stmts_le hs hl _ h3
    refine ⟨Nat.le_trans l2.rest l1.rest, Nat.le_trans l1.n l2.n, ?_, fun x => l2.lim (l1.lim x)⟩
    show S2.d - 1 = S.d
    have e : S2.d = S1.d + 1 := l2.d
    rw [e, l1.d]; rfl
theorem blk_le : ∀ (N : Nat) {S S' : St} {t : Tr}, blk N S = .ok (S', t) → Le S S'
  | 0, S, S', t, h => by cases h
  | N + 1, S, S', t, h => block_le (fun _ _ _ h => stmt_lt (fun _ _ _ h => blk_le N h) h) (fun _ _ _ h x => stmt_lim (fun _ _ _ h => blk_le N h) h x) h
theorem stmtN_lt {N : Nat} {S S' : St} {t : Tr} (h : stmt (blk N) S = .ok (S', t)) : Lt S S' := stmt_lt (fun _ _ _ h => blk_le N h) h
theorem stmtsN_le {N k : Nat} {S S' : St} {acc t : Tr} (h : stmts (stmt (blk N)) k S acc = .ok (S', t)) : Le S S' :=
  stmts_le (fun _ _ _ h => stmtN_lt h) (fun _ _ _ h x => stmt_lim (fun _ _ _ h => blk_le N h) h x) k h
theorem app_len : ∀ a b : Tr, (a.app b).len = a.len + b.len
  | .nil, b => by simp [Tr.app, Tr.len]
  | .cons _ _ _ _ _ _ _ _ nx, b => by simp only [Tr.app, Tr.len, app_len nx b]; omega
theorem function_short {N : Nat} {S S' : St} {f : Fn} (h : function N S = .ok (S', f)) : S'.rest.length + 3 ≤ S.rest.length := by
  obtain ⟨S1, u1, h1, h2⟩ := bnd_ok h
  obtain ⟨S2, u2, h3, h4⟩ := bnd_ok h2
  obtain ⟨S3, u3, h5, h6⟩ := bnd_ok h4
  obtain ⟨S4, u4, h7, h8⟩ := bnd_ok h6
  obtain ⟨S5, u5, h9, h10⟩ := bnd_ok h8
  cases h10
  have a1 := take_short h1 (by decide)
  have a2 := name_short h3
  have a3 := take_short h5 (by decide)
  have a4 := (list_le (fun _ _ _ _ h => itemName_le h) h7).rest
  have a5 := (blk_le N h9).rest
  omega
end M
end Go.Proofs.YtkonkdhoakcmdaaDoor
