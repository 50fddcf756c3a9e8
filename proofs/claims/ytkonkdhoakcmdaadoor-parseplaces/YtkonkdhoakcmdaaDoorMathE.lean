/-
  Plain facts on what is read from what: tokens that may be are read from their print; what is read may be; a text is read part by part. Nothing of the program is named here. No conditions but those that each fact names.
-/
import Derived.Test.YtkonkdhoakcmdaaDoorMathD
namespace Go.Proofs.YtkonkdhoakcmdaaDoor
namespace M

theorem mem_tw {p : UInt8 → Bool} : ∀ {l : List UInt8} {a : UInt8}, a ∈ l.takeWhile p → p a = true
  | [], _, h => by simp at h
  | c :: r, a, h => by
    by_cases hc : p c = true
    · rw [List.takeWhile_cons_of_pos hc] at h
      rcases List.mem_cons.1 h with rfl | h
      · exact hc
      · exact mem_tw h
    · rw [List.takeWhile_cons_of_neg hc] at h; simp at h

theorem ext0_append (p : UInt8 → Bool) (l r : List UInt8) (h : ∀ a, a ∈ l → p a = true) : ext p (l ++ r) 0 = l.length + ext p r 0 := by
  simp [ext, List.takeWhile_append_of_pos h]

theorem ext0_stop (p : UInt8 → Bool) (r : List UInt8) (h : r.head?.any p = false) : ext p r 0 = 0 := by
  cases r with
  | nil => rfl
  | cons c r =>
    have : p c = false := by simpa using h
    simp [ext, List.takeWhile_cons_of_neg (by simp [this] : ¬ p c = true)]

theorem ext0_all {p : UInt8 → Bool} {l : List UInt8} (h : ext p l 0 = l.length) : ∀ a, a ∈ l → p a = true := by
  have h1 : (l.takeWhile p).length = l.length := by simpa [ext] using h
  have h2 : l.takeWhile p = l := (List.takeWhile_sublist (p := p) (l := l)).eq_of_length h1
  intro a ha
  rw [← h2] at ha
  exact mem_tw ha

theorem ext0_split (p : UInt8 → Bool) (l : List UInt8) : (∀ a, a ∈ l.take (ext p l 0) → p a = true) ∧ (l.drop (ext p l 0)).head?.any p = false := by
  have e : ext p l 0 = (l.takeWhile p).length := by simp [ext]
  rw [e]
  have h1 : l.take (l.takeWhile p).length = l.takeWhile p := by
    conv => lhs; rw [← List.takeWhile_append_dropWhile (p := p) (l := l)]
    rw [List.takeWhile_append_dropWhile]
    conv => lhs; arg 2; rw [← List.takeWhile_append_dropWhile (p := p) (l := l)]
    rw [List.take_left]
  have h2 : l.drop (l.takeWhile p).length = l.dropWhile p := by
    conv => lhs; arg 2; rw [← List.takeWhile_append_dropWhile (p := p) (l := l)]
    rw [List.drop_left]
  refine ⟨fun a ha => ?_, ?_⟩
  · rw [h1] at ha; exact mem_tw ha
  · rw [h2]
    have := List.head?_dropWhile_not p l
    cases hd : (l.dropWhile p).head? with
    | none => rfl
    | some c => rw [hd] at this; simpa using this

theorem pDig_pInn {c : UInt8} (h : pInn c = false) : pDig c = false := by
  have h1 := of_decide_eq_false h
  apply decide_eq_false
  intro h2
  exact h1 (.inr (.inl h2))

theorem head_dig {r : List UInt8} (h : r.head?.any pInn = false) : r.head?.any pDig = false := by
  cases r with
  | nil => rfl
  | cons c r => simp only [List.head?_cons, Option.any_some] at h ⊢; exact pDig_pInn h

theorem goB_append (l r : List UInt8) : goB (l ++ r) l.length = r.head?.any pInn := by
  rw [goB, List.getElem?_append_right (Nat.le_refl _), Nat.sub_self]
  cases r <;> rfl

/-- a token that may be, where what stands behind it does not go on with it, is what begins here -/
theorem nxt_may (x : Tok) (h : may1 x = true) (r : List UInt8) (hr : r.head?.any pInn = false) : nxt (x.t.data.toList ++ r) = some (some x.k, x.t.size) := by
  have hsz : x.t.size = x.t.data.toList.length := by simp
  rw [hsz]
  unfold may1 at h
  split at h
  · rename_i hk
    rw [hk]
    rw [wordB] at h
    simp only [Bool.and_eq_true, beq_iff_eq] at h
    obtain ⟨_, h3, h4⟩ := h
    have hall := ext0_all h4
    generalize x.t.data.toList = l at *
    cases l with
    | nil => simp [begB] at h3
    | cons c q =>
      have hc : cls c.toNat = 3 := by simpa [begB] using h3
      have he : ext pInn (c :: q ++ r) 0 = (c :: q).length := by rw [ext0_append _ _ _ hall, ext0_stop _ _ hr]; simp
      rw [List.cons_append] at he ⊢
      simp only [nxt, hc]
      simp [he]
  · split at h
    · rename_i hk
      rw [hk]
      rw [numB] at h
      simp only [Bool.and_eq_true, beq_iff_eq, decide_eq_true_eq] at h
      obtain ⟨h1, h2, h4⟩ := h
      have hall := ext0_all h4
      have hgo := goB_append x.t.data.toList r
      generalize x.t.data.toList = l at *
      cases l with
      | nil => simp at h1
      | cons c q =>
        have hc : cls c.toNat = 4 := of_decide_eq_true (hall c (List.mem_cons_self ..))
        have he : ext pDig (c :: q ++ r) 0 = (c :: q).length := by rw [ext0_append _ _ _ hall, ext0_stop _ _ (head_dig hr)]; simp
        rw [hr] at hgo
        rw [List.cons_append] at he hgo ⊢
        simp only [nxt, hc, he]
        rw [if_neg (by decide), if_neg (by decide), if_neg (by decide), if_neg (by decide), if_pos trivial, if_pos ⟨h2, hgo⟩]
    · split at h
      · rename_i hk
        rw [hk]
        simp only [Bool.and_eq_true, beq_iff_eq] at h
        obtain ⟨h1, h2⟩ := h
        rw [hsz] at h1
        generalize x.t.data.toList = l at *
        cases l with
        | nil => simp at h1
        | cons c q =>
          have hc : cls c.toNat = 5 := by simpa [begB] using h2
          have hq : q = [] := by simpa using h1
          subst hq
          simp [nxt, hc]
      · cases h

/-- tokens without their places -/
def plainT (l : List Tok) : List Tok := l.map fun x => ⟨x.k, x.t, 0⟩

theorem bytes_mk (b : ByteArray) : (ByteArray.mk b.data.toList.toArray) = b := bytes_ext (by simp)

theorem prnT_head (l : List Tok) : (prnT l).head?.any pInn = false := by
  cases l with
  | nil => rfl
  | cons x r => simp only [prnT, List.flatMap_cons, List.cons_append, List.head?_cons, Option.any_some]; decide

theorem take_left' {α : Type} (a b : List α) (n : Nat) (h : n = a.length) : (a ++ b).take n = a := by subst h; exact List.take_left
theorem drop_left' {α : Type} (a b : List α) (n : Nat) (h : n = a.length) : (a ++ b).drop n = b := by subst h; exact List.drop_left

/-- one token ahead of what does not go on with it -/
theorem lexF_may (x : Tok) (h : may1 x = true) (r : List UInt8) (hr : r.head?.any pInn = false) (p : Nat) :
    lexF p (x.t.data.toList ++ r) = pre [⟨x.k, x.t, p⟩] (lexF (p + x.t.size) r) := by
  rw [lexF_tok (nxt_may x h r hr), take_left' _ _ _ (by simp), drop_left' _ _ _ (by simp), bytes_mk]

theorem nxt_blank (c : UInt8) (r : List UInt8) (h : cls c.toNat = 1) : nxt (c :: r) = some (none, 1) := by simp [nxt, h]

theorem lexF_blank (c : UInt8) (r : List UInt8) (h : cls c.toNat = 1) (p : Nat) : lexF p (c :: r) = lexF (p + 1) r := by
  rw [lexF_skip (nxt_blank c r h)]; rfl

theorem lexF_prnT : ∀ (l : List Tok) (p : Nat), may l = true → ∃ us, lexF p (prnT l) = .ok us ∧ plainT us = plainT l
  | [], p, _ => ⟨[], rfl, rfl⟩
  | x :: r, p, h => by
    simp only [may, List.all_cons, Bool.and_eq_true] at h
    have e : prnT (x :: r) = 32 :: (x.t.data.toList ++ prnT r) := by simp [prnT]
    obtain ⟨us, h1, h2⟩ := lexF_prnT r (p + 1 + x.t.size) h.2
    rw [e, lexF_blank 32 _ (by decide), lexF_may x h.1 _ (prnT_head r), h1]
    exact ⟨_, rfl, by simp only [plainT, List.map_append, List.map_cons, List.map_nil] at h2 ⊢; rw [h2]; rfl⟩

theorem lexF_prn (l : List Tok) (p : Nat) (h : may l = true) : ∃ us, lexF p (prn l) = .ok us ∧ plainT us = plainT l := by
  cases l with
  | nil => exact ⟨[], rfl, rfl⟩
  | cons x r =>
    simp only [may, List.all_cons, Bool.and_eq_true] at h
    obtain ⟨us, h1, h2⟩ := lexF_prnT r (p + x.t.size) h.2
    rw [prn, lexF_may x h.1 _ (prnT_head r), h1]
    exact ⟨_, rfl, by simp only [plainT, List.map_append, List.map_cons, List.map_nil] at h2 ⊢; rw [h2]; rfl⟩

theorem lex_of_ok {l : List UInt8} {ts : List Tok} (hl : l.length ≤ 65536) (h : lexF 0 l = .ok ts) : lex l = (ts, 0, 0) := by
  unfold lex
  rw [if_neg (by omega)]
  unfold lexF at h
  rw [h]

theorem lex_of_error {l : List UInt8} {e : Nat} (hl : l.length ≤ 65536) (h : lexF 0 l = .error e) : lex l = ([], 10, (e : Int)) := by
  unfold lex
  rw [if_neg (by omega)]
  unfold lexF at h
  rw [h]

theorem lex_long {l : List UInt8} (hl : 65536 < l.length) : lex l = ([], 11, 0) := by
  unfold lex; rw [if_pos hl]

/-- P1.3: tokens are read from their print as they were, but for their places -/
theorem lex_print (l : List Tok) (h : may l = true) (hl : (print l).length ≤ 65536) : ∃ us, lex (print l) = (us, 0, 0) ∧ plainT us = plainT l := by
  rw [print, if_pos h] at hl ⊢
  obtain ⟨us, h1, h2⟩ := lexF_prn l 0 h
  exact ⟨us, lex_of_ok hl h1, h2⟩

/-- two words, parted by a blank -/
theorem lex_words (a b : ByteArray) (ha : wordB a.data.toList = true) (hb : wordB b.data.toList = true) (h1 : a.size ≤ 1000) (h2 : b.size ≤ 1000) :
    lex (a.data.toList ++ (32 :: b.data.toList)) = ([⟨0, a, 0⟩, ⟨0, b, a.size + 1⟩], 0, 0) := by
  have ma : may1 ⟨0, a, 0⟩ = true := by simp [may1, ha]
  have mb : may1 ⟨0, b, 0⟩ = true := by simp [may1, hb]
  apply lex_of_ok
  · simp; omega
  · have e1 := lexF_may ⟨0, a, 0⟩ ma (32 :: b.data.toList) (by simp only [List.head?_cons, Option.any_some]; decide) 0
    have e2 := lexF_may ⟨0, b, 0⟩ mb [] rfl (0 + a.size + 1)
    simp only [List.append_nil] at e2
    rw [e1, lexF_blank 32 _ (by decide), e2, lexF_nil]
    simp [pre]

theorem print_words (a b : ByteArray) (p q : Int) (ha : wordB a.data.toList = true) (hb : wordB b.data.toList = true) :
    print [⟨0, a, p⟩, ⟨0, b, q⟩] = a.data.toList ++ (32 :: b.data.toList) := by
  have : may [⟨0, a, p⟩, ⟨0, b, q⟩] = true := by simp [may, may1, ha, hb]
  rw [print, if_pos this]; simp [prn, prnT]

end M
end Go.Proofs.YtkonkdhoakcmdaaDoor
