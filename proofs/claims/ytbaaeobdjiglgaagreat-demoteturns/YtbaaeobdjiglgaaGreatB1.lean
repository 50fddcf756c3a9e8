/-
  Texts of atoms as mathematics: the words, their lists, and that unlike lists have unlike texts. Nothing of the program's code is walked here. No conditions.
-/
import Derived.Test.YtbaaeobdjiglgaaGreatA1
import Derived.Lib.ItoaNum
set_option linter.unusedVariables false
namespace Go.Proofs.YtbaaeobdjiglgaaGreat
namespace M
theorem bytes_ext {a b : ByteArray} (h : a.data.toList = b.data.toList) : a = b := by
  obtain ⟨⟨x⟩⟩ := a
  obtain ⟨⟨y⟩⟩ := b
  simp only at h
  rw [h]
def wordB (x : Atm) : List UInt8 :=
  if x.k = 0 then [110, 117, 108, 108] else if x.k = 1 then [98, 111, 111, 108] else if x.k = 2 then [110, 117, 109]
  else if x.k = 3 then [102, 117, 110] ++ Lib.itoa x.n else if x.k = 4 then [114, 101, 99] ++ Lib.itoa x.n else if x.k = 5 then [115, 117, 109] ++ Lib.itoa x.n
  else if x.k = 6 then [97, 110, 121] else [63]
def tailB (r : List (List UInt8)) : List UInt8 := r.flatMap fun y => 32 :: y
def joinB : List (List UInt8) → List UInt8
  | [] => []
  | x :: r => x ++ tailB r
def textB (l : List Atm) : List UInt8 := joinB (l.map wordB)
theorem join_snoc (x : List UInt8) (r : List (List UInt8)) (y : List UInt8) : joinB ((x :: r) ++ [y]) = joinB (x :: r) ++ 32 :: y := by
  simp [joinB, tailB]
theorem text_first {l : List Atm} (h : 0 < l.length) : textB (l.take (0 + 1)) = wordB l[0] := by
  cases l with
  | nil => simp at h
  | cons x r => simp [textB, joinB, tailB]
theorem text_step {l : List Atm} {j : Nat} (hj : j < l.length) (h0 : 0 < j) : textB (l.take (j + 1)) = textB (l.take j) ++ 32 :: wordB l[j] := by
  unfold textB
  rw [List.take_succ_eq_append_getElem hj, List.map_append]
  cases l with
  | nil => simp at hj
  | cons x r =>
    obtain ⟨i, rfl⟩ : ∃ i, j = i + 1 := ⟨j - 1, by omega⟩
    rw [List.take_succ_cons, List.map_cons]
    exact join_snoc _ _ _
theorem nDigits_le : ∀ (k u : Nat), 1 ≤ k → u < 10 ^ k → Lib.nDigits u ≤ k
  | 0, u, h, _ => absurd h (by omega)
  | 1, u, _, h => by rw [Lib.nDigits_small (by omega)]; exact Nat.le_refl _
  | k + 2, u, _, h => by
    by_cases hu : u < 10
    · rw [Lib.nDigits_small hu]; omega
    · rw [Lib.nDigits_big hu]
      have := nDigits_le (k + 1) (u / 10) (by omega) (by
        rw [Nat.pow_succ] at h
        exact Nat.div_lt_of_lt_mul (by rw [Nat.mul_comm]; exact h))
      omega
theorem itoa_le {n : Int} (h1 : -9223372036854775808 ≤ n) (h2 : n ≤ 9223372036854775807) : (Lib.itoa n).length ≤ 21 := by
  unfold Lib.itoa
  split
  · rw [List.length_cons, Lib.decDigits_length]
    have := nDigits_le 20 n.natAbs (by omega) (by omega)
    omega
  · rw [Lib.decDigits_length]
    have := nDigits_le 20 n.toNat (by omega) (by omega)
    omega
theorem word_le {x : Atm} (h1 : -9223372036854775808 ≤ x.n) (h2 : x.n ≤ 9223372036854775807) : (wordB x).length ≤ 24 := by
  have := itoa_le h1 h2
  unfold wordB
  split
  · simp
  · split
    · simp
    · split
      · simp
      · split
        · simp; omega
        · split
          · simp; omega
          · split
            · simp; omega
            · split <;> simp
theorem text_le {l : List Atm} (h : ∀ x ∈ l, -9223372036854775808 ≤ x.n ∧ x.n ≤ 9223372036854775807) : (textB l).length ≤ 25 * l.length := by
  have key : ∀ l : List Atm, (∀ x ∈ l, -9223372036854775808 ≤ x.n ∧ x.n ≤ 9223372036854775807) → (tailB (l.map wordB)).length ≤ 25 * l.length := by
    intro l
    induction l with
    | nil => intro _; simp [tailB]
    | cons x r ih =>
      intro h
      have h1 := ih fun y hy => h y (List.mem_cons_of_mem _ hy)
      have h2 := h x (List.mem_cons_self ..)
      have h3 := word_le h2.1 h2.2
      simp only [tailB, List.map_cons, List.flatMap_cons, List.length_append, List.length_cons] at h1 ⊢
      omega
  cases l with
  | nil => simp [textB, joinB]
  | cons x r =>
    have h1 := key r fun y hy => h y (List.mem_cons_of_mem _ hy)
    have h2 := h x (List.mem_cons_self ..)
    have h3 := word_le h2.1 h2.2
    simp only [textB, joinB, List.map_cons, List.length_append, List.length_cons]
    omega

/-! unlike lists, unlike texts -/
theorem digit_toNat {d : Nat} (h : d < 10) : (UInt8.ofNat (48 + d)).toNat = 48 + d := by
  rw [UInt8.toNat_ofNat']; omega
theorem digits_range (u : Nat) : ∀ c ∈ Lib.decDigits u, 48 ≤ c.toNat ∧ c.toNat ≤ 57 := by
  induction u using Nat.strongRecOn with
  | _ u ih =>
    intro c hc
    rw [Lib.decDigits] at hc
    split at hc
    · rename_i h
      rw [List.mem_singleton] at hc
      rw [hc, digit_toNat h]; omega
    · rename_i h
      rcases List.mem_append.1 hc with h1 | h1
      · exact ih (u / 10) (by omega) c h1
      · rw [List.mem_singleton] at h1
        rw [h1, digit_toNat (by omega)]; omega
def valD (l : List UInt8) : Nat := l.foldl (fun a c => a * 10 + (c.toNat - 48)) 0
theorem val_digits (u : Nat) : valD (Lib.decDigits u) = u := by
  induction u using Nat.strongRecOn with
  | _ u ih =>
    rw [Lib.decDigits]
    split
    · rename_i h
      simp only [valD, List.foldl_cons, List.foldl_nil]
      rw [digit_toNat h]; omega
    · rename_i h
      have := ih (u / 10) (by omega)
      unfold valD at this ⊢
      rw [List.foldl_append, this, List.foldl_cons, List.foldl_nil, digit_toNat (by omega)]
      omega
theorem digits_inj {a b : Nat} (h : Lib.decDigits a = Lib.decDigits b) : a = b := by rw [← val_digits a, ← val_digits b, h]
theorem itoa_pos {n : Int} (h : 0 ≤ n) : Lib.itoa n = Lib.decDigits n.toNat := by unfold Lib.itoa; rw [if_neg (by omega)]
theorem word_kinds {x : Atm} (h : okA x = true) : (x.k = 0 ∧ x.n = 0) ∨ (x.k = 1 ∧ x.n = 0) ∨ (x.k = 2 ∧ x.n = 0) ∨ (x.k = 3 ∧ 0 ≤ x.n) ∨ (x.k = 4 ∧ 0 ≤ x.n) ∨ (x.k = 5 ∧ 0 ≤ x.n) ∨ (x.k = 6 ∧ x.n = 0) := by
  unfold okA at h
  split at h
  · have := of_decide_eq_true h; omega
  · have := of_decide_eq_true h; omega
theorem word_form {x : Atm} (h : okA x = true) : (x.n = 0 ∧ ((x.k = 0 ∧ wordB x = [110, 117, 108, 108]) ∨ (x.k = 1 ∧ wordB x = [98, 111, 111, 108]) ∨ (x.k = 2 ∧ wordB x = [110, 117, 109]) ∨ (x.k = 6 ∧ wordB x = [97, 110, 121]))) ∨
    (0 ≤ x.n ∧ ((x.k = 3 ∧ wordB x = [102, 117, 110] ++ Lib.decDigits x.n.toNat) ∨ (x.k = 4 ∧ wordB x = [114, 101, 99] ++ Lib.decDigits x.n.toNat) ∨ (x.k = 5 ∧ wordB x = [115, 117, 109] ++ Lib.decDigits x.n.toNat))) := by
  rcases word_kinds h with ⟨h1, h2⟩ | ⟨h1, h2⟩ | ⟨h1, h2⟩ | ⟨h1, h2⟩ | ⟨h1, h2⟩ | ⟨h1, h2⟩ | ⟨h1, h2⟩
  · exact .inl ⟨h2, .inl ⟨h1, by simp [wordB, h1]⟩⟩
  · exact .inl ⟨h2, .inr (.inl ⟨h1, by simp [wordB, h1]⟩)⟩
  · exact .inl ⟨h2, .inr (.inr (.inl ⟨h1, by simp [wordB, h1]⟩))⟩
  · exact .inr ⟨h2, .inl ⟨h1, by simp [wordB, h1, itoa_pos h2]⟩⟩
  · exact .inr ⟨h2, .inr (.inl ⟨h1, by simp [wordB, h1, itoa_pos h2]⟩)⟩
  · exact .inr ⟨h2, .inr (.inr ⟨h1, by simp [wordB, h1, itoa_pos h2]⟩)⟩
  · exact .inl ⟨h2, .inr (.inr (.inr ⟨h1, by simp [wordB, h1]⟩))⟩
theorem word_clean {x : Atm} (h : okA x = true) : (32 : UInt8) ∉ wordB x ∧ wordB x ≠ [] := by
  have hd : (32 : UInt8) ∉ Lib.decDigits x.n.toNat := fun hm => by
    have := (digits_range _ _ hm).1
    simp at this
  rcases word_form h with ⟨_, ⟨_, e⟩ | ⟨_, e⟩ | ⟨_, e⟩ | ⟨_, e⟩⟩ | ⟨_, ⟨_, e⟩ | ⟨_, e⟩ | ⟨_, e⟩⟩ <;> rw [e] <;> simp [hd]
theorem word_inj {x y : Atm} (hx : okA x = true) (hy : okA y = true) (h : wordB x = wordB y) : x = y := by
  have hd : ∀ a b : Int, 0 ≤ a → 0 ≤ b → Lib.decDigits a.toNat = Lib.decDigits b.toNat → a = b := fun a b ha hb h => by
    have := digits_inj h; omega
  rcases word_form hx with ⟨n1, ⟨k1, e1⟩ | ⟨k1, e1⟩ | ⟨k1, e1⟩ | ⟨k1, e1⟩⟩ | ⟨n1, ⟨k1, e1⟩ | ⟨k1, e1⟩ | ⟨k1, e1⟩⟩ <;>
  rcases word_form hy with ⟨n2, ⟨k2, e2⟩ | ⟨k2, e2⟩ | ⟨k2, e2⟩ | ⟨k2, e2⟩⟩ | ⟨n2, ⟨k2, e2⟩ | ⟨k2, e2⟩ | ⟨k2, e2⟩⟩ <;>
  rw [e1, e2] at h <;>
  first
    | exact atm_ext (k1.trans k2.symm) (n1.trans n2.symm)
    | exact atm_ext (k1.trans k2.symm) (hd _ _ n1 n2 (List.append_cancel_left h))
    | exact absurd h (by simp)
theorem tail_head (r : List (List UInt8)) : tailB r = [] ∧ r = [] ∨ ∃ t, tailB r = 32 :: t := by
  cases r with
  | nil => exact .inl ⟨rfl, rfl⟩
  | cons y r => exact .inr ⟨y ++ tailB r, by simp [tailB]⟩
theorem cut_blank : ∀ {a b s t : List UInt8}, (32 : UInt8) ∉ a → (32 : UInt8) ∉ b → (s = [] ∨ ∃ u, s = 32 :: u) → (t = [] ∨ ∃ u, t = 32 :: u) → a ++ s = b ++ t → a = b ∧ s = t
  | [], [], s, t, _, _, _, _, h => ⟨rfl, by simpa using h⟩
  | [], y :: b, s, t, _, hb, hs, _, h => by
    rcases hs with rfl | ⟨u, rfl⟩
    · simp at h
    · simp at h
      exact absurd (by rw [← h.1]; exact List.mem_cons_self ..) hb
  | x :: a, [], s, t, ha, _, _, ht, h => by
    rcases ht with rfl | ⟨u, rfl⟩
    · simp at h
    · simp at h
      exact absurd (by rw [h.1]; exact List.mem_cons_self ..) ha
  | x :: a, y :: b, s, t, ha, hb, hs, ht, h => by
    simp only [List.cons_append, List.cons.injEq] at h
    obtain ⟨e1, e2⟩ := cut_blank (fun m => ha (List.mem_cons_of_mem _ m)) (fun m => hb (List.mem_cons_of_mem _ m)) hs ht h.2
    exact ⟨by rw [h.1, e1], e2⟩
theorem tail_inj : ∀ {u v : List Atm}, (∀ x ∈ u, okA x = true) → (∀ x ∈ v, okA x = true) → tailB (u.map wordB) = tailB (v.map wordB) → u = v
  | [], [], _, _, _ => rfl
  | [], y :: v, _, _, h => by simp [tailB] at h
  | x :: u, [], _, _, h => by simp [tailB] at h
  | x :: u, y :: v, hu, hv, h => by
    have h' : 32 :: (wordB x ++ tailB (u.map wordB)) = 32 :: (wordB y ++ tailB (v.map wordB)) := by simpa [tailB] using h
    have ox := hu x (List.mem_cons_self ..)
    have oy := hv y (List.mem_cons_self ..)
    obtain ⟨e1, e2⟩ := cut_blank (word_clean ox).1 (word_clean oy).1 ((tail_head _).imp And.left id) ((tail_head _).imp And.left id) (List.cons.inj h').2
    rw [word_inj ox oy e1, tail_inj (fun z hz => hu z (List.mem_cons_of_mem _ hz)) (fun z hz => hv z (List.mem_cons_of_mem _ hz)) e2]
theorem text_inj {u v : List Atm} (hu : mayL u = true) (hv : mayL v = true) (h : textB u = textB v) : u = v := by
  have hu := ((may_iff u).1 hu).2
  have hv := ((may_iff v).1 hv).2
  match u, v, hu, hv, h with
  | [], [], _, _, _ => rfl
  | [], y :: v, _, hv, h =>
    have := (word_clean (hv y (List.mem_cons_self ..))).2
    simp [textB, joinB] at h
    exact absurd h.1 this
  | x :: u, [], hu, _, h =>
    have := (word_clean (hu x (List.mem_cons_self ..))).2
    simp [textB, joinB] at h
    exact absurd h.1 this
  | x :: u, y :: v, hu, hv, h =>
    have ox := hu x (List.mem_cons_self ..)
    have oy := hv y (List.mem_cons_self ..)
    simp only [textB, joinB, List.map_cons] at h
    obtain ⟨e1, e2⟩ := cut_blank (word_clean ox).1 (word_clean oy).1 ((tail_head _).imp And.left id) ((tail_head _).imp And.left id) h
    rw [word_inj ox oy e1, tail_inj (fun z hz => hu z (List.mem_cons_of_mem _ hz)) (fun z hz => hv z (List.mem_cons_of_mem _ hz)) e2]
end M
end Go.Proofs.YtbaaeobdjiglgaaGreat
