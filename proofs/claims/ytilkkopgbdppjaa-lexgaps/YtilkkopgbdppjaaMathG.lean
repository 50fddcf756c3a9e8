/-
  Plain facts on gaps: a remark, or a blank, ahead of a token changes nothing but places. Nothing of the program is named here. No conditions but those that each fact names.
-/
import Derived.Test.YtilkkopgbdppjaaMathF
namespace Go.Proofs.Ytilkkopgbdppjaa
namespace M

/-- what stands behind a token that is no sign does not go on with it -/
theorem nxt_head {l : List UInt8} {k : Int} {n : Nat} (h : nxt l = some (some k, n)) : k = 2 ∨ (l.drop n).head?.any pInn = false := by
  obtain ⟨c, r, rfl, hw⟩ := nxt_ways h
  rcases hw with ⟨_, e, _⟩ | ⟨_, e, _⟩ | ⟨h3, e, hn⟩ | ⟨h5, e, hn⟩ | ⟨h4, e, hn, h9, hg⟩
  · cases e
  · cases e
  · right; rw [hn]; exact (ext0_split pInn (c :: r)).2
  · left; simpa using e
  · right
    have := goB_drop (c :: r) n 0
    rw [Nat.add_zero, hg, goB] at this
    rw [← this]
    cases (c :: r).drop n <;> rfl

/-- a token is told by its own bytes, and by the next one -/
theorem nxt_local {l : List UInt8} {k : Int} {n : Nat} (h : nxt l = some (some k, n)) (hl : l.length ≤ 65536) (x : List UInt8) (hx : k = 2 ∨ x.head?.any pInn = false) : nxt (l.take n ++ x) = some (some k, n) := by
  have hb := nxt_bounds h
  have hlen : (l.take n).length = n := by rw [List.length_take]; omega
  rcases hx with rfl | hx
  · obtain ⟨c, r, rfl, hw⟩ := nxt_ways h
    rcases hw with ⟨_, e, _⟩ | ⟨_, e, _⟩ | ⟨h3, e, hn⟩ | ⟨h5, e, hn⟩ | ⟨h4, e, hn, h9, hg⟩
    · cases e
    · cases e
    · simp at e
    · subst hn
      show nxt (c :: x) = _
      rw [nxt_cons, h5]; rfl
    · simp at e
  · have := nxt_may ⟨k, ⟨(l.take n).toArray⟩, 0⟩ (nxt_may1 h hl 0) x hx
    have hsz : (ByteArray.mk (l.take n).toArray).size = n := by simp only [ByteArray.size, List.size_toArray]; exact hlen
    rw [hsz] at this
    exact this

/-- a blank, or a remark, is told by its own bytes, and by the next one -/
theorem nxt_skip_local {l : List UInt8} {n : Nat} (h : nxt l = some (none, n)) (x : List UInt8) (hx : x.head?.any pNl = false ∨ n = 1 ∧ ∃ c r, l = c :: r ∧ cls c.toNat = 1) : nxt (l.take n ++ x) = some (none, n) := by
  have hb := nxt_bounds h
  have hlen : (l.take n).length = n := by rw [List.length_take]; omega
  obtain ⟨c, r, rfl, hw⟩ := nxt_ways h
  rcases hw with ⟨h1, _, hn⟩ | ⟨h2, _, hn⟩ | ⟨_, e, _⟩ | ⟨_, e, _⟩ | ⟨_, e, _⟩
  · subst hn
    exact nxt_blank c x h1
  · rcases hx with hx | ⟨hn1, c', r', hc, h1⟩
    · have hs := (ext0_split pNl (c :: r)).1
      rw [← hn] at hs
      have he := ext0_append pNl _ x hs
      rw [ext0_stop _ _ hx, hlen, Nat.add_zero] at he
      obtain ⟨m, rfl⟩ : ∃ m, n = m + 1 := ⟨n - 1, by omega⟩
      rw [List.take_succ_cons, List.cons_append] at he ⊢
      rw [nxt_cons, h2, he]; rfl
    · simp only [List.cons.injEq] at hc
      rw [← hc.1, h2] at h1; exact absurd h1 (by decide)
  · cases e
  · cases e
  · cases e

theorem cls10 (c : UInt8) (h : pNl c = false) : cls c.toNat = 1 := by
  have : c.toNat = 10 := Decidable.not_not.1 (of_decide_eq_false h)
  rw [this]; decide

/-- where a token begins a text can be cut -/
theorem lexF_cut : ∀ (f q : Nat) (l : List UInt8) (ts : List Tok) (i : Nat), l.length ≤ f → l.length ≤ 65536 → lexF q l = .ok ts → (hi : i < ts.length) →
    ∃ p, ts[i].p = ((q + p : Nat) : Int) ∧ p ≤ l.length ∧ lexF (q + p) (l.drop p) = .ok (ts.drop i) ∧ (∃ k n, nxt (l.drop p) = some (some k, n)) ∧
      ∀ r, r.head?.any pInn = false → lexF q (l.take p ++ r) = pre (ts.take i) (lexF (q + p) r)
  | f, q, [], ts, i, _, _, h, hi => by rw [lexF_nil] at h; simp only [Except.ok.injEq] at h; subst h; simp at hi
  | 0, q, c :: r, ts, i, hf, _, _, _ => by simp at hf
  | f + 1, q, c :: r, ts, i, hf, hl, h, hi => by
    cases hn : nxt (c :: r) with
    | none => rw [lexF_none (by simp) hn] at h; cases h
    | some w =>
      obtain ⟨k, n⟩ := w
      have hb := nxt_bounds hn
      have hd : ((c :: r).drop n).length ≤ f := by simp only [List.length_drop]; omega
      have hd6 : ((c :: r).drop n).length ≤ 65536 := by simp only [List.length_drop]; omega
      have hlen : ((c :: r).take n).length = n := by rw [List.length_take]; omega
      cases k with
      | none =>
        rw [lexF_skip hn] at h
        obtain ⟨p, h1, h2, h3, h4, h5⟩ := lexF_cut f (q + n) ((c :: r).drop n) ts i hd hd6 h hi
        refine ⟨n + p, by rw [h1, Nat.add_assoc], by simp only [List.length_drop] at h2; omega, by rw [← List.drop_drop, ← Nat.add_assoc]; exact h3, by rw [← List.drop_drop]; exact h4, fun x hx => ?_⟩
        rw [List.take_add, List.append_assoc]
        have hloc : nxt ((c :: r).take n ++ (((c :: r).drop n).take p ++ x)) = some (none, n) := by
          refine nxt_skip_local hn _ ?_
          obtain ⟨c', r', hc, hw⟩ := nxt_ways hn
          rcases hw with ⟨w1, _, wn⟩ | ⟨w2, _, wn⟩ | ⟨_, e, _⟩ | ⟨_, e, _⟩ | ⟨_, e, _⟩
          · exact .inr ⟨wn, c', r', hc, w1⟩
          · left
            have hs := (ext0_split pNl (c :: r)).2
            rw [← wn] at hs
            obtain ⟨k', n', h4'⟩ := h4
            cases hdr : (c :: r).drop n with
            | nil => rw [hdr] at h4'; simp [nxt] at h4'
            | cons d s =>
              rw [hdr] at hs h4'
              have hd10 : pNl d = false := by simpa using hs
              cases p with
              | zero =>
                rw [List.drop_zero, nxt_blank d s (cls10 d hd10)] at h4'
                simp at h4'
              | succ p' =>
                simp only [List.take_succ_cons, List.cons_append, List.head?_cons, Option.any_some]; exact hd10
          · cases e
          · cases e
          · cases e
        rw [lexF_skip hloc, drop_left' _ _ _ hlen.symm, h5 x hx, Nat.add_assoc]
      | some k =>
        rw [lexF_tok hn] at h
        cases hu : lexF (q + n) ((c :: r).drop n) with
        | error e => rw [hu] at h; cases h
        | ok us =>
          have h' := h
          rw [hu] at h
          simp only [pre, Except.ok.injEq] at h
          subst h
          cases i with
          | zero =>
            refine ⟨0, rfl, Nat.zero_le _, ?_, ⟨k, n, by rw [List.drop_zero]; exact hn⟩, fun x hx => ?_⟩
            · rw [List.drop_zero, List.drop_zero, Nat.add_zero, lexF_tok hn]; exact h'
            · rw [List.take_zero, List.take_zero, List.nil_append, pre_nil, Nat.add_zero]
          | succ i =>
            simp only [List.singleton_append, List.length_cons] at hi
            obtain ⟨p, h1, h2, h3, h4, h5⟩ := lexF_cut f (q + n) ((c :: r).drop n) us i hd hd6 hu (by omega)
            refine ⟨n + p, ?_, by simp only [List.length_drop] at h2; omega, ?_, by rw [← List.drop_drop]; exact h4, fun x hx => ?_⟩
            · simp only [List.singleton_append, List.getElem_cons_succ]; rw [h1, Nat.add_assoc]
            · rw [← List.drop_drop, ← Nat.add_assoc]; simp only [List.singleton_append, List.drop_succ_cons]; exact h3
            · rw [List.take_add, List.append_assoc]
              have hloc : nxt ((c :: r).take n ++ (((c :: r).drop n).take p ++ x)) = some (some k, n) := by
                refine nxt_local hn hl _ ?_
                rcases nxt_head hn with hk | hk
                · exact .inl hk
                · right
                  cases hdr : (c :: r).drop n with
                  | nil => rw [List.take_nil, List.nil_append]; exact hx
                  | cons d s =>
                    rw [hdr] at hk
                    cases p with
                    | zero => rw [List.take_zero, List.nil_append]; exact hx
                    | succ p' => simp only [List.take_succ_cons, List.cons_append, List.head?_cons, Option.any_some] at hk ⊢; exact hk
              rw [lexF_tok hloc, drop_left' _ _ _ hlen.symm, take_left' _ _ _ hlen.symm, h5 x hx, Nat.add_assoc, pre_pre]
              simp only [List.singleton_append, List.take_succ_cons]

/-- a remark with its byte 10 -/
theorem lexF_remark (m r : List UInt8) (h : ∀ a, a ∈ m → pNl a = true) (p : Nat) : lexF p (35 :: m ++ 10 :: r) = lexF (p + (m.length + 2)) r := by
  have hall : ∀ a, a ∈ (35 :: m) → pNl a = true := by
    intro a ha
    rcases List.mem_cons.1 ha with rfl | ha
    · decide
    · exact h a ha
  have he := ext0_append pNl (35 :: m) (10 :: r) hall
  rw [ext0_stop pNl (10 :: r) (by simp only [List.head?_cons, Option.any_some]; decide), Nat.add_zero] at he
  have hn : nxt (35 :: m ++ 10 :: r) = some (none, (35 :: m).length) := by
    rw [List.cons_append] at he ⊢
    rw [nxt_cons, he]; rfl
  rw [lexF_skip hn, drop_left' _ _ _ rfl, lexF_blank 10 r (by decide), List.length_cons]
  congr 1

/-- the gaps that are tried -/
def gap (k : Nat) : List UInt8 :=
  if k = 0 then [32] else if k = 1 then [10, 9]
  else if k = 2 then [35, 32, 97, 32, 123, 114, 101, 109, 97, 114, 107, 32, 63, 10]
  else [13, 10, 35, 32, 49, 97, 10, 32]

theorem gap_head (k : Nat) (r : List UInt8) : (gap k ++ r).head?.any pInn = false := by
  unfold gap
  split
  · simp only [List.cons_append, List.head?_cons, Option.any_some]; decide
  · split
    · simp only [List.cons_append, List.head?_cons, Option.any_some]; decide
    · split
      · simp only [List.cons_append, List.head?_cons, Option.any_some]; decide
      · simp only [List.cons_append, List.head?_cons, Option.any_some]; decide

theorem gap_le (k : Nat) : (gap k).length ≤ 14 := by
  unfold gap
  split
  · decide
  · split
    · decide
    · split
      · decide
      · decide

theorem gap_skip (k : Nat) (r : List UInt8) (p : Nat) : lexF p (gap k ++ r) = lexF (p + (gap k).length) r := by
  unfold gap
  split
  · exact lexF_blank 32 r (by decide) p
  · split
    · show lexF p (10 :: 9 :: r) = _
      rw [lexF_blank 10 _ (by decide), lexF_blank 9 _ (by decide)]; rfl
    · split
      · exact lexF_remark [32, 97, 32, 123, 114, 101, 109, 97, 114, 107, 32, 63] r (by decide) p
      · show lexF p (13 :: 10 :: (35 :: [32, 49, 97] ++ 10 :: (32 :: r))) = _
        rw [lexF_blank 13 _ (by decide), lexF_blank 10 _ (by decide), lexF_remark [32, 49, 97] _ (by decide), lexF_blank 32 _ (by decide)]; rfl

/-- P1.3: a gap ahead of a token changes nothing but places -/
theorem lex_gap (l : List UInt8) (ts : List Tok) (i k : Nat) (hl : l.length ≤ 60000) (h : lexF 0 l = .ok ts) (hi : i < ts.length) :
    ∃ p us, ts[i].p = ((p : Nat) : Int) ∧ p ≤ l.length ∧ lex (l.take p ++ (gap k ++ l.drop p)) = (us, 0, 0) ∧ plain us = plain ts := by
  obtain ⟨p, h1, h2, h3, _, h5⟩ := lexF_cut l.length 0 l ts i (Nat.le_refl _) (by omega) h hi
  have h6 := h5 (gap k ++ l.drop p) (gap_head k _)
  rw [gap_skip, lexF_shift, h3] at h6
  refine ⟨p, _, by rw [h1, Nat.zero_add], h2, lex_of_ok ?_ h6, ?_⟩
  · have := gap_le k
    simp only [List.length_append, List.length_take, List.length_drop]; omega
  · simp only [plain, List.map_append, List.map_map]
    have : ((fun x : Tok => (⟨x.k, x.t, 0⟩ : Tok)) ∘ fun x : Tok => (⟨x.k, x.t, x.p + ((gap k).length : Int)⟩ : Tok)) = fun x : Tok => (⟨x.k, x.t, 0⟩ : Tok) := rfl
    rw [this, ← List.map_append, List.take_append_drop]

end M
end Go.Proofs.Ytilkkopgbdppjaa
