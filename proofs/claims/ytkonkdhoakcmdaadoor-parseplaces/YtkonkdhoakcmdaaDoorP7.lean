/-
  Plain facts on places: tokens' places rise and lie in the source; a fault's place lies in it, or at its end; and what stands ahead of a fault's place can be gone on with. Nothing of the program is named here. Conditions: those of each.
-/
import Derived.Test.YtkonkdhoakcmdaaDoorP6
set_option linter.unusedVariables false
namespace Go.Proofs.YtkonkdhoakcmdaaDoor
namespace M

theorem lexL_err_place : ∀ (f p : Nat) (l : List UInt8) (e : Nat), lexL f p l = .error e → e < p + l.length
  | 0, p, l, e, h => by simp [lexL] at h
  | f + 1, p, [], e, h => by simp [lexL] at h
  | f + 1, p, c :: r, e, h => by
    unfold lexL at h
    cases hn : nxt (c :: r) with
    | none => rw [hn] at h; simp only [Except.error.injEq] at h; subst h; simp
    | some q =>
      obtain ⟨k, n⟩ := q
      have hb := nxt_bounds hn
      rw [hn] at h
      have hd : p + n + ((c :: r).drop n).length = p + (c :: r).length := by simp only [List.length_drop]; omega
      cases k with
      | none => simp only at h; have := lexL_err_place f _ _ _ h; omega
      | some k =>
        simp only at h
        cases hr : lexL f (p + n) ((c :: r).drop n) with
        | error e' =>
          rw [hr] at h
          simp only [Except.error.injEq] at h
          subst h
          have := lexL_err_place f _ _ _ hr; omega
        | ok us => rw [hr] at h; cases h
theorem lexL_places : ∀ (f p : Nat) (l : List UInt8) (ts : List Tok), lexL f p l = .ok ts → ts.Pairwise (fun a b => a.p < b.p) ∧ ∀ x, x ∈ ts → (p : Int) ≤ x.p ∧ x.p < (p : Int) + (l.length : Int)
  | 0, p, l, ts, h => by
    simp only [lexL, Except.ok.injEq] at h; subst h
    exact ⟨List.Pairwise.nil, fun x hx => by cases hx⟩
  | f + 1, p, [], ts, h => by
    simp only [lexL, Except.ok.injEq] at h; subst h
    exact ⟨List.Pairwise.nil, fun x hx => by cases hx⟩
  | f + 1, p, c :: r, ts, h => by
    unfold lexL at h
    cases hn : nxt (c :: r) with
    | none => rw [hn] at h; cases h
    | some q =>
      obtain ⟨k, n⟩ := q
      have hb := nxt_bounds hn
      rw [hn] at h
      have hd : n + ((c :: r).drop n).length = (c :: r).length := by simp only [List.length_drop]; omega
      cases k with
      | none =>
        simp only at h
        obtain ⟨a, b⟩ := lexL_places f _ _ _ h
        exact ⟨a, fun x hx => by have := b x hx; omega⟩
      | some k =>
        simp only at h
        cases hr : lexL f (p + n) ((c :: r).drop n) with
        | error e' => rw [hr] at h; cases h
        | ok us =>
          rw [hr] at h
          simp only [Except.ok.injEq] at h
          subst h
          obtain ⟨a, b⟩ := lexL_places f _ _ _ hr
          refine ⟨List.Pairwise.cons (fun x hx => ?_) a, fun x hx => ?_⟩
          · have := b x hx; show (p : Int) < x.p; omega
          · rcases List.mem_cons.1 hx with rfl | hx
            · show (p : Int) ≤ (p : Int) ∧ (p : Int) < (p : Int) + ((c :: r).length : Int); omega
            · have := b x hx; omega
theorem lex_places {s : List UInt8} (h : (lex s).2.1 = 0) : (lex s).1.Pairwise (fun a b => a.p < b.p) ∧ ∀ x, x ∈ (lex s).1 → 0 ≤ x.p ∧ x.p < (s.length : Int) := by
  obtain ⟨_, e⟩ := lex_ok h
  have := lexL_places _ 0 _ _ e
  simpa using this
theorem read_place {l : List Tok} {fin : Int} {f : Flt} (h : read l fin = .error f) : f = (20, fin) ∨ f.2 ∈ l.map (·.p) := by
  rcases read_pre h l.length with ⟨p, e⟩ | e | ⟨e, hm⟩
  · rw [List.take_length, h] at e; cases e
  · rw [List.take_length, h] at e; simp only [Except.error.injEq] at e; exact .inl e
  · rw [List.take_length] at hm; exact .inr hm
theorem parse_place {s : List UInt8} {f : Flt} (hl : s.length ≤ 65536) (h : parse s = .error f) : 0 ≤ f.2 ∧ f.2 ≤ (s.length : Int) := by
  unfold parse at h
  split at h
  · rename_i h0
    rcases read_place h with rfl | hm
    · show (0 : Int) ≤ (s.length : Int) ∧ (s.length : Int) ≤ (s.length : Int); omega
    · obtain ⟨x, hx, e⟩ := List.mem_map.1 hm
      have := (lex_places h0).2 x hx
      rw [← e]; omega
  · simp only [Except.error.injEq] at h
    rw [← h]
    unfold lex
    rw [if_neg (by omega)]
    split
    · rename_i e he
      have := lexL_err_place _ _ _ _ he
      show (0 : Int) ≤ (e : Int) ∧ (e : Int) ≤ (s.length : Int); omega
    · show (0 : Int) ≤ 0 ∧ (0 : Int) ≤ (s.length : Int); omega
/-- what stands ahead of a fault's place can be gone on with -/
theorem parse_ahead {s : List UInt8} {f : Flt} (h0 : (lex s).2.1 = 0) (h : parse s = .error f) (i : Nat) (hi : i < (lex s).1.length) (hp : ((lex s).1[i]'hi).p ≤ f.2) :
    (∃ p, read ((lex s).1.take i) s.length = .ok p) ∨ read ((lex s).1.take i) s.length = .error (20, (s.length : Int)) := by
  unfold parse at h
  rw [if_pos h0] at h
  rcases read_pre h i with k | k | ⟨_, hm⟩
  · exact .inl k
  · exact .inr k
  · exfalso
    obtain ⟨x, hx, e⟩ := List.mem_map.1 hm
    obtain ⟨j, hj, rfl⟩ := List.getElem_of_mem hx
    rw [List.length_take] at hj
    rw [List.getElem_take] at e
    have := List.pairwise_iff_getElem.1 (lex_places h0).1 j i (by omega) hi (by omega)
    omega
end M
end Go.Proofs.YtkonkdhoakcmdaaDoor
