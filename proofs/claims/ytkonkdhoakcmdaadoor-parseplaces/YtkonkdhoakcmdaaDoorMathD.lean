/-
  Plain facts on what is read: how many tokens, how long their texts are; the document's fixed calls reckoned. Nothing of the program is named here. No conditions.
-/
import Derived.Test.YtkonkdhoakcmdaaDoorMathC
import Derived.KernelRfl
namespace Go.Proofs.YtkonkdhoakcmdaaDoor
namespace M

theorem bytes_mk' (b : ByteArray) : (ByteArray.mk b.data.toList.toArray) = b := bytes_ext (by simp)

theorem lexL_small : ∀ (f p : Nat) (l : List UInt8) (ts : List Tok), lexL f p l = .ok ts → ts.length ≤ l.length ∧ ∀ x, x ∈ ts → x.t.size ≤ l.length
  | 0, p, l, ts, h => by simp only [lexL, Except.ok.injEq] at h; subst h; simp
  | f + 1, p, [], ts, h => by simp only [lexL, Except.ok.injEq] at h; subst h; simp
  | f + 1, p, c :: r, ts, h => by
    unfold lexL at h
    cases hn : nxt (c :: r) with
    | none => rw [hn] at h; cases h
    | some q =>
      obtain ⟨k, n⟩ := q
      have hb := nxt_bounds hn
      have hd : ((c :: r).drop n).length ≤ (c :: r).length := by simp only [List.length_drop]; omega
      rw [hn] at h
      cases k with
      | none =>
        simp only at h
        obtain ⟨h1, h2⟩ := lexL_small f _ _ _ h
        exact ⟨by omega, fun x hx => by have := h2 x hx; omega⟩
      | some k =>
        simp only at h
        cases hr : lexL f (p + n) ((c :: r).drop n) with
        | error e => rw [hr] at h; cases h
        | ok us =>
          rw [hr] at h
          simp only [Except.ok.injEq] at h
          subst h
          obtain ⟨h1, h2⟩ := lexL_small f _ _ _ hr
          refine ⟨by simp only [List.length_cons, List.length_drop] at h1 hb ⊢; omega, fun x hx => ?_⟩
          rcases List.mem_cons.1 hx with rfl | hx
          · have e : (ByteArray.mk ((c :: r).take n).toArray).size = ((c :: r).take n).length := by simp [ByteArray.size]
            rw [e, List.length_take]; omega
          · have := h2 x hx; omega

theorem lex_small (l : List UInt8) : (lex l).1.length ≤ 65536 ∧ ∀ x, x ∈ (lex l).1 → x.t.size ≤ 65536 := by
  unfold lex
  split
  · simp
  · rename_i hl
    cases h : lexL l.length 0 l with
    | error e => simp
    | ok ts =>
      obtain ⟨h1, h2⟩ := lexL_small _ _ _ _ h
      exact ⟨by simp only; omega, fun x hx => by have := h2 x hx; omega⟩

theorem prnT_le (l : List Tok) (b : Nat) (h : ∀ x, x ∈ l → x.t.size ≤ b) : (prnT l).length ≤ l.length * (b + 1) := by
  induction l with
  | nil => simp [prnT]
  | cons y r ih =>
    have h1 := ih fun x hx => h x (List.mem_cons_of_mem _ hx)
    have h2 := h y (List.mem_cons_self ..)
    have e : (prnT (y :: r)).length = y.t.size + 1 + (prnT r).length := by simp [prnT]; omega
    rw [e, List.length_cons, Nat.succ_mul]; omega

theorem prn_le (l : List Tok) (b : Nat) (h : ∀ x, x ∈ l → x.t.size ≤ b) : (prn l).length ≤ l.length * (b + 1) := by
  cases l with
  | nil => simp [prn]
  | cons y r =>
    have h1 := prnT_le r b fun x hx => h x (List.mem_cons_of_mem _ hx)
    have h2 := h y (List.mem_cons_self ..)
    have e : (prn (y :: r)).length = y.t.size + (prnT r).length := by simp [prn]
    rw [e, List.length_cons, Nat.succ_mul]; omega

theorem print_le (l : List Tok) (b : Nat) (h : ∀ x, x ∈ l → x.t.size ≤ b) : (print l).length ≤ l.length * (b + 1) := by
  unfold print
  split
  · exact prn_le l b h
  · simp

theorem lex_print_le (l : List UInt8) : (print (lex l).1).length ≤ 140737488355328 := by
  obtain ⟨h1, h2⟩ := lex_small l
  have := print_le _ _ h2
  have h3 : (lex l).1.length * (65536 + 1) ≤ 65536 * (65536 + 1) := Nat.mul_le_mul_right _ h1
  omega

def six : List Tok := [⟨0, ⟨#[120]⟩, 0⟩, ⟨2, ⟨#[61]⟩, 1⟩, ⟨0, ⟨#[121]⟩, 2⟩, ⟨2, ⟨#[46]⟩, 3⟩, ⟨0, ⟨#[112]⟩, 4⟩, ⟨2, ⟨#[59]⟩, 5⟩]

theorem fix1 : lex [120, 61, 121, 46, 112, 59, 32, 35, 32, 105, 116] = (six, 0, 0) := by kernel_rfl
theorem fix2 : lex [49, 50, 97] = ([], 10, 0) := by kernel_rfl
theorem fix3 : lex [97, 32, 63] = ([], 10, 2) := by kernel_rfl
theorem fix4 : print six = [120, 32, 61, 32, 121, 32, 46, 32, 112, 32, 59] := by kernel_rfl
theorem fix5 : wordB [97, 95, 49] = true := by kernel_rfl
theorem fix6 : wordB [49] = false := by kernel_rfl

end M
end Go.Proofs.YtkonkdhoakcmdaaDoor
