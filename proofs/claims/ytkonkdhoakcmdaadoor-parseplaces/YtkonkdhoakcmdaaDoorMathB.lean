/-
  Plain facts on the print of tokens: their texts, parted by one blank. Nothing of the program is named here. No conditions.
-/
import Derived.Test.YtkonkdhoakcmdaaDoorMath
namespace Go.Proofs.YtkonkdhoakcmdaaDoor
namespace M

/-- the texts, parted by one blank -/
def prnT (l : List Tok) : List UInt8 := l.flatMap fun x => 32 :: x.t.data.toList
def prn : List Tok → List UInt8
  | [] => []
  | x :: l => x.t.data.toList ++ prnT l
def print (l : List Tok) : List UInt8 := if may l = true then prn l else []

theorem prn_first (x : Tok) : prn [x] = x.t.data.toList := by simp [prn, prnT]
theorem prn_snoc : ∀ (l : List Tok) (x : Tok), l ≠ [] → prn (l ++ [x]) = prn l ++ [32] ++ x.t.data.toList
  | [], _, h => absurd rfl h
  | y :: l, x, _ => by simp [prn, prnT]
theorem prn_take_le (l : List Tok) (j : Nat) : (prn (l.take j)).length ≤ (prn l).length := by
  cases l with
  | nil => simp
  | cons y r =>
    cases j with
    | zero => simp [prn]
    | succ k =>
      simp only [List.take_succ_cons, prn, List.length_append]
      have : (prnT (r.take k)).length ≤ (prnT r).length := by
        conv => rhs; rw [← List.take_append_drop k r]
        simp only [prnT, List.flatMap_append, List.length_append]; omega
      omega
theorem prn_step (l : List Tok) (j : Nat) (h : j < l.length) (h0 : 0 < j) : prn (l.take (j + 1)) = prn (l.take j) ++ [32] ++ l[j].t.data.toList := by
  rw [List.take_succ_eq_append_getElem h, prn_snoc _ _ (by intro e; have := congrArg List.length e; rw [List.length_take, List.length_nil] at this; omega)]
theorem prn_step0 (l : List Tok) (j : Nat) (h : j < l.length) (h0 : ¬ 0 < j) : prn (l.take (j + 1)) = prn (l.take j) ++ l[j].t.data.toList := by
  obtain rfl : j = 0 := by omega
  cases l with
  | nil => simp at h
  | cons y r => simp [prn, prnT]

end M
end Go.Proofs.YtkonkdhoakcmdaaDoor
