/-
  The text of a state, one variable, one object, one property at a time. Nothing of the program's code is walked here. No conditions.
-/
import Derived.Test.YtbaaeobdjiglgaaGreatT6
set_option linter.unusedVariables false
namespace Go.Proofs.YtbaaeobdjiglgaaGreat
namespace M
theorem flat_take {α : Type} (f : α → List UInt8) (l : List α) (i : Nat) (h : i < l.length) : (l.take (i + 1)).flatMap f = (l.take i).flatMap f ++ f l[i] := by
  rw [List.take_succ_eq_append_getElem h, List.flatMap_append]
  simp
theorem text_dead {s : Sta} (h : s.dead = true) : textSt s = [100, 101, 97, 100, 10] := by unfold textSt; rw [if_pos h]
theorem text_live {s : Sta} (h : s.dead = false) : textSt s = s.vs.flatMap varT ++ s.ls.flatMap (fun z => locT z ++ [10]) := by unfold textSt; rw [if_neg (by rw [h]; decide)]
/-- the text ahead of variable i -/
def txV (s : Sta) (i : Nat) : List UInt8 := (s.vs.take i).flatMap varT
/-- the text ahead of object i -/
def txL (s : Sta) (i : Nat) : List UInt8 := s.vs.flatMap varT ++ (s.ls.take i).flatMap (fun z => locT z ++ [10])
/-- the text ahead of property j of an object -/
def txF (t : List UInt8) (z : Atm × Shp) (j : Nat) : List UInt8 := t ++ (textB [z.1] ++ [58]) ++ (z.2.fs.take j).flatMap fldT
theorem txV_none (s : Sta) : txV s 0 = [] := by simp [txV]
theorem txV_next (s : Sta) (i : Nat) (h : i < s.vs.length) : txV s (i + 1) = txV s i ++ (s.vs[i].1.data.toList ++ [58, 32] ++ textB s.vs[i].2 ++ [10]) := flat_take _ _ _ h
theorem txV_all (s : Sta) : txV s s.vs.length = txL s 0 := by simp [txV, txL]
theorem txL_next (s : Sta) (i : Nat) (h : i < s.ls.length) : txL s (i + 1) = txF (txL s i) s.ls[i] s.ls[i].2.fs.length ++ ([32, 112, 114, 111, 116, 111, 32, 40] ++ textB s.ls[i].2.pr ++ [41] ++ [10]) := by
  unfold txL txF
  rw [flat_take _ _ _ h, List.take_length]
  simp [locT, List.append_assoc]
theorem txL_all {s : Sta} (h : s.dead = false) : txL s s.ls.length = textSt s := by
  rw [text_live h]; unfold txL; rw [List.take_length]
theorem txF_none (t : List UInt8) (z : Atm × Shp) : txF t z 0 = t ++ (textB [z.1] ++ [58]) := by simp [txF]
theorem txF_next (t : List UInt8) (z : Atm × Shp) (j : Nat) (h : j < z.2.fs.length) : txF t z (j + 1) = txF t z j ++ fldT z.2.fs[j] := by
  unfold txF
  rw [flat_take _ _ _ h]; simp only [List.append_assoc]
end M
end Go.Proofs.YtbaaeobdjiglgaaGreat
