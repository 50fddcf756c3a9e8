/-
  What the law of what is written weakly needs: as mathematics, and of a field as it lies. No conditions.
-/
import Derived.Test.YtcnikcfnfohoeaaS34
import Derived.Test.YtcnikcfnfohoeaaS19
import Derived.Test.YtcnikcfnfohoeaaS13
import Derived.Test.YtcnikcfnfohoeaaR3
set_option linter.unusedVariables false
set_option linter.unusedSimpArgs false
namespace Go.Proofs.Ytcnikcfnfohoeaa
open Go.RowKit Go.Sort
namespace M
theorem w_norm_le (l : List Atm) (hl : l.length ≤ 60) : (norm l).length ≤ 100000 := Nat.le_trans (norm_length l) (Nat.le_trans hl (by decide))
structure WkFacts (a w x n0 : Shp) (n : ByteArray) (l : List Atm) : Prop where
  ew : (if mayS a then weakS a n l else zeroS) = w
  ex : (if mayS a then strongS a n l else zeroS) = x
  en : (if mayS a then strongS a n lnull else zeroS) = n0
  ey : (if mayS n0 then strongS n0 n l else zeroS) = x
  mw : mayS w = true
  mx : mayS x = true
  Kw : Sm 100000 w
  Kx : Sm 100000 x
  Kn : Sm 100000 n0
  aw : (mayS a && mayS w && withinS a w) = true
  s1 : sameS x x = true
theorem wkFacts {a : Shp} {n : ByteArray} {l : List Atm} (sa : smallB a = true) (hl : l.length ≤ 60) (ha : mayS a = true) (hml : mayL l = true) : WkFacts a (weakS a n l) (strongS a n l) (strongS a n lnull) n l where
  ew := by rw [ha]; rfl
  ex := by rw [ha]; rfl
  en := by rw [ha]; rfl
  ey := by rw [may_strong ha, strong_twice ha]; rfl
  mw := may_weak ha n l
  mx := may_strong ha n l
  Kw := sm_with (small_sm sa) (by decide) (by
    refine Nat.le_trans (norm_length _) ?_
    have : (vsO (getF a.fs n)).length ≤ 60 := by
      cases hg : getF a.fs n with
      | none => exact Nat.zero_le _
      | some f => exact (small_sm sa).2.1 f (getF_mem hg)
    rw [List.length_append]; omega)
  Kx := sm_with (small_sm sa) (by decide) (w_norm_le l hl)
  Kn := sm_with (small_sm sa) (by decide) (w_norm_le lnull (by decide))
  aw := by rw [ha, may_weak ha, was_in_weak ha]; rfl
  s1 := by simp [sameS]
theorem wk_in {a w x n0 : Shp} {n : ByteArray} {l : List Atm} (Z : WkFacts a w x n0 n l) (hw : weakS a n l = w) (hx : strongS a n l = x) (ha : mayS a = true) (hl : mayL l = true) (hok : (getF a.fs n).isSome = true) : (mayS x && mayS w && withinS x w) = true := by
  rw [Z.mw, Z.mx, ← hw, ← hx]
  obtain ⟨f, hf⟩ := Option.isSome_iff_exists.1 hok
  rw [strong_in_weak ha n hl hf]; rfl
end M
theorem wk_su {a w : M.Shp} {n : ByteArray} {l : List M.Atm} (hw : M.weakS a n l = w) (ha : M.mayS a = true) (hok : (M.getF a.fs n).isSome = true) : M.suO (M.getF w.fs n) = ((M.getF a.fs n).getD zeroF).su := by
  rw [← hw, M.get_weak ha, if_pos rfl]
  obtain ⟨f, hf⟩ := Option.isSome_iff_exists.1 hok
  rw [hf]; rfl
/-- a field of a row, where it lies -/
def TriL (w : World) (b p : Nat) (x : Cel) : Prop := b < w.heap.size ∧ Tri w b p x
theorem TriL.bel {w w' : World} {b p : Nat} {x : Cel} (h : TriL w b p x) (hb : Below w.heap.size w w') : TriL w' b p x := ⟨Nat.lt_of_lt_of_le h.1 hb.size, h.2.bel h.1 hb⟩
/-- what lay below is as it was -/
def LowB (w0 w : World) : Prop := Below w0.heap.size w0 w
theorem LowB.bel {w0 w w' : World} (h : LowB w0 w) (hb : Below w.heap.size w w') : LowB w0 w' := Below.trans h (hb.mono (Below.size h))
end Go.Proofs.Ytcnikcfnfohoeaa
