/-
  What the law of a join needs, as mathematics. No conditions.
-/
import Derived.Test.YtnllcfagdcepfaaS20
set_option linter.unusedVariables false
set_option linter.unusedSimpArgs false
namespace Go.Proofs.Ytnllcfagdcepfaa
open Go.RowKit Go.Sort
namespace M
theorem sameS_self (a : Shp) : sameS a a = true := by simp [sameS]
structure JoinFacts (a b c j : Shp) : Prop where
  ab : (if mayS a && mayS b then joinS a b else zeroS) = j
  ba : (if mayS b && mayS a then joinS b a else zeroS) = joinS b a
  ja : (if mayS j && mayS a then joinS j a else zeroS) = joinS j a
  jc : (if mayS j && mayS c then joinS j c else zeroS) = joinS j c
  bc : (if mayS b && mayS c then joinS b c else zeroS) = joinS b c
  abc : (if mayS a && mayS (joinS b c) then joinS a (joinS b c) else zeroS) = joinS a (joinS b c)
  Kj : Sm 100000 j
  Kja : Sm 100000 (joinS j a)
  Kjc : Sm 100000 (joinS j c)
  Kbc : Sm 100000 (joinS b c)
  aj : (mayS a && mayS j && withinS a j) = true
  bj : (mayS b && mayS j && withinS b j) = true
  aa : (mayS a && mayS a && withinS a a) = true
  s1 : sameS j (joinS b a) = true
  s2 : sameS (joinS j a) j = true
  s3 : sameS (joinS j c) (joinS a (joinS b c)) = true
theorem joinFacts {a b c j : Shp} (hj : joinS a b = j) (sa : smallB a = true) (sb : smallB b = true) (sc : smallB c = true) (ha : mayS a = true) (hb : mayS b = true) (hc : mayS c = true) : JoinFacts a b c j := by
  subst hj
  have mj : mayS (joinS a b) = true := may_joinS _ _
  have k2 := sm_join (small_sm sa) (small_sm sb)
  exact ⟨join_if ha hb, join_if hb ha, join_if mj ha, join_if mj hc, join_if hb hc, join_if ha (may_joinS _ _),
    sm_mono k2 (by decide), sm_mono (sm_join k2 (small_sm sa)) (by decide), sm_mono (sm_join k2 (small_sm sc)) (by decide), sm_two sb sc,
    by rw [ha, mj, joinS_left ha]; rfl, by rw [hb, mj, joinS_right hb]; rfl, by rw [ha, withinS_refl a ha]; rfl,
    by rw [joinS_comm b a]; exact sameS_self _, by rw [joinS_again]; exact sameS_self _, by rw [joinS_assoc]; exact sameS_self _⟩
end M
end Go.Proofs.Ytnllcfagdcepfaa
