/-
  The walk of the law AtomsTexts: over atoms that lie in memory the call returns true and leaves all that was there as it was. Conditions: that the table of powers lies as it should.
-/
import Derived.Test.YtabffpecpfopkaaDoorB6
set_option linter.unusedVariables false
set_option linter.unusedSimpArgs false
namespace Go.Proofs.YtabffpecpfopkaaDoor
open Go.RowKit Go.Sort
namespace AtomsTexts
theorem toList_inj {a b : ByteArray} : a.toList = b.toList ↔ a = b := by
  rw [ByteArray.toList_eq, ByteArray.toList_eq]; exact ⟨M.bytes_ext, fun h => by rw [h]⟩
set_option maxHeartbeats 4000000 in
set_option maxRecDepth 100000 in
theorem walk (w : World) (va vb : Value) (la lb : List M.Atm) (ha : AtAt w va la) (hb : AtAt w vb lb) (ht : TabW w) :
    Calls Tryd.prog 6 #[va, vb] w fun e w' => e = .returned (.bool true) ∧ Below w.heap.size w w' := by
  have Ta0 := hid ha
  obtain ⟨qa, ma, rfl⟩ := ha.form
  have Tb0 := hid hb
  obtain ⟨qb, mb, rfl⟩ := hb.form
  have HT := hid ht
  have B0 := hid (Below.refl w.heap.size w)
  clear ht ha hb
  by_cases na : la.length ≤ 100
  · skip
    by_cases nb : lb.length ≤ 100
    · skip
      cases ya : M.mayL la with
      | false =>
        have Hya := hid ya
        clear ya
        have ca : ¬ ((la.length : Int) > 100) := by omega
        have cb : ¬ ((lb.length : Int) > 100) := by omega
        go_enter Tryd.func6, Tryd.ntmps6
        go_wp2_with (go_at_call 8; refine stopHere ?_)
        refine stopAt ?_
        refine (fixed_any _ (HT.out.below B0.out)).mono ?_
        rintro e w1 ⟨rfl, hb⟩
        have B1 := hid (B0.out.trans (hb.mono B0.out.size))
        have Ta1 := hid (Ta0.out.bel hb)
        have Tb1 := hid (Tb0.out.bel hb)
        clear B0 Ta0 Tb0 hb
        go_wp2_with (go_at_call 12; refine stopHere ?_)
        refine stopAt ?_
        refine (may_any _ _ la Ta1.out (by omega)).mono ?_
        rw [Hya.out]
        rintro e w2 ⟨rfl, hg⟩
        have hb := hg.below
        have B2 := hid (B1.out.trans (hb.mono B1.out.size))
        have Ta2 := hid (Ta1.out.bel hb)
        have Tb2 := hid (Tb1.out.bel hb)
        clear B1 Ta1 Tb1 hb hg
        go_wp2_with (go_at_call 8; refine stopHere ?_)
        refine stopAt ?_
        refine (fixed_any _ (HT.out.below B2.out)).mono ?_
        rintro e w3 ⟨rfl, hb⟩
        have B3 := hid (B2.out.trans (hb.mono B2.out.size))
        have Ta3 := hid (Ta2.out.bel hb)
        have Tb3 := hid (Tb2.out.bel hb)
        clear B2 Ta2 Tb2 hb
        go_wp2
        go_ret
        exact ⟨rfl, B3.out⟩
      | true =>
        have Hya := hid ya
        clear ya
        cases yb : M.mayL lb with
        | false =>
          have Hyb := hid yb
          clear yb
          have ca : ¬ ((la.length : Int) > 100) := by omega
          have cb : ¬ ((lb.length : Int) > 100) := by omega
          go_enter Tryd.func6, Tryd.ntmps6
          go_wp2_with (go_at_call 8; refine stopHere ?_)
          refine stopAt ?_
          refine (fixed_any _ (HT.out.below B0.out)).mono ?_
          rintro e w1 ⟨rfl, hb⟩
          have B1 := hid (B0.out.trans (hb.mono B0.out.size))
          have Ta1 := hid (Ta0.out.bel hb)
          have Tb1 := hid (Tb0.out.bel hb)
          clear B0 Ta0 Tb0 hb
          go_wp2_with (go_at_call 12; refine stopHere ?_)
          refine stopAt ?_
          refine (may_any _ _ la Ta1.out (by omega)).mono ?_
          rw [Hya.out]
          rintro e w2 ⟨rfl, hg⟩
          have hb := hg.below
          have B2 := hid (B1.out.trans (hb.mono B1.out.size))
          have Ta2 := hid (Ta1.out.bel hb)
          have Tb2 := hid (Tb1.out.bel hb)
          clear B1 Ta1 Tb1 hb hg
          go_wp2_with (go_at_call 12; refine stopHere ?_)
          refine stopAt ?_
          refine (may_any _ _ lb Tb2.out (by omega)).mono ?_
          rw [Hyb.out]
          rintro e w3 ⟨rfl, hg⟩
          have hb := hg.below
          have B3 := hid (B2.out.trans (hb.mono B2.out.size))
          have Ta3 := hid (Ta2.out.bel hb)
          have Tb3 := hid (Tb2.out.bel hb)
          clear B2 Ta2 Tb2 hb hg
          go_wp2_with (go_at_call 8; refine stopHere ?_)
          refine stopAt ?_
          refine (fixed_any _ (HT.out.below B3.out)).mono ?_
          rintro e w4 ⟨rfl, hb⟩
          have B4 := hid (B3.out.trans (hb.mono B3.out.size))
          have Ta4 := hid (Ta3.out.bel hb)
          have Tb4 := hid (Tb3.out.bel hb)
          clear B3 Ta3 Tb3 hb
          go_wp2
          go_ret
          exact ⟨rfl, B4.out⟩
        | true =>
          have Hyb := hid yb
          clear yb
          have ca : ¬ ((la.length : Int) > 100) := by omega
          have cb : ¬ ((lb.length : Int) > 100) := by omega
          have hsame : Hid ((bs (M.textB la) = bs (M.textB lb)) ↔ la = lb) := ⟨fun e => M.text_inj Hya.out Hyb.out (by rw [← bs_list (M.textB la), e, bs_list]), fun e => by rw [e]⟩
          by_cases hab : la = lb
          · have HS : Hid (M.sameB la lb = true) := decide_eq_true hab
            obtain ⟨sa, hsa⟩ : ∃ s, bs (M.textB la) = s := ⟨_, rfl⟩
            obtain ⟨sb, hsb⟩ : ∃ s, bs (M.textB lb) = s := ⟨_, rfl⟩
            have hE : (sa.toList == sb.toList) = true := by rw [← hsa, ← hsb, hsame.out.2 hab]; simp
            have HA := hid hsa
            have HB := hid hsb
            clear hsa hsb hsame hab
            go_enter Tryd.func6, Tryd.ntmps6
            go_wp2_with (go_at_call 8; refine stopHere ?_)
            refine stopAt ?_
            refine (fixed_any _ (HT.out.below B0.out)).mono ?_
            rintro e w1 ⟨rfl, hb⟩
            have B1 := hid (B0.out.trans (hb.mono B0.out.size))
            have Ta1 := hid (Ta0.out.bel hb)
            have Tb1 := hid (Tb0.out.bel hb)
            clear B0 Ta0 Tb0 hb
            go_wp2_with (go_at_call 12; refine stopHere ?_)
            refine stopAt ?_
            refine (may_any _ _ la Ta1.out (by omega)).mono ?_
            rw [Hya.out]
            rintro e w2 ⟨rfl, hg⟩
            have hb := hg.below
            have B2 := hid (B1.out.trans (hb.mono B1.out.size))
            have Ta2 := hid (Ta1.out.bel hb)
            have Tb2 := hid (Tb1.out.bel hb)
            clear B1 Ta1 Tb1 hb hg
            go_wp2_with (go_at_call 12; refine stopHere ?_)
            refine stopAt ?_
            refine (may_any _ _ lb Tb2.out (by omega)).mono ?_
            rw [Hyb.out]
            rintro e w3 ⟨rfl, hg⟩
            have hb := hg.below
            have B3 := hid (B2.out.trans (hb.mono B2.out.size))
            have Ta3 := hid (Ta2.out.bel hb)
            have Tb3 := hid (Tb2.out.bel hb)
            clear B2 Ta2 Tb2 hb hg
            go_wp2_with (go_at_call 22; refine stopHere ?_)
            refine stopAt ?_
            refine (text_any _ _ la Ta3.out (by omega) (HT.out.below B3.out)).mono ?_
            rw [HA.out]
            rintro e w4 ⟨rfl, hb⟩
            have B4 := hid (B3.out.trans (hb.mono B3.out.size))
            have Ta4 := hid (Ta3.out.bel hb)
            have Tb4 := hid (Tb3.out.bel hb)
            clear B3 Ta3 Tb3 hb
            go_wp2_with (go_at_call 22; refine stopHere ?_)
            refine stopAt ?_
            refine (text_any _ _ lb Tb4.out (by omega) (HT.out.below B4.out)).mono ?_
            rw [HB.out]
            rintro e w5 ⟨rfl, hb⟩
            have B5 := hid (B4.out.trans (hb.mono B4.out.size))
            have Ta5 := hid (Ta4.out.bel hb)
            have Tb5 := hid (Tb4.out.bel hb)
            clear B4 Ta4 Tb4 hb
            go_wp2_with (go_at_call 9; refine stopHere ?_)
            refine stopAt ?_
            refine (same_any _ _ _ la lb Ta5.out Tb5.out (by omega)).mono ?_
            rw [HS.out]
            rintro e w6 ⟨rfl, hb⟩
            have B6 := hid (B5.out.trans (hb.mono B5.out.size))
            have Ta6 := hid (Ta5.out.bel hb)
            have Tb6 := hid (Tb5.out.bel hb)
            clear B5 Ta5 Tb5 hb
            go_wp2
            go_ret
            exact ⟨rfl, B6.out⟩
          · have HS : Hid (M.sameB la lb = false) := decide_eq_false hab
            obtain ⟨sa, hsa⟩ : ∃ s, bs (M.textB la) = s := ⟨_, rfl⟩
            obtain ⟨sb, hsb⟩ : ∃ s, bs (M.textB lb) = s := ⟨_, rfl⟩
            have hE : (sa.toList == sb.toList) = false := by rw [← hsa, ← hsb, beq_eq_false_iff_ne]; exact fun e => hab (hsame.out.1 (toList_inj.1 e))
            have HA := hid hsa
            have HB := hid hsb
            clear hsa hsb hsame hab
            go_enter Tryd.func6, Tryd.ntmps6
            go_wp2_with (go_at_call 8; refine stopHere ?_)
            refine stopAt ?_
            refine (fixed_any _ (HT.out.below B0.out)).mono ?_
            rintro e w1 ⟨rfl, hb⟩
            have B1 := hid (B0.out.trans (hb.mono B0.out.size))
            have Ta1 := hid (Ta0.out.bel hb)
            have Tb1 := hid (Tb0.out.bel hb)
            clear B0 Ta0 Tb0 hb
            go_wp2_with (go_at_call 12; refine stopHere ?_)
            refine stopAt ?_
            refine (may_any _ _ la Ta1.out (by omega)).mono ?_
            rw [Hya.out]
            rintro e w2 ⟨rfl, hg⟩
            have hb := hg.below
            have B2 := hid (B1.out.trans (hb.mono B1.out.size))
            have Ta2 := hid (Ta1.out.bel hb)
            have Tb2 := hid (Tb1.out.bel hb)
            clear B1 Ta1 Tb1 hb hg
            go_wp2_with (go_at_call 12; refine stopHere ?_)
            refine stopAt ?_
            refine (may_any _ _ lb Tb2.out (by omega)).mono ?_
            rw [Hyb.out]
            rintro e w3 ⟨rfl, hg⟩
            have hb := hg.below
            have B3 := hid (B2.out.trans (hb.mono B2.out.size))
            have Ta3 := hid (Ta2.out.bel hb)
            have Tb3 := hid (Tb2.out.bel hb)
            clear B2 Ta2 Tb2 hb hg
            go_wp2_with (go_at_call 22; refine stopHere ?_)
            refine stopAt ?_
            refine (text_any _ _ la Ta3.out (by omega) (HT.out.below B3.out)).mono ?_
            rw [HA.out]
            rintro e w4 ⟨rfl, hb⟩
            have B4 := hid (B3.out.trans (hb.mono B3.out.size))
            have Ta4 := hid (Ta3.out.bel hb)
            have Tb4 := hid (Tb3.out.bel hb)
            clear B3 Ta3 Tb3 hb
            go_wp2_with (go_at_call 22; refine stopHere ?_)
            refine stopAt ?_
            refine (text_any _ _ lb Tb4.out (by omega) (HT.out.below B4.out)).mono ?_
            rw [HB.out]
            rintro e w5 ⟨rfl, hb⟩
            have B5 := hid (B4.out.trans (hb.mono B4.out.size))
            have Ta5 := hid (Ta4.out.bel hb)
            have Tb5 := hid (Tb4.out.bel hb)
            clear B4 Ta4 Tb4 hb
            go_wp2_with (go_at_call 9; refine stopHere ?_)
            refine stopAt ?_
            refine (same_any _ _ _ la lb Ta5.out Tb5.out (by omega)).mono ?_
            rw [HS.out]
            rintro e w6 ⟨rfl, hb⟩
            have B6 := hid (B5.out.trans (hb.mono B5.out.size))
            have Ta6 := hid (Ta5.out.bel hb)
            have Tb6 := hid (Tb5.out.bel hb)
            clear B5 Ta5 Tb5 hb
            go_wp2
            go_ret
            exact ⟨rfl, B6.out⟩
    · have cb : ((lb.length : Int) > 100) := by omega
      have ca : ¬ ((la.length : Int) > 100) := by omega
      go_enter Tryd.func6, Tryd.ntmps6
      go_wp2_with (go_at_call 8; refine stopHere ?_)
      refine stopAt ?_
      refine (fixed_any _ (HT.out.below B0.out)).mono ?_
      rintro e w1 ⟨rfl, hb⟩
      have B1 := hid (B0.out.trans (hb.mono B0.out.size))
      have Ta1 := hid (Ta0.out.bel hb)
      have Tb1 := hid (Tb0.out.bel hb)
      clear B0 Ta0 Tb0 hb
      go_wp2_with (go_at_call 8; refine stopHere ?_)
      refine stopAt ?_
      refine (fixed_any _ (HT.out.below B1.out)).mono ?_
      rintro e w2 ⟨rfl, hb⟩
      have B2 := hid (B1.out.trans (hb.mono B1.out.size))
      have Ta2 := hid (Ta1.out.bel hb)
      have Tb2 := hid (Tb1.out.bel hb)
      clear B1 Ta1 Tb1 hb
      go_wp2
      go_ret
      exact ⟨rfl, B2.out⟩
  · have ca : ((la.length : Int) > 100) := by omega
    go_enter Tryd.func6, Tryd.ntmps6
    go_wp2_with (go_at_call 8; refine stopHere ?_)
    refine stopAt ?_
    refine (fixed_any _ (HT.out.below B0.out)).mono ?_
    rintro e w1 ⟨rfl, hb⟩
    have B1 := hid (B0.out.trans (hb.mono B0.out.size))
    have Ta1 := hid (Ta0.out.bel hb)
    have Tb1 := hid (Tb0.out.bel hb)
    clear B0 Ta0 Tb0 hb
    go_wp2_with (go_at_call 8; refine stopHere ?_)
    refine stopAt ?_
    refine (fixed_any _ (HT.out.below B1.out)).mono ?_
    rintro e w2 ⟨rfl, hb⟩
    have B2 := hid (B1.out.trans (hb.mono B1.out.size))
    have Ta2 := hid (Ta1.out.bel hb)
    have Tb2 := hid (Tb1.out.bel hb)
    clear B1 Ta1 Tb1 hb
    go_wp2
    go_ret
    exact ⟨rfl, B2.out⟩
end AtomsTexts
end Go.Proofs.YtabffpecpfopkaaDoor
