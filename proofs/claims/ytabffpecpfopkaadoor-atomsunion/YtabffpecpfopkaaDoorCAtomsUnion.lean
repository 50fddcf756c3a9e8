/-
  The walk of the law AtomsUnion: over atoms that lie in memory the call returns true and leaves all that was there as it was. Conditions: that the table of powers lies as it should.
-/
import Derived.Test.YtabffpecpfopkaaDoorB6
set_option linter.unusedVariables false
set_option linter.unusedSimpArgs false
namespace Go.Proofs.YtabffpecpfopkaaDoor
open Go.RowKit Go.Sort
namespace AtomsUnion
set_option maxHeartbeats 4000000 in
set_option maxRecDepth 100000 in
theorem walk (w : World) (va vb vc : Value) (la lb lc : List M.Atm) (ha : AtAt w va la) (hb : AtAt w vb lb) (hc : AtAt w vc lc) (ht : TabW w) :
    Calls Tryd.prog 4 #[va, vb, vc] w fun e w' => e = .returned (.bool true) ∧ Below w.heap.size w w' := by
  have Ta0 := hid ha
  obtain ⟨qa, ma, rfl⟩ := ha.form
  have Tb0 := hid hb
  obtain ⟨qb, mb, rfl⟩ := hb.form
  have Tc0 := hid hc
  obtain ⟨qc, mc, rfl⟩ := hc.form
  have HT := hid ht
  have B0 := hid (Below.refl w.heap.size w)
  clear ht ha hb hc
  by_cases na : la.length ≤ 100
  · skip
    by_cases nb : lb.length ≤ 100
    · skip
      by_cases nc : lc.length ≤ 100
      · skip
        cases ya : M.mayL la with
        | false =>
          have Hya := hid ya
          clear ya
          have ca : ¬ ((la.length : Int) > 100) := by omega
          have cb : ¬ ((lb.length : Int) > 100) := by omega
          have cc : ¬ ((lc.length : Int) > 100) := by omega
          go_enter Tryd.func4, Tryd.ntmps4
          go_wp2_with (go_at_call 8; refine stopHere ?_)
          refine stopAt ?_
          refine (fixed_any _ (HT.out.below B0.out)).mono ?_
          rintro e w1 ⟨rfl, hb⟩
          have B1 := hid (B0.out.trans (hb.mono B0.out.size))
          have Ta1 := hid (Ta0.out.bel hb)
          have Tb1 := hid (Tb0.out.bel hb)
          have Tc1 := hid (Tc0.out.bel hb)
          clear B0 Ta0 Tb0 Tc0 hb
          go_wp2_with (go_at_call 12; refine stopHere ?_)
          refine stopAt ?_
          refine (may_any _ _ la Ta1.out (by omega)).mono ?_
          rw [Hya.out]
          rintro e w2 ⟨rfl, hg⟩
          have hb := hg.below
          have B2 := hid (B1.out.trans (hb.mono B1.out.size))
          have Ta2 := hid (Ta1.out.bel hb)
          have Tb2 := hid (Tb1.out.bel hb)
          have Tc2 := hid (Tc1.out.bel hb)
          clear B1 Ta1 Tb1 Tc1 hb hg
          go_wp2_with (go_at_call 8; refine stopHere ?_)
          refine stopAt ?_
          refine (fixed_any _ (HT.out.below B2.out)).mono ?_
          rintro e w3 ⟨rfl, hb⟩
          have B3 := hid (B2.out.trans (hb.mono B2.out.size))
          have Ta3 := hid (Ta2.out.bel hb)
          have Tb3 := hid (Tb2.out.bel hb)
          have Tc3 := hid (Tc2.out.bel hb)
          clear B2 Ta2 Tb2 Tc2 hb
          go_wp2
          go_ret
          exact ⟨rfl, B3.out⟩
        | true =>
          have Hya := hid ya
          clear ya
          cases yb : M.mayL lb with
          | false =>
            have Hyb := hid yb
            clear yb
            have ca : ¬ ((la.length : Int) > 100) := by omega
            have cb : ¬ ((lb.length : Int) > 100) := by omega
            have cc : ¬ ((lc.length : Int) > 100) := by omega
            go_enter Tryd.func4, Tryd.ntmps4
            go_wp2_with (go_at_call 8; refine stopHere ?_)
            refine stopAt ?_
            refine (fixed_any _ (HT.out.below B0.out)).mono ?_
            rintro e w1 ⟨rfl, hb⟩
            have B1 := hid (B0.out.trans (hb.mono B0.out.size))
            have Ta1 := hid (Ta0.out.bel hb)
            have Tb1 := hid (Tb0.out.bel hb)
            have Tc1 := hid (Tc0.out.bel hb)
            clear B0 Ta0 Tb0 Tc0 hb
            go_wp2_with (go_at_call 12; refine stopHere ?_)
            refine stopAt ?_
            refine (may_any _ _ la Ta1.out (by omega)).mono ?_
            rw [Hya.out]
            rintro e w2 ⟨rfl, hg⟩
            have hb := hg.below
            have B2 := hid (B1.out.trans (hb.mono B1.out.size))
            have Ta2 := hid (Ta1.out.bel hb)
            have Tb2 := hid (Tb1.out.bel hb)
            have Tc2 := hid (Tc1.out.bel hb)
            clear B1 Ta1 Tb1 Tc1 hb hg
            go_wp2_with (go_at_call 12; refine stopHere ?_)
            refine stopAt ?_
            refine (may_any _ _ lb Tb2.out (by omega)).mono ?_
            rw [Hyb.out]
            rintro e w3 ⟨rfl, hg⟩
            have hb := hg.below
            have B3 := hid (B2.out.trans (hb.mono B2.out.size))
            have Ta3 := hid (Ta2.out.bel hb)
            have Tb3 := hid (Tb2.out.bel hb)
            have Tc3 := hid (Tc2.out.bel hb)
            clear B2 Ta2 Tb2 Tc2 hb hg
            go_wp2_with (go_at_call 8; refine stopHere ?_)
            refine stopAt ?_
            refine (fixed_any _ (HT.out.below B3.out)).mono ?_
            rintro e w4 ⟨rfl, hb⟩
            have B4 := hid (B3.out.trans (hb.mono B3.out.size))
            have Ta4 := hid (Ta3.out.bel hb)
            have Tb4 := hid (Tb3.out.bel hb)
            have Tc4 := hid (Tc3.out.bel hb)
            clear B3 Ta3 Tb3 Tc3 hb
            go_wp2
            go_ret
            exact ⟨rfl, B4.out⟩
          | true =>
            have Hyb := hid yb
            clear yb
            cases yc : M.mayL lc with
            | false =>
              have Hyc := hid yc
              clear yc
              have ca : ¬ ((la.length : Int) > 100) := by omega
              have cb : ¬ ((lb.length : Int) > 100) := by omega
              have cc : ¬ ((lc.length : Int) > 100) := by omega
              go_enter Tryd.func4, Tryd.ntmps4
              go_wp2_with (go_at_call 8; refine stopHere ?_)
              refine stopAt ?_
              refine (fixed_any _ (HT.out.below B0.out)).mono ?_
              rintro e w1 ⟨rfl, hb⟩
              have B1 := hid (B0.out.trans (hb.mono B0.out.size))
              have Ta1 := hid (Ta0.out.bel hb)
              have Tb1 := hid (Tb0.out.bel hb)
              have Tc1 := hid (Tc0.out.bel hb)
              clear B0 Ta0 Tb0 Tc0 hb
              go_wp2_with (go_at_call 12; refine stopHere ?_)
              refine stopAt ?_
              refine (may_any _ _ la Ta1.out (by omega)).mono ?_
              rw [Hya.out]
              rintro e w2 ⟨rfl, hg⟩
              have hb := hg.below
              have B2 := hid (B1.out.trans (hb.mono B1.out.size))
              have Ta2 := hid (Ta1.out.bel hb)
              have Tb2 := hid (Tb1.out.bel hb)
              have Tc2 := hid (Tc1.out.bel hb)
              clear B1 Ta1 Tb1 Tc1 hb hg
              go_wp2_with (go_at_call 12; refine stopHere ?_)
              refine stopAt ?_
              refine (may_any _ _ lb Tb2.out (by omega)).mono ?_
              rw [Hyb.out]
              rintro e w3 ⟨rfl, hg⟩
              have hb := hg.below
              have B3 := hid (B2.out.trans (hb.mono B2.out.size))
              have Ta3 := hid (Ta2.out.bel hb)
              have Tb3 := hid (Tb2.out.bel hb)
              have Tc3 := hid (Tc2.out.bel hb)
              clear B2 Ta2 Tb2 Tc2 hb hg
              go_wp2_with (go_at_call 12; refine stopHere ?_)
              refine stopAt ?_
              refine (may_any _ _ lc Tc3.out (by omega)).mono ?_
              rw [Hyc.out]
              rintro e w4 ⟨rfl, hg⟩
              have hb := hg.below
              have B4 := hid (B3.out.trans (hb.mono B3.out.size))
              have Ta4 := hid (Ta3.out.bel hb)
              have Tb4 := hid (Tb3.out.bel hb)
              have Tc4 := hid (Tc3.out.bel hb)
              clear B3 Ta3 Tb3 Tc3 hb hg
              go_wp2_with (go_at_call 8; refine stopHere ?_)
              refine stopAt ?_
              refine (fixed_any _ (HT.out.below B4.out)).mono ?_
              rintro e w5 ⟨rfl, hb⟩
              have B5 := hid (B4.out.trans (hb.mono B4.out.size))
              have Ta5 := hid (Ta4.out.bel hb)
              have Tb5 := hid (Tb4.out.bel hb)
              have Tc5 := hid (Tc4.out.bel hb)
              clear B4 Ta4 Tb4 Tc4 hb
              go_wp2
              go_ret
              exact ⟨rfl, B5.out⟩
            | true =>
              have Hyc := hid yc
              clear yc
              have ca : ¬ ((la.length : Int) > 100) := by omega
              have cb : ¬ ((lb.length : Int) > 100) := by omega
              have cc : ¬ ((lc.length : Int) > 100) := by omega
              obtain ⟨lu, hlu⟩ : ∃ l, M.norm (la ++ lb) = l := ⟨_, rfl⟩
              obtain ⟨lx, hlx⟩ : ∃ l, M.norm (lu ++ lc) = l := ⟨_, rfl⟩
              obtain ⟨ly, hly⟩ : ∃ l, M.norm (lb ++ lc) = l := ⟨_, rfl⟩
              have nu : lu.length ≤ 200 := by rw [← hlu]; have := M.norm_length (la ++ lb); simp at this; omega
              have nx : lx.length ≤ 300 := by rw [← hlx]; have := M.norm_length (lu ++ lc); simp at this; omega
              have ny : ly.length ≤ 200 := by rw [← hly]; have := M.norm_length (lb ++ lc); simp at this; omega
              have E1 : Hid (M.norm (lb ++ la) = lu) := by rw [← hlu]; exact M.union_comm _ _
              have E2 : Hid (M.norm (lu ++ la) = lu) := by rw [← hlu]; exact (M.union_again _ _).symm
              have E3 : Hid (M.norm (la ++ ly) = lx) := by rw [← hlx, ← hly, ← hlu]; exact (M.union_assoc _ _ _).symm
              have E4 : Hid (M.mayL lu = true) := by rw [← hlu]; exact M.union_may _ _
              have E5 : Hid (M.within la lu = true) := by rw [← hlu]; exact M.within_left _ Hya.out
              have E6 : Hid (M.within lb lu = true) := by rw [← hlu]; exact M.within_right _ Hyb.out
              have E7 : Hid (M.within la lc = true → M.within lb lc = true → M.within lu lc = true) := by rw [← hlu]; exact M.union_least
              have E8 := hid (M.both_within Hya.out Hyb.out)
              have SS : Hid (∀ l, M.sameB l l = true) := fun l => decide_eq_true rfl
              have HU := hid hlu
              have HX := hid hlx
              have HY := hid hly
              clear hlu hlx hly
              cases x1 : M.within la lc with
              | false =>
                have Hx1 := hid x1
                clear x1
                cases y1 : M.within la lb with
                | false =>
                  have Hy1 := hid y1
                  clear y1
                  go_enter Tryd.func4, Tryd.ntmps4
                  go_wp2_with (go_at_call 8; refine stopHere ?_)
                  refine stopAt ?_
                  refine (fixed_any _ (HT.out.below B0.out)).mono ?_
                  rintro e w1 ⟨rfl, hb⟩
                  have B1 := hid (B0.out.trans (hb.mono B0.out.size))
                  have Ta1 := hid (Ta0.out.bel hb)
                  have Tb1 := hid (Tb0.out.bel hb)
                  have Tc1 := hid (Tc0.out.bel hb)
                  clear B0 Ta0 Tb0 Tc0 hb
                  go_wp2_with (go_at_call 12; refine stopHere ?_)
                  refine stopAt ?_
                  refine (may_any _ _ la Ta1.out (by omega)).mono ?_
                  rw [Hya.out]
                  rintro e w2 ⟨rfl, hg⟩
                  have hb := hg.below
                  have B2 := hid (B1.out.trans (hb.mono B1.out.size))
                  have Ta2 := hid (Ta1.out.bel hb)
                  have Tb2 := hid (Tb1.out.bel hb)
                  have Tc2 := hid (Tc1.out.bel hb)
                  clear B1 Ta1 Tb1 Tc1 hb hg
                  go_wp2_with (go_at_call 12; refine stopHere ?_)
                  refine stopAt ?_
                  refine (may_any _ _ lb Tb2.out (by omega)).mono ?_
                  rw [Hyb.out]
                  rintro e w3 ⟨rfl, hg⟩
                  have hb := hg.below
                  have B3 := hid (B2.out.trans (hb.mono B2.out.size))
                  have Ta3 := hid (Ta2.out.bel hb)
                  have Tb3 := hid (Tb2.out.bel hb)
                  have Tc3 := hid (Tc2.out.bel hb)
                  clear B2 Ta2 Tb2 Tc2 hb hg
                  go_wp2_with (go_at_call 12; refine stopHere ?_)
                  refine stopAt ?_
                  refine (may_any _ _ lc Tc3.out (by omega)).mono ?_
                  rw [Hyc.out]
                  rintro e w4 ⟨rfl, hg⟩
                  have hb := hg.below
                  have B4 := hid (B3.out.trans (hb.mono B3.out.size))
                  have Ta4 := hid (Ta3.out.bel hb)
                  have Tb4 := hid (Tb3.out.bel hb)
                  have Tc4 := hid (Tc3.out.bel hb)
                  clear B3 Ta3 Tb3 Tc3 hb hg
                  go_wp2_with (go_at_call 14; refine stopHere ?_)
                  refine stopAt ?_
                  refine (union_any _ _ _ la lb Ta4.out Tb4.out (by omega) (by omega)).mono ?_
                  rintro e w5 ⟨v5, rfl, hA, hb⟩
                  rw [HU.out] at hA
                  have B5 := hid (B4.out.trans (hb.mono B4.out.size))
                  have Ta5 := hid (Ta4.out.bel hb)
                  have Tb5 := hid (Tb4.out.bel hb)
                  have Tc5 := hid (Tc4.out.bel hb)
                  have Tu5 := hid hA
                  obtain ⟨q5, m5, rfl⟩ := hA.form
                  clear B4 Ta4 Tb4 Tc4 hA hb
                  go_wp2_with (go_at_call 12; refine stopHere ?_)
                  refine stopAt ?_
                  refine (may_any _ _ lu Tu5.out (by omega)).mono ?_
                  rw [E4.out]
                  rintro e w6 ⟨rfl, hg⟩
                  have hb := hg.below
                  have B6 := hid (B5.out.trans (hb.mono B5.out.size))
                  have Ta6 := hid (Ta5.out.bel hb)
                  have Tb6 := hid (Tb5.out.bel hb)
                  have Tc6 := hid (Tc5.out.bel hb)
                  have Tu6 := hid (Tu5.out.bel hb)
                  clear B5 Ta5 Tb5 Tc5 Tu5 hb hg
                  go_wp2_with (go_at_call 16; refine stopHere ?_)
                  refine stopAt ?_
                  refine (within_any _ _ _ la lu Ta6.out Tu6.out (by omega) (by omega)).mono ?_
                  rw [E5.out]
                  rintro e w7 ⟨rfl, hb⟩
                  have B7 := hid (B6.out.trans (hb.mono B6.out.size))
                  have Ta7 := hid (Ta6.out.bel hb)
                  have Tb7 := hid (Tb6.out.bel hb)
                  have Tc7 := hid (Tc6.out.bel hb)
                  have Tu7 := hid (Tu6.out.bel hb)
                  clear B6 Ta6 Tb6 Tc6 Tu6 hb
                  go_wp2_with (go_at_call 16; refine stopHere ?_)
                  refine stopAt ?_
                  refine (within_any _ _ _ lb lu Tb7.out Tu7.out (by omega) (by omega)).mono ?_
                  rw [E6.out]
                  rintro e w8 ⟨rfl, hb⟩
                  have B8 := hid (B7.out.trans (hb.mono B7.out.size))
                  have Ta8 := hid (Ta7.out.bel hb)
                  have Tb8 := hid (Tb7.out.bel hb)
                  have Tc8 := hid (Tc7.out.bel hb)
                  have Tu8 := hid (Tu7.out.bel hb)
                  clear B7 Ta7 Tb7 Tc7 Tu7 hb
                  go_wp2_with (go_at_call 14; refine stopHere ?_)
                  refine stopAt ?_
                  refine (union_any _ _ _ lb la Tb8.out Ta8.out (by omega) (by omega)).mono ?_
                  rintro e w9 ⟨v9, rfl, hA, hb⟩
                  rw [E1.out] at hA
                  have B9 := hid (B8.out.trans (hb.mono B8.out.size))
                  have Ta9 := hid (Ta8.out.bel hb)
                  have Tb9 := hid (Tb8.out.bel hb)
                  have Tc9 := hid (Tc8.out.bel hb)
                  have Tu9 := hid (Tu8.out.bel hb)
                  have Tv9 := hid hA
                  obtain ⟨q9, m9, rfl⟩ := hA.form
                  clear B8 Ta8 Tb8 Tc8 Tu8 hA hb
                  go_wp2_with (go_at_call 9; refine stopHere ?_)
                  refine stopAt ?_
                  refine (same_any _ _ _ lu lu Tu9.out Tv9.out (by omega)).mono ?_
                  rw [SS.out]
                  rintro e w10 ⟨rfl, hb⟩
                  have B10 := hid (B9.out.trans (hb.mono B9.out.size))
                  have Ta10 := hid (Ta9.out.bel hb)
                  have Tb10 := hid (Tb9.out.bel hb)
                  have Tc10 := hid (Tc9.out.bel hb)
                  have Tu10 := hid (Tu9.out.bel hb)
                  have Tv10 := hid (Tv9.out.bel hb)
                  clear B9 Ta9 Tb9 Tc9 Tu9 Tv9 hb
                  go_wp2_with (go_at_call 14; refine stopHere ?_)
                  refine stopAt ?_
                  refine (union_any _ _ _ lu la Tu10.out Ta10.out (by omega) (by omega)).mono ?_
                  rintro e w11 ⟨v11, rfl, hA, hb⟩
                  rw [E2.out] at hA
                  have B11 := hid (B10.out.trans (hb.mono B10.out.size))
                  have Ta11 := hid (Ta10.out.bel hb)
                  have Tb11 := hid (Tb10.out.bel hb)
                  have Tc11 := hid (Tc10.out.bel hb)
                  have Tu11 := hid (Tu10.out.bel hb)
                  have Tv11 := hid hA
                  obtain ⟨q11, m11, rfl⟩ := hA.form
                  clear B10 Ta10 Tb10 Tc10 Tu10 hA hb
                  go_wp2_with (go_at_call 9; refine stopHere ?_)
                  refine stopAt ?_
                  refine (same_any _ _ _ lu lu Tu11.out Tv11.out (by omega)).mono ?_
                  rw [SS.out]
                  rintro e w12 ⟨rfl, hb⟩
                  have B12 := hid (B11.out.trans (hb.mono B11.out.size))
                  have Ta12 := hid (Ta11.out.bel hb)
                  have Tb12 := hid (Tb11.out.bel hb)
                  have Tc12 := hid (Tc11.out.bel hb)
                  have Tu12 := hid (Tu11.out.bel hb)
                  have Tv12 := hid (Tv11.out.bel hb)
                  clear B11 Ta11 Tb11 Tc11 Tu11 Tv11 hb
                  go_wp2_with (go_at_call 16; refine stopHere ?_)
                  refine stopAt ?_
                  refine (within_any _ _ _ la lc Ta12.out Tc12.out (by omega) (by omega)).mono ?_
                  rw [Hx1.out]
                  rintro e w13 ⟨rfl, hb⟩
                  have B13 := hid (B12.out.trans (hb.mono B12.out.size))
                  have Ta13 := hid (Ta12.out.bel hb)
                  have Tb13 := hid (Tb12.out.bel hb)
                  have Tc13 := hid (Tc12.out.bel hb)
                  have Tu13 := hid (Tu12.out.bel hb)
                  clear B12 Ta12 Tb12 Tc12 Tu12 hb
                  go_wp2_with (go_at_call 14; refine stopHere ?_)
                  refine stopAt ?_
                  refine (union_any _ _ _ lu lc Tu13.out Tc13.out (by omega) (by omega)).mono ?_
                  rintro e w14 ⟨v14, rfl, hA, hb⟩
                  rw [HX.out] at hA
                  have B14 := hid (B13.out.trans (hb.mono B13.out.size))
                  have Ta14 := hid (Ta13.out.bel hb)
                  have Tb14 := hid (Tb13.out.bel hb)
                  have Tc14 := hid (Tc13.out.bel hb)
                  have Tu14 := hid (Tu13.out.bel hb)
                  have Tx14 := hid hA
                  obtain ⟨q14, m14, rfl⟩ := hA.form
                  clear B13 Ta13 Tb13 Tc13 Tu13 hA hb
                  go_wp2_with (go_at_call 14; refine stopHere ?_)
                  refine stopAt ?_
                  refine (union_any _ _ _ lb lc Tb14.out Tc14.out (by omega) (by omega)).mono ?_
                  rintro e w15 ⟨v15, rfl, hA, hb⟩
                  rw [HY.out] at hA
                  have B15 := hid (B14.out.trans (hb.mono B14.out.size))
                  have Ta15 := hid (Ta14.out.bel hb)
                  have Tb15 := hid (Tb14.out.bel hb)
                  have Tc15 := hid (Tc14.out.bel hb)
                  have Tu15 := hid (Tu14.out.bel hb)
                  have Tx15 := hid (Tx14.out.bel hb)
                  have Ty15 := hid hA
                  obtain ⟨q15, m15, rfl⟩ := hA.form
                  clear B14 Ta14 Tb14 Tc14 Tu14 Tx14 hA hb
                  go_wp2_with (go_at_call 14; refine stopHere ?_)
                  refine stopAt ?_
                  refine (union_any _ _ _ la ly Ta15.out Ty15.out (by omega) (by omega)).mono ?_
                  rintro e w16 ⟨v16, rfl, hA, hb⟩
                  rw [E3.out] at hA
                  have B16 := hid (B15.out.trans (hb.mono B15.out.size))
                  have Ta16 := hid (Ta15.out.bel hb)
                  have Tb16 := hid (Tb15.out.bel hb)
                  have Tc16 := hid (Tc15.out.bel hb)
                  have Tu16 := hid (Tu15.out.bel hb)
                  have Tx16 := hid (Tx15.out.bel hb)
                  have Ty16 := hid (Ty15.out.bel hb)
                  have Tz16 := hid hA
                  obtain ⟨q16, m16, rfl⟩ := hA.form
                  clear B15 Ta15 Tb15 Tc15 Tu15 Tx15 Ty15 hA hb
                  go_wp2_with (go_at_call 9; refine stopHere ?_)
                  refine stopAt ?_
                  refine (same_any _ _ _ lx lx Tx16.out Tz16.out (by omega)).mono ?_
                  rw [SS.out]
                  rintro e w17 ⟨rfl, hb⟩
                  have B17 := hid (B16.out.trans (hb.mono B16.out.size))
                  have Ta17 := hid (Ta16.out.bel hb)
                  have Tb17 := hid (Tb16.out.bel hb)
                  have Tc17 := hid (Tc16.out.bel hb)
                  have Tu17 := hid (Tu16.out.bel hb)
                  have Tx17 := hid (Tx16.out.bel hb)
                  have Ty17 := hid (Ty16.out.bel hb)
                  have Tz17 := hid (Tz16.out.bel hb)
                  clear B16 Ta16 Tb16 Tc16 Tu16 Tx16 Ty16 Tz16 hb
                  go_wp2_with (go_at_call 16; refine stopHere ?_)
                  refine stopAt ?_
                  refine (within_any _ _ _ la lb Ta17.out Tb17.out (by omega) (by omega)).mono ?_
                  rw [Hy1.out]
                  rintro e w18 ⟨rfl, hb⟩
                  have B18 := hid (B17.out.trans (hb.mono B17.out.size))
                  have Ta18 := hid (Ta17.out.bel hb)
                  have Tb18 := hid (Tb17.out.bel hb)
                  have Tc18 := hid (Tc17.out.bel hb)
                  have Tu18 := hid (Tu17.out.bel hb)
                  have Tx18 := hid (Tx17.out.bel hb)
                  have Ty18 := hid (Ty17.out.bel hb)
                  have Tz18 := hid (Tz17.out.bel hb)
                  clear B17 Ta17 Tb17 Tc17 Tu17 Tx17 Ty17 Tz17 hb
                  go_wp2_with (go_at_call 9; refine stopHere ?_)
                  refine stopAt ?_
                  refine (same_any _ _ _ la lb Ta18.out Tb18.out (by omega)).mono ?_
                  rw [show M.sameB la lb = false by rw [← E8.out, Hy1.out]; rfl]
                  rintro e w19 ⟨rfl, hb⟩
                  have B19 := hid (B18.out.trans (hb.mono B18.out.size))
                  have Ta19 := hid (Ta18.out.bel hb)
                  have Tb19 := hid (Tb18.out.bel hb)
                  have Tc19 := hid (Tc18.out.bel hb)
                  have Tu19 := hid (Tu18.out.bel hb)
                  have Tx19 := hid (Tx18.out.bel hb)
                  have Ty19 := hid (Ty18.out.bel hb)
                  have Tz19 := hid (Tz18.out.bel hb)
                  clear B18 Ta18 Tb18 Tc18 Tu18 Tx18 Ty18 Tz18 hb
                  go_wp2
                  go_ret
                  exact ⟨rfl, B19.out⟩
                | true =>
                  have Hy1 := hid y1
                  clear y1
                  cases y2 : M.within lb la with
                  | false =>
                    have Hy2 := hid y2
                    clear y2
                    go_enter Tryd.func4, Tryd.ntmps4
                    go_wp2_with (go_at_call 8; refine stopHere ?_)
                    refine stopAt ?_
                    refine (fixed_any _ (HT.out.below B0.out)).mono ?_
                    rintro e w1 ⟨rfl, hb⟩
                    have B1 := hid (B0.out.trans (hb.mono B0.out.size))
                    have Ta1 := hid (Ta0.out.bel hb)
                    have Tb1 := hid (Tb0.out.bel hb)
                    have Tc1 := hid (Tc0.out.bel hb)
                    clear B0 Ta0 Tb0 Tc0 hb
                    go_wp2_with (go_at_call 12; refine stopHere ?_)
                    refine stopAt ?_
                    refine (may_any _ _ la Ta1.out (by omega)).mono ?_
                    rw [Hya.out]
                    rintro e w2 ⟨rfl, hg⟩
                    have hb := hg.below
                    have B2 := hid (B1.out.trans (hb.mono B1.out.size))
                    have Ta2 := hid (Ta1.out.bel hb)
                    have Tb2 := hid (Tb1.out.bel hb)
                    have Tc2 := hid (Tc1.out.bel hb)
                    clear B1 Ta1 Tb1 Tc1 hb hg
                    go_wp2_with (go_at_call 12; refine stopHere ?_)
                    refine stopAt ?_
                    refine (may_any _ _ lb Tb2.out (by omega)).mono ?_
                    rw [Hyb.out]
                    rintro e w3 ⟨rfl, hg⟩
                    have hb := hg.below
                    have B3 := hid (B2.out.trans (hb.mono B2.out.size))
                    have Ta3 := hid (Ta2.out.bel hb)
                    have Tb3 := hid (Tb2.out.bel hb)
                    have Tc3 := hid (Tc2.out.bel hb)
                    clear B2 Ta2 Tb2 Tc2 hb hg
                    go_wp2_with (go_at_call 12; refine stopHere ?_)
                    refine stopAt ?_
                    refine (may_any _ _ lc Tc3.out (by omega)).mono ?_
                    rw [Hyc.out]
                    rintro e w4 ⟨rfl, hg⟩
                    have hb := hg.below
                    have B4 := hid (B3.out.trans (hb.mono B3.out.size))
                    have Ta4 := hid (Ta3.out.bel hb)
                    have Tb4 := hid (Tb3.out.bel hb)
                    have Tc4 := hid (Tc3.out.bel hb)
                    clear B3 Ta3 Tb3 Tc3 hb hg
                    go_wp2_with (go_at_call 14; refine stopHere ?_)
                    refine stopAt ?_
                    refine (union_any _ _ _ la lb Ta4.out Tb4.out (by omega) (by omega)).mono ?_
                    rintro e w5 ⟨v5, rfl, hA, hb⟩
                    rw [HU.out] at hA
                    have B5 := hid (B4.out.trans (hb.mono B4.out.size))
                    have Ta5 := hid (Ta4.out.bel hb)
                    have Tb5 := hid (Tb4.out.bel hb)
                    have Tc5 := hid (Tc4.out.bel hb)
                    have Tu5 := hid hA
                    obtain ⟨q5, m5, rfl⟩ := hA.form
                    clear B4 Ta4 Tb4 Tc4 hA hb
                    go_wp2_with (go_at_call 12; refine stopHere ?_)
                    refine stopAt ?_
                    refine (may_any _ _ lu Tu5.out (by omega)).mono ?_
                    rw [E4.out]
                    rintro e w6 ⟨rfl, hg⟩
                    have hb := hg.below
                    have B6 := hid (B5.out.trans (hb.mono B5.out.size))
                    have Ta6 := hid (Ta5.out.bel hb)
                    have Tb6 := hid (Tb5.out.bel hb)
                    have Tc6 := hid (Tc5.out.bel hb)
                    have Tu6 := hid (Tu5.out.bel hb)
                    clear B5 Ta5 Tb5 Tc5 Tu5 hb hg
                    go_wp2_with (go_at_call 16; refine stopHere ?_)
                    refine stopAt ?_
                    refine (within_any _ _ _ la lu Ta6.out Tu6.out (by omega) (by omega)).mono ?_
                    rw [E5.out]
                    rintro e w7 ⟨rfl, hb⟩
                    have B7 := hid (B6.out.trans (hb.mono B6.out.size))
                    have Ta7 := hid (Ta6.out.bel hb)
                    have Tb7 := hid (Tb6.out.bel hb)
                    have Tc7 := hid (Tc6.out.bel hb)
                    have Tu7 := hid (Tu6.out.bel hb)
                    clear B6 Ta6 Tb6 Tc6 Tu6 hb
                    go_wp2_with (go_at_call 16; refine stopHere ?_)
                    refine stopAt ?_
                    refine (within_any _ _ _ lb lu Tb7.out Tu7.out (by omega) (by omega)).mono ?_
                    rw [E6.out]
                    rintro e w8 ⟨rfl, hb⟩
                    have B8 := hid (B7.out.trans (hb.mono B7.out.size))
                    have Ta8 := hid (Ta7.out.bel hb)
                    have Tb8 := hid (Tb7.out.bel hb)
                    have Tc8 := hid (Tc7.out.bel hb)
                    have Tu8 := hid (Tu7.out.bel hb)
                    clear B7 Ta7 Tb7 Tc7 Tu7 hb
                    go_wp2_with (go_at_call 14; refine stopHere ?_)
                    refine stopAt ?_
                    refine (union_any _ _ _ lb la Tb8.out Ta8.out (by omega) (by omega)).mono ?_
                    rintro e w9 ⟨v9, rfl, hA, hb⟩
                    rw [E1.out] at hA
                    have B9 := hid (B8.out.trans (hb.mono B8.out.size))
                    have Ta9 := hid (Ta8.out.bel hb)
                    have Tb9 := hid (Tb8.out.bel hb)
                    have Tc9 := hid (Tc8.out.bel hb)
                    have Tu9 := hid (Tu8.out.bel hb)
                    have Tv9 := hid hA
                    obtain ⟨q9, m9, rfl⟩ := hA.form
                    clear B8 Ta8 Tb8 Tc8 Tu8 hA hb
                    go_wp2_with (go_at_call 9; refine stopHere ?_)
                    refine stopAt ?_
                    refine (same_any _ _ _ lu lu Tu9.out Tv9.out (by omega)).mono ?_
                    rw [SS.out]
                    rintro e w10 ⟨rfl, hb⟩
                    have B10 := hid (B9.out.trans (hb.mono B9.out.size))
                    have Ta10 := hid (Ta9.out.bel hb)
                    have Tb10 := hid (Tb9.out.bel hb)
                    have Tc10 := hid (Tc9.out.bel hb)
                    have Tu10 := hid (Tu9.out.bel hb)
                    have Tv10 := hid (Tv9.out.bel hb)
                    clear B9 Ta9 Tb9 Tc9 Tu9 Tv9 hb
                    go_wp2_with (go_at_call 14; refine stopHere ?_)
                    refine stopAt ?_
                    refine (union_any _ _ _ lu la Tu10.out Ta10.out (by omega) (by omega)).mono ?_
                    rintro e w11 ⟨v11, rfl, hA, hb⟩
                    rw [E2.out] at hA
                    have B11 := hid (B10.out.trans (hb.mono B10.out.size))
                    have Ta11 := hid (Ta10.out.bel hb)
                    have Tb11 := hid (Tb10.out.bel hb)
                    have Tc11 := hid (Tc10.out.bel hb)
                    have Tu11 := hid (Tu10.out.bel hb)
                    have Tv11 := hid hA
                    obtain ⟨q11, m11, rfl⟩ := hA.form
                    clear B10 Ta10 Tb10 Tc10 Tu10 hA hb
                    go_wp2_with (go_at_call 9; refine stopHere ?_)
                    refine stopAt ?_
                    refine (same_any _ _ _ lu lu Tu11.out Tv11.out (by omega)).mono ?_
                    rw [SS.out]
                    rintro e w12 ⟨rfl, hb⟩
                    have B12 := hid (B11.out.trans (hb.mono B11.out.size))
                    have Ta12 := hid (Ta11.out.bel hb)
                    have Tb12 := hid (Tb11.out.bel hb)
                    have Tc12 := hid (Tc11.out.bel hb)
                    have Tu12 := hid (Tu11.out.bel hb)
                    have Tv12 := hid (Tv11.out.bel hb)
                    clear B11 Ta11 Tb11 Tc11 Tu11 Tv11 hb
                    go_wp2_with (go_at_call 16; refine stopHere ?_)
                    refine stopAt ?_
                    refine (within_any _ _ _ la lc Ta12.out Tc12.out (by omega) (by omega)).mono ?_
                    rw [Hx1.out]
                    rintro e w13 ⟨rfl, hb⟩
                    have B13 := hid (B12.out.trans (hb.mono B12.out.size))
                    have Ta13 := hid (Ta12.out.bel hb)
                    have Tb13 := hid (Tb12.out.bel hb)
                    have Tc13 := hid (Tc12.out.bel hb)
                    have Tu13 := hid (Tu12.out.bel hb)
                    clear B12 Ta12 Tb12 Tc12 Tu12 hb
                    go_wp2_with (go_at_call 14; refine stopHere ?_)
                    refine stopAt ?_
                    refine (union_any _ _ _ lu lc Tu13.out Tc13.out (by omega) (by omega)).mono ?_
                    rintro e w14 ⟨v14, rfl, hA, hb⟩
                    rw [HX.out] at hA
                    have B14 := hid (B13.out.trans (hb.mono B13.out.size))
                    have Ta14 := hid (Ta13.out.bel hb)
                    have Tb14 := hid (Tb13.out.bel hb)
                    have Tc14 := hid (Tc13.out.bel hb)
                    have Tu14 := hid (Tu13.out.bel hb)
                    have Tx14 := hid hA
                    obtain ⟨q14, m14, rfl⟩ := hA.form
                    clear B13 Ta13 Tb13 Tc13 Tu13 hA hb
                    go_wp2_with (go_at_call 14; refine stopHere ?_)
                    refine stopAt ?_
                    refine (union_any _ _ _ lb lc Tb14.out Tc14.out (by omega) (by omega)).mono ?_
                    rintro e w15 ⟨v15, rfl, hA, hb⟩
                    rw [HY.out] at hA
                    have B15 := hid (B14.out.trans (hb.mono B14.out.size))
                    have Ta15 := hid (Ta14.out.bel hb)
                    have Tb15 := hid (Tb14.out.bel hb)
                    have Tc15 := hid (Tc14.out.bel hb)
                    have Tu15 := hid (Tu14.out.bel hb)
                    have Tx15 := hid (Tx14.out.bel hb)
                    have Ty15 := hid hA
                    obtain ⟨q15, m15, rfl⟩ := hA.form
                    clear B14 Ta14 Tb14 Tc14 Tu14 Tx14 hA hb
                    go_wp2_with (go_at_call 14; refine stopHere ?_)
                    refine stopAt ?_
                    refine (union_any _ _ _ la ly Ta15.out Ty15.out (by omega) (by omega)).mono ?_
                    rintro e w16 ⟨v16, rfl, hA, hb⟩
                    rw [E3.out] at hA
                    have B16 := hid (B15.out.trans (hb.mono B15.out.size))
                    have Ta16 := hid (Ta15.out.bel hb)
                    have Tb16 := hid (Tb15.out.bel hb)
                    have Tc16 := hid (Tc15.out.bel hb)
                    have Tu16 := hid (Tu15.out.bel hb)
                    have Tx16 := hid (Tx15.out.bel hb)
                    have Ty16 := hid (Ty15.out.bel hb)
                    have Tz16 := hid hA
                    obtain ⟨q16, m16, rfl⟩ := hA.form
                    clear B15 Ta15 Tb15 Tc15 Tu15 Tx15 Ty15 hA hb
                    go_wp2_with (go_at_call 9; refine stopHere ?_)
                    refine stopAt ?_
                    refine (same_any _ _ _ lx lx Tx16.out Tz16.out (by omega)).mono ?_
                    rw [SS.out]
                    rintro e w17 ⟨rfl, hb⟩
                    have B17 := hid (B16.out.trans (hb.mono B16.out.size))
                    have Ta17 := hid (Ta16.out.bel hb)
                    have Tb17 := hid (Tb16.out.bel hb)
                    have Tc17 := hid (Tc16.out.bel hb)
                    have Tu17 := hid (Tu16.out.bel hb)
                    have Tx17 := hid (Tx16.out.bel hb)
                    have Ty17 := hid (Ty16.out.bel hb)
                    have Tz17 := hid (Tz16.out.bel hb)
                    clear B16 Ta16 Tb16 Tc16 Tu16 Tx16 Ty16 Tz16 hb
                    go_wp2_with (go_at_call 16; refine stopHere ?_)
                    refine stopAt ?_
                    refine (within_any _ _ _ la lb Ta17.out Tb17.out (by omega) (by omega)).mono ?_
                    rw [Hy1.out]
                    rintro e w18 ⟨rfl, hb⟩
                    have B18 := hid (B17.out.trans (hb.mono B17.out.size))
                    have Ta18 := hid (Ta17.out.bel hb)
                    have Tb18 := hid (Tb17.out.bel hb)
                    have Tc18 := hid (Tc17.out.bel hb)
                    have Tu18 := hid (Tu17.out.bel hb)
                    have Tx18 := hid (Tx17.out.bel hb)
                    have Ty18 := hid (Ty17.out.bel hb)
                    have Tz18 := hid (Tz17.out.bel hb)
                    clear B17 Ta17 Tb17 Tc17 Tu17 Tx17 Ty17 Tz17 hb
                    go_wp2_with (go_at_call 16; refine stopHere ?_)
                    refine stopAt ?_
                    refine (within_any _ _ _ lb la Tb18.out Ta18.out (by omega) (by omega)).mono ?_
                    rw [Hy2.out]
                    rintro e w19 ⟨rfl, hb⟩
                    have B19 := hid (B18.out.trans (hb.mono B18.out.size))
                    have Ta19 := hid (Ta18.out.bel hb)
                    have Tb19 := hid (Tb18.out.bel hb)
                    have Tc19 := hid (Tc18.out.bel hb)
                    have Tu19 := hid (Tu18.out.bel hb)
                    have Tx19 := hid (Tx18.out.bel hb)
                    have Ty19 := hid (Ty18.out.bel hb)
                    have Tz19 := hid (Tz18.out.bel hb)
                    clear B18 Ta18 Tb18 Tc18 Tu18 Tx18 Ty18 Tz18 hb
                    go_wp2_with (go_at_call 9; refine stopHere ?_)
                    refine stopAt ?_
                    refine (same_any _ _ _ la lb Ta19.out Tb19.out (by omega)).mono ?_
                    rw [show M.sameB la lb = false by rw [← E8.out, Hy1.out, Hy2.out]; rfl]
                    rintro e w20 ⟨rfl, hb⟩
                    have B20 := hid (B19.out.trans (hb.mono B19.out.size))
                    have Ta20 := hid (Ta19.out.bel hb)
                    have Tb20 := hid (Tb19.out.bel hb)
                    have Tc20 := hid (Tc19.out.bel hb)
                    have Tu20 := hid (Tu19.out.bel hb)
                    have Tx20 := hid (Tx19.out.bel hb)
                    have Ty20 := hid (Ty19.out.bel hb)
                    have Tz20 := hid (Tz19.out.bel hb)
                    clear B19 Ta19 Tb19 Tc19 Tu19 Tx19 Ty19 Tz19 hb
                    go_wp2
                    go_ret
                    exact ⟨rfl, B20.out⟩
                  | true =>
                    have Hy2 := hid y2
                    clear y2
                    go_enter Tryd.func4, Tryd.ntmps4
                    go_wp2_with (go_at_call 8; refine stopHere ?_)
                    refine stopAt ?_
                    refine (fixed_any _ (HT.out.below B0.out)).mono ?_
                    rintro e w1 ⟨rfl, hb⟩
                    have B1 := hid (B0.out.trans (hb.mono B0.out.size))
                    have Ta1 := hid (Ta0.out.bel hb)
                    have Tb1 := hid (Tb0.out.bel hb)
                    have Tc1 := hid (Tc0.out.bel hb)
                    clear B0 Ta0 Tb0 Tc0 hb
                    go_wp2_with (go_at_call 12; refine stopHere ?_)
                    refine stopAt ?_
                    refine (may_any _ _ la Ta1.out (by omega)).mono ?_
                    rw [Hya.out]
                    rintro e w2 ⟨rfl, hg⟩
                    have hb := hg.below
                    have B2 := hid (B1.out.trans (hb.mono B1.out.size))
                    have Ta2 := hid (Ta1.out.bel hb)
                    have Tb2 := hid (Tb1.out.bel hb)
                    have Tc2 := hid (Tc1.out.bel hb)
                    clear B1 Ta1 Tb1 Tc1 hb hg
                    go_wp2_with (go_at_call 12; refine stopHere ?_)
                    refine stopAt ?_
                    refine (may_any _ _ lb Tb2.out (by omega)).mono ?_
                    rw [Hyb.out]
                    rintro e w3 ⟨rfl, hg⟩
                    have hb := hg.below
                    have B3 := hid (B2.out.trans (hb.mono B2.out.size))
                    have Ta3 := hid (Ta2.out.bel hb)
                    have Tb3 := hid (Tb2.out.bel hb)
                    have Tc3 := hid (Tc2.out.bel hb)
                    clear B2 Ta2 Tb2 Tc2 hb hg
                    go_wp2_with (go_at_call 12; refine stopHere ?_)
                    refine stopAt ?_
                    refine (may_any _ _ lc Tc3.out (by omega)).mono ?_
                    rw [Hyc.out]
                    rintro e w4 ⟨rfl, hg⟩
                    have hb := hg.below
                    have B4 := hid (B3.out.trans (hb.mono B3.out.size))
                    have Ta4 := hid (Ta3.out.bel hb)
                    have Tb4 := hid (Tb3.out.bel hb)
                    have Tc4 := hid (Tc3.out.bel hb)
                    clear B3 Ta3 Tb3 Tc3 hb hg
                    go_wp2_with (go_at_call 14; refine stopHere ?_)
                    refine stopAt ?_
                    refine (union_any _ _ _ la lb Ta4.out Tb4.out (by omega) (by omega)).mono ?_
                    rintro e w5 ⟨v5, rfl, hA, hb⟩
                    rw [HU.out] at hA
                    have B5 := hid (B4.out.trans (hb.mono B4.out.size))
                    have Ta5 := hid (Ta4.out.bel hb)
                    have Tb5 := hid (Tb4.out.bel hb)
                    have Tc5 := hid (Tc4.out.bel hb)
                    have Tu5 := hid hA
                    obtain ⟨q5, m5, rfl⟩ := hA.form
                    clear B4 Ta4 Tb4 Tc4 hA hb
                    go_wp2_with (go_at_call 12; refine stopHere ?_)
                    refine stopAt ?_
                    refine (may_any _ _ lu Tu5.out (by omega)).mono ?_
                    rw [E4.out]
                    rintro e w6 ⟨rfl, hg⟩
                    have hb := hg.below
                    have B6 := hid (B5.out.trans (hb.mono B5.out.size))
                    have Ta6 := hid (Ta5.out.bel hb)
                    have Tb6 := hid (Tb5.out.bel hb)
                    have Tc6 := hid (Tc5.out.bel hb)
                    have Tu6 := hid (Tu5.out.bel hb)
                    clear B5 Ta5 Tb5 Tc5 Tu5 hb hg
                    go_wp2_with (go_at_call 16; refine stopHere ?_)
                    refine stopAt ?_
                    refine (within_any _ _ _ la lu Ta6.out Tu6.out (by omega) (by omega)).mono ?_
                    rw [E5.out]
                    rintro e w7 ⟨rfl, hb⟩
                    have B7 := hid (B6.out.trans (hb.mono B6.out.size))
                    have Ta7 := hid (Ta6.out.bel hb)
                    have Tb7 := hid (Tb6.out.bel hb)
                    have Tc7 := hid (Tc6.out.bel hb)
                    have Tu7 := hid (Tu6.out.bel hb)
                    clear B6 Ta6 Tb6 Tc6 Tu6 hb
                    go_wp2_with (go_at_call 16; refine stopHere ?_)
                    refine stopAt ?_
                    refine (within_any _ _ _ lb lu Tb7.out Tu7.out (by omega) (by omega)).mono ?_
                    rw [E6.out]
                    rintro e w8 ⟨rfl, hb⟩
                    have B8 := hid (B7.out.trans (hb.mono B7.out.size))
                    have Ta8 := hid (Ta7.out.bel hb)
                    have Tb8 := hid (Tb7.out.bel hb)
                    have Tc8 := hid (Tc7.out.bel hb)
                    have Tu8 := hid (Tu7.out.bel hb)
                    clear B7 Ta7 Tb7 Tc7 Tu7 hb
                    go_wp2_with (go_at_call 14; refine stopHere ?_)
                    refine stopAt ?_
                    refine (union_any _ _ _ lb la Tb8.out Ta8.out (by omega) (by omega)).mono ?_
                    rintro e w9 ⟨v9, rfl, hA, hb⟩
                    rw [E1.out] at hA
                    have B9 := hid (B8.out.trans (hb.mono B8.out.size))
                    have Ta9 := hid (Ta8.out.bel hb)
                    have Tb9 := hid (Tb8.out.bel hb)
                    have Tc9 := hid (Tc8.out.bel hb)
                    have Tu9 := hid (Tu8.out.bel hb)
                    have Tv9 := hid hA
                    obtain ⟨q9, m9, rfl⟩ := hA.form
                    clear B8 Ta8 Tb8 Tc8 Tu8 hA hb
                    go_wp2_with (go_at_call 9; refine stopHere ?_)
                    refine stopAt ?_
                    refine (same_any _ _ _ lu lu Tu9.out Tv9.out (by omega)).mono ?_
                    rw [SS.out]
                    rintro e w10 ⟨rfl, hb⟩
                    have B10 := hid (B9.out.trans (hb.mono B9.out.size))
                    have Ta10 := hid (Ta9.out.bel hb)
                    have Tb10 := hid (Tb9.out.bel hb)
                    have Tc10 := hid (Tc9.out.bel hb)
                    have Tu10 := hid (Tu9.out.bel hb)
                    have Tv10 := hid (Tv9.out.bel hb)
                    clear B9 Ta9 Tb9 Tc9 Tu9 Tv9 hb
                    go_wp2_with (go_at_call 14; refine stopHere ?_)
                    refine stopAt ?_
                    refine (union_any _ _ _ lu la Tu10.out Ta10.out (by omega) (by omega)).mono ?_
                    rintro e w11 ⟨v11, rfl, hA, hb⟩
                    rw [E2.out] at hA
                    have B11 := hid (B10.out.trans (hb.mono B10.out.size))
                    have Ta11 := hid (Ta10.out.bel hb)
                    have Tb11 := hid (Tb10.out.bel hb)
                    have Tc11 := hid (Tc10.out.bel hb)
                    have Tu11 := hid (Tu10.out.bel hb)
                    have Tv11 := hid hA
                    obtain ⟨q11, m11, rfl⟩ := hA.form
                    clear B10 Ta10 Tb10 Tc10 Tu10 hA hb
                    go_wp2_with (go_at_call 9; refine stopHere ?_)
                    refine stopAt ?_
                    refine (same_any _ _ _ lu lu Tu11.out Tv11.out (by omega)).mono ?_
                    rw [SS.out]
                    rintro e w12 ⟨rfl, hb⟩
                    have B12 := hid (B11.out.trans (hb.mono B11.out.size))
                    have Ta12 := hid (Ta11.out.bel hb)
                    have Tb12 := hid (Tb11.out.bel hb)
                    have Tc12 := hid (Tc11.out.bel hb)
                    have Tu12 := hid (Tu11.out.bel hb)
                    have Tv12 := hid (Tv11.out.bel hb)
                    clear B11 Ta11 Tb11 Tc11 Tu11 Tv11 hb
                    go_wp2_with (go_at_call 16; refine stopHere ?_)
                    refine stopAt ?_
                    refine (within_any _ _ _ la lc Ta12.out Tc12.out (by omega) (by omega)).mono ?_
                    rw [Hx1.out]
                    rintro e w13 ⟨rfl, hb⟩
                    have B13 := hid (B12.out.trans (hb.mono B12.out.size))
                    have Ta13 := hid (Ta12.out.bel hb)
                    have Tb13 := hid (Tb12.out.bel hb)
                    have Tc13 := hid (Tc12.out.bel hb)
                    have Tu13 := hid (Tu12.out.bel hb)
                    clear B12 Ta12 Tb12 Tc12 Tu12 hb
                    go_wp2_with (go_at_call 14; refine stopHere ?_)
                    refine stopAt ?_
                    refine (union_any _ _ _ lu lc Tu13.out Tc13.out (by omega) (by omega)).mono ?_
                    rintro e w14 ⟨v14, rfl, hA, hb⟩
                    rw [HX.out] at hA
                    have B14 := hid (B13.out.trans (hb.mono B13.out.size))
                    have Ta14 := hid (Ta13.out.bel hb)
                    have Tb14 := hid (Tb13.out.bel hb)
                    have Tc14 := hid (Tc13.out.bel hb)
                    have Tu14 := hid (Tu13.out.bel hb)
                    have Tx14 := hid hA
                    obtain ⟨q14, m14, rfl⟩ := hA.form
                    clear B13 Ta13 Tb13 Tc13 Tu13 hA hb
                    go_wp2_with (go_at_call 14; refine stopHere ?_)
                    refine stopAt ?_
                    refine (union_any _ _ _ lb lc Tb14.out Tc14.out (by omega) (by omega)).mono ?_
                    rintro e w15 ⟨v15, rfl, hA, hb⟩
                    rw [HY.out] at hA
                    have B15 := hid (B14.out.trans (hb.mono B14.out.size))
                    have Ta15 := hid (Ta14.out.bel hb)
                    have Tb15 := hid (Tb14.out.bel hb)
                    have Tc15 := hid (Tc14.out.bel hb)
                    have Tu15 := hid (Tu14.out.bel hb)
                    have Tx15 := hid (Tx14.out.bel hb)
                    have Ty15 := hid hA
                    obtain ⟨q15, m15, rfl⟩ := hA.form
                    clear B14 Ta14 Tb14 Tc14 Tu14 Tx14 hA hb
                    go_wp2_with (go_at_call 14; refine stopHere ?_)
                    refine stopAt ?_
                    refine (union_any _ _ _ la ly Ta15.out Ty15.out (by omega) (by omega)).mono ?_
                    rintro e w16 ⟨v16, rfl, hA, hb⟩
                    rw [E3.out] at hA
                    have B16 := hid (B15.out.trans (hb.mono B15.out.size))
                    have Ta16 := hid (Ta15.out.bel hb)
                    have Tb16 := hid (Tb15.out.bel hb)
                    have Tc16 := hid (Tc15.out.bel hb)
                    have Tu16 := hid (Tu15.out.bel hb)
                    have Tx16 := hid (Tx15.out.bel hb)
                    have Ty16 := hid (Ty15.out.bel hb)
                    have Tz16 := hid hA
                    obtain ⟨q16, m16, rfl⟩ := hA.form
                    clear B15 Ta15 Tb15 Tc15 Tu15 Tx15 Ty15 hA hb
                    go_wp2_with (go_at_call 9; refine stopHere ?_)
                    refine stopAt ?_
                    refine (same_any _ _ _ lx lx Tx16.out Tz16.out (by omega)).mono ?_
                    rw [SS.out]
                    rintro e w17 ⟨rfl, hb⟩
                    have B17 := hid (B16.out.trans (hb.mono B16.out.size))
                    have Ta17 := hid (Ta16.out.bel hb)
                    have Tb17 := hid (Tb16.out.bel hb)
                    have Tc17 := hid (Tc16.out.bel hb)
                    have Tu17 := hid (Tu16.out.bel hb)
                    have Tx17 := hid (Tx16.out.bel hb)
                    have Ty17 := hid (Ty16.out.bel hb)
                    have Tz17 := hid (Tz16.out.bel hb)
                    clear B16 Ta16 Tb16 Tc16 Tu16 Tx16 Ty16 Tz16 hb
                    go_wp2_with (go_at_call 16; refine stopHere ?_)
                    refine stopAt ?_
                    refine (within_any _ _ _ la lb Ta17.out Tb17.out (by omega) (by omega)).mono ?_
                    rw [Hy1.out]
                    rintro e w18 ⟨rfl, hb⟩
                    have B18 := hid (B17.out.trans (hb.mono B17.out.size))
                    have Ta18 := hid (Ta17.out.bel hb)
                    have Tb18 := hid (Tb17.out.bel hb)
                    have Tc18 := hid (Tc17.out.bel hb)
                    have Tu18 := hid (Tu17.out.bel hb)
                    have Tx18 := hid (Tx17.out.bel hb)
                    have Ty18 := hid (Ty17.out.bel hb)
                    have Tz18 := hid (Tz17.out.bel hb)
                    clear B17 Ta17 Tb17 Tc17 Tu17 Tx17 Ty17 Tz17 hb
                    go_wp2_with (go_at_call 16; refine stopHere ?_)
                    refine stopAt ?_
                    refine (within_any _ _ _ lb la Tb18.out Ta18.out (by omega) (by omega)).mono ?_
                    rw [Hy2.out]
                    rintro e w19 ⟨rfl, hb⟩
                    have B19 := hid (B18.out.trans (hb.mono B18.out.size))
                    have Ta19 := hid (Ta18.out.bel hb)
                    have Tb19 := hid (Tb18.out.bel hb)
                    have Tc19 := hid (Tc18.out.bel hb)
                    have Tu19 := hid (Tu18.out.bel hb)
                    have Tx19 := hid (Tx18.out.bel hb)
                    have Ty19 := hid (Ty18.out.bel hb)
                    have Tz19 := hid (Tz18.out.bel hb)
                    clear B18 Ta18 Tb18 Tc18 Tu18 Tx18 Ty18 Tz18 hb
                    go_wp2_with (go_at_call 9; refine stopHere ?_)
                    refine stopAt ?_
                    refine (same_any _ _ _ la lb Ta19.out Tb19.out (by omega)).mono ?_
                    rw [show M.sameB la lb = true by rw [← E8.out, Hy1.out, Hy2.out]; rfl]
                    rintro e w20 ⟨rfl, hb⟩
                    have B20 := hid (B19.out.trans (hb.mono B19.out.size))
                    have Ta20 := hid (Ta19.out.bel hb)
                    have Tb20 := hid (Tb19.out.bel hb)
                    have Tc20 := hid (Tc19.out.bel hb)
                    have Tu20 := hid (Tu19.out.bel hb)
                    have Tx20 := hid (Tx19.out.bel hb)
                    have Ty20 := hid (Ty19.out.bel hb)
                    have Tz20 := hid (Tz19.out.bel hb)
                    clear B19 Ta19 Tb19 Tc19 Tu19 Tx19 Ty19 Tz19 hb
                    go_wp2
                    go_ret
                    exact ⟨rfl, B20.out⟩
              | true =>
                have Hx1 := hid x1
                clear x1
                cases x2 : M.within lb lc with
                | false =>
                  have Hx2 := hid x2
                  clear x2
                  cases y1 : M.within la lb with
                  | false =>
                    have Hy1 := hid y1
                    clear y1
                    go_enter Tryd.func4, Tryd.ntmps4
                    go_wp2_with (go_at_call 8; refine stopHere ?_)
                    refine stopAt ?_
                    refine (fixed_any _ (HT.out.below B0.out)).mono ?_
                    rintro e w1 ⟨rfl, hb⟩
                    have B1 := hid (B0.out.trans (hb.mono B0.out.size))
                    have Ta1 := hid (Ta0.out.bel hb)
                    have Tb1 := hid (Tb0.out.bel hb)
                    have Tc1 := hid (Tc0.out.bel hb)
                    clear B0 Ta0 Tb0 Tc0 hb
                    go_wp2_with (go_at_call 12; refine stopHere ?_)
                    refine stopAt ?_
                    refine (may_any _ _ la Ta1.out (by omega)).mono ?_
                    rw [Hya.out]
                    rintro e w2 ⟨rfl, hg⟩
                    have hb := hg.below
                    have B2 := hid (B1.out.trans (hb.mono B1.out.size))
                    have Ta2 := hid (Ta1.out.bel hb)
                    have Tb2 := hid (Tb1.out.bel hb)
                    have Tc2 := hid (Tc1.out.bel hb)
                    clear B1 Ta1 Tb1 Tc1 hb hg
                    go_wp2_with (go_at_call 12; refine stopHere ?_)
                    refine stopAt ?_
                    refine (may_any _ _ lb Tb2.out (by omega)).mono ?_
                    rw [Hyb.out]
                    rintro e w3 ⟨rfl, hg⟩
                    have hb := hg.below
                    have B3 := hid (B2.out.trans (hb.mono B2.out.size))
                    have Ta3 := hid (Ta2.out.bel hb)
                    have Tb3 := hid (Tb2.out.bel hb)
                    have Tc3 := hid (Tc2.out.bel hb)
                    clear B2 Ta2 Tb2 Tc2 hb hg
                    go_wp2_with (go_at_call 12; refine stopHere ?_)
                    refine stopAt ?_
                    refine (may_any _ _ lc Tc3.out (by omega)).mono ?_
                    rw [Hyc.out]
                    rintro e w4 ⟨rfl, hg⟩
                    have hb := hg.below
                    have B4 := hid (B3.out.trans (hb.mono B3.out.size))
                    have Ta4 := hid (Ta3.out.bel hb)
                    have Tb4 := hid (Tb3.out.bel hb)
                    have Tc4 := hid (Tc3.out.bel hb)
                    clear B3 Ta3 Tb3 Tc3 hb hg
                    go_wp2_with (go_at_call 14; refine stopHere ?_)
                    refine stopAt ?_
                    refine (union_any _ _ _ la lb Ta4.out Tb4.out (by omega) (by omega)).mono ?_
                    rintro e w5 ⟨v5, rfl, hA, hb⟩
                    rw [HU.out] at hA
                    have B5 := hid (B4.out.trans (hb.mono B4.out.size))
                    have Ta5 := hid (Ta4.out.bel hb)
                    have Tb5 := hid (Tb4.out.bel hb)
                    have Tc5 := hid (Tc4.out.bel hb)
                    have Tu5 := hid hA
                    obtain ⟨q5, m5, rfl⟩ := hA.form
                    clear B4 Ta4 Tb4 Tc4 hA hb
                    go_wp2_with (go_at_call 12; refine stopHere ?_)
                    refine stopAt ?_
                    refine (may_any _ _ lu Tu5.out (by omega)).mono ?_
                    rw [E4.out]
                    rintro e w6 ⟨rfl, hg⟩
                    have hb := hg.below
                    have B6 := hid (B5.out.trans (hb.mono B5.out.size))
                    have Ta6 := hid (Ta5.out.bel hb)
                    have Tb6 := hid (Tb5.out.bel hb)
                    have Tc6 := hid (Tc5.out.bel hb)
                    have Tu6 := hid (Tu5.out.bel hb)
                    clear B5 Ta5 Tb5 Tc5 Tu5 hb hg
                    go_wp2_with (go_at_call 16; refine stopHere ?_)
                    refine stopAt ?_
                    refine (within_any _ _ _ la lu Ta6.out Tu6.out (by omega) (by omega)).mono ?_
                    rw [E5.out]
                    rintro e w7 ⟨rfl, hb⟩
                    have B7 := hid (B6.out.trans (hb.mono B6.out.size))
                    have Ta7 := hid (Ta6.out.bel hb)
                    have Tb7 := hid (Tb6.out.bel hb)
                    have Tc7 := hid (Tc6.out.bel hb)
                    have Tu7 := hid (Tu6.out.bel hb)
                    clear B6 Ta6 Tb6 Tc6 Tu6 hb
                    go_wp2_with (go_at_call 16; refine stopHere ?_)
                    refine stopAt ?_
                    refine (within_any _ _ _ lb lu Tb7.out Tu7.out (by omega) (by omega)).mono ?_
                    rw [E6.out]
                    rintro e w8 ⟨rfl, hb⟩
                    have B8 := hid (B7.out.trans (hb.mono B7.out.size))
                    have Ta8 := hid (Ta7.out.bel hb)
                    have Tb8 := hid (Tb7.out.bel hb)
                    have Tc8 := hid (Tc7.out.bel hb)
                    have Tu8 := hid (Tu7.out.bel hb)
                    clear B7 Ta7 Tb7 Tc7 Tu7 hb
                    go_wp2_with (go_at_call 14; refine stopHere ?_)
                    refine stopAt ?_
                    refine (union_any _ _ _ lb la Tb8.out Ta8.out (by omega) (by omega)).mono ?_
                    rintro e w9 ⟨v9, rfl, hA, hb⟩
                    rw [E1.out] at hA
                    have B9 := hid (B8.out.trans (hb.mono B8.out.size))
                    have Ta9 := hid (Ta8.out.bel hb)
                    have Tb9 := hid (Tb8.out.bel hb)
                    have Tc9 := hid (Tc8.out.bel hb)
                    have Tu9 := hid (Tu8.out.bel hb)
                    have Tv9 := hid hA
                    obtain ⟨q9, m9, rfl⟩ := hA.form
                    clear B8 Ta8 Tb8 Tc8 Tu8 hA hb
                    go_wp2_with (go_at_call 9; refine stopHere ?_)
                    refine stopAt ?_
                    refine (same_any _ _ _ lu lu Tu9.out Tv9.out (by omega)).mono ?_
                    rw [SS.out]
                    rintro e w10 ⟨rfl, hb⟩
                    have B10 := hid (B9.out.trans (hb.mono B9.out.size))
                    have Ta10 := hid (Ta9.out.bel hb)
                    have Tb10 := hid (Tb9.out.bel hb)
                    have Tc10 := hid (Tc9.out.bel hb)
                    have Tu10 := hid (Tu9.out.bel hb)
                    have Tv10 := hid (Tv9.out.bel hb)
                    clear B9 Ta9 Tb9 Tc9 Tu9 Tv9 hb
                    go_wp2_with (go_at_call 14; refine stopHere ?_)
                    refine stopAt ?_
                    refine (union_any _ _ _ lu la Tu10.out Ta10.out (by omega) (by omega)).mono ?_
                    rintro e w11 ⟨v11, rfl, hA, hb⟩
                    rw [E2.out] at hA
                    have B11 := hid (B10.out.trans (hb.mono B10.out.size))
                    have Ta11 := hid (Ta10.out.bel hb)
                    have Tb11 := hid (Tb10.out.bel hb)
                    have Tc11 := hid (Tc10.out.bel hb)
                    have Tu11 := hid (Tu10.out.bel hb)
                    have Tv11 := hid hA
                    obtain ⟨q11, m11, rfl⟩ := hA.form
                    clear B10 Ta10 Tb10 Tc10 Tu10 hA hb
                    go_wp2_with (go_at_call 9; refine stopHere ?_)
                    refine stopAt ?_
                    refine (same_any _ _ _ lu lu Tu11.out Tv11.out (by omega)).mono ?_
                    rw [SS.out]
                    rintro e w12 ⟨rfl, hb⟩
                    have B12 := hid (B11.out.trans (hb.mono B11.out.size))
                    have Ta12 := hid (Ta11.out.bel hb)
                    have Tb12 := hid (Tb11.out.bel hb)
                    have Tc12 := hid (Tc11.out.bel hb)
                    have Tu12 := hid (Tu11.out.bel hb)
                    have Tv12 := hid (Tv11.out.bel hb)
                    clear B11 Ta11 Tb11 Tc11 Tu11 Tv11 hb
                    go_wp2_with (go_at_call 16; refine stopHere ?_)
                    refine stopAt ?_
                    refine (within_any _ _ _ la lc Ta12.out Tc12.out (by omega) (by omega)).mono ?_
                    rw [Hx1.out]
                    rintro e w13 ⟨rfl, hb⟩
                    have B13 := hid (B12.out.trans (hb.mono B12.out.size))
                    have Ta13 := hid (Ta12.out.bel hb)
                    have Tb13 := hid (Tb12.out.bel hb)
                    have Tc13 := hid (Tc12.out.bel hb)
                    have Tu13 := hid (Tu12.out.bel hb)
                    clear B12 Ta12 Tb12 Tc12 Tu12 hb
                    go_wp2_with (go_at_call 16; refine stopHere ?_)
                    refine stopAt ?_
                    refine (within_any _ _ _ lb lc Tb13.out Tc13.out (by omega) (by omega)).mono ?_
                    rw [Hx2.out]
                    rintro e w14 ⟨rfl, hb⟩
                    have B14 := hid (B13.out.trans (hb.mono B13.out.size))
                    have Ta14 := hid (Ta13.out.bel hb)
                    have Tb14 := hid (Tb13.out.bel hb)
                    have Tc14 := hid (Tc13.out.bel hb)
                    have Tu14 := hid (Tu13.out.bel hb)
                    clear B13 Ta13 Tb13 Tc13 Tu13 hb
                    go_wp2_with (go_at_call 14; refine stopHere ?_)
                    refine stopAt ?_
                    refine (union_any _ _ _ lu lc Tu14.out Tc14.out (by omega) (by omega)).mono ?_
                    rintro e w15 ⟨v15, rfl, hA, hb⟩
                    rw [HX.out] at hA
                    have B15 := hid (B14.out.trans (hb.mono B14.out.size))
                    have Ta15 := hid (Ta14.out.bel hb)
                    have Tb15 := hid (Tb14.out.bel hb)
                    have Tc15 := hid (Tc14.out.bel hb)
                    have Tu15 := hid (Tu14.out.bel hb)
                    have Tx15 := hid hA
                    obtain ⟨q15, m15, rfl⟩ := hA.form
                    clear B14 Ta14 Tb14 Tc14 Tu14 hA hb
                    go_wp2_with (go_at_call 14; refine stopHere ?_)
                    refine stopAt ?_
                    refine (union_any _ _ _ lb lc Tb15.out Tc15.out (by omega) (by omega)).mono ?_
                    rintro e w16 ⟨v16, rfl, hA, hb⟩
                    rw [HY.out] at hA
                    have B16 := hid (B15.out.trans (hb.mono B15.out.size))
                    have Ta16 := hid (Ta15.out.bel hb)
                    have Tb16 := hid (Tb15.out.bel hb)
                    have Tc16 := hid (Tc15.out.bel hb)
                    have Tu16 := hid (Tu15.out.bel hb)
                    have Tx16 := hid (Tx15.out.bel hb)
                    have Ty16 := hid hA
                    obtain ⟨q16, m16, rfl⟩ := hA.form
                    clear B15 Ta15 Tb15 Tc15 Tu15 Tx15 hA hb
                    go_wp2_with (go_at_call 14; refine stopHere ?_)
                    refine stopAt ?_
                    refine (union_any _ _ _ la ly Ta16.out Ty16.out (by omega) (by omega)).mono ?_
                    rintro e w17 ⟨v17, rfl, hA, hb⟩
                    rw [E3.out] at hA
                    have B17 := hid (B16.out.trans (hb.mono B16.out.size))
                    have Ta17 := hid (Ta16.out.bel hb)
                    have Tb17 := hid (Tb16.out.bel hb)
                    have Tc17 := hid (Tc16.out.bel hb)
                    have Tu17 := hid (Tu16.out.bel hb)
                    have Tx17 := hid (Tx16.out.bel hb)
                    have Ty17 := hid (Ty16.out.bel hb)
                    have Tz17 := hid hA
                    obtain ⟨q17, m17, rfl⟩ := hA.form
                    clear B16 Ta16 Tb16 Tc16 Tu16 Tx16 Ty16 hA hb
                    go_wp2_with (go_at_call 9; refine stopHere ?_)
                    refine stopAt ?_
                    refine (same_any _ _ _ lx lx Tx17.out Tz17.out (by omega)).mono ?_
                    rw [SS.out]
                    rintro e w18 ⟨rfl, hb⟩
                    have B18 := hid (B17.out.trans (hb.mono B17.out.size))
                    have Ta18 := hid (Ta17.out.bel hb)
                    have Tb18 := hid (Tb17.out.bel hb)
                    have Tc18 := hid (Tc17.out.bel hb)
                    have Tu18 := hid (Tu17.out.bel hb)
                    have Tx18 := hid (Tx17.out.bel hb)
                    have Ty18 := hid (Ty17.out.bel hb)
                    have Tz18 := hid (Tz17.out.bel hb)
                    clear B17 Ta17 Tb17 Tc17 Tu17 Tx17 Ty17 Tz17 hb
                    go_wp2_with (go_at_call 16; refine stopHere ?_)
                    refine stopAt ?_
                    refine (within_any _ _ _ la lb Ta18.out Tb18.out (by omega) (by omega)).mono ?_
                    rw [Hy1.out]
                    rintro e w19 ⟨rfl, hb⟩
                    have B19 := hid (B18.out.trans (hb.mono B18.out.size))
                    have Ta19 := hid (Ta18.out.bel hb)
                    have Tb19 := hid (Tb18.out.bel hb)
                    have Tc19 := hid (Tc18.out.bel hb)
                    have Tu19 := hid (Tu18.out.bel hb)
                    have Tx19 := hid (Tx18.out.bel hb)
                    have Ty19 := hid (Ty18.out.bel hb)
                    have Tz19 := hid (Tz18.out.bel hb)
                    clear B18 Ta18 Tb18 Tc18 Tu18 Tx18 Ty18 Tz18 hb
                    go_wp2_with (go_at_call 9; refine stopHere ?_)
                    refine stopAt ?_
                    refine (same_any _ _ _ la lb Ta19.out Tb19.out (by omega)).mono ?_
                    rw [show M.sameB la lb = false by rw [← E8.out, Hy1.out]; rfl]
                    rintro e w20 ⟨rfl, hb⟩
                    have B20 := hid (B19.out.trans (hb.mono B19.out.size))
                    have Ta20 := hid (Ta19.out.bel hb)
                    have Tb20 := hid (Tb19.out.bel hb)
                    have Tc20 := hid (Tc19.out.bel hb)
                    have Tu20 := hid (Tu19.out.bel hb)
                    have Tx20 := hid (Tx19.out.bel hb)
                    have Ty20 := hid (Ty19.out.bel hb)
                    have Tz20 := hid (Tz19.out.bel hb)
                    clear B19 Ta19 Tb19 Tc19 Tu19 Tx19 Ty19 Tz19 hb
                    go_wp2
                    go_ret
                    exact ⟨rfl, B20.out⟩
                  | true =>
                    have Hy1 := hid y1
                    clear y1
                    cases y2 : M.within lb la with
                    | false =>
                      have Hy2 := hid y2
                      clear y2
                      go_enter Tryd.func4, Tryd.ntmps4
                      go_wp2_with (go_at_call 8; refine stopHere ?_)
                      refine stopAt ?_
                      refine (fixed_any _ (HT.out.below B0.out)).mono ?_
                      rintro e w1 ⟨rfl, hb⟩
                      have B1 := hid (B0.out.trans (hb.mono B0.out.size))
                      have Ta1 := hid (Ta0.out.bel hb)
                      have Tb1 := hid (Tb0.out.bel hb)
                      have Tc1 := hid (Tc0.out.bel hb)
                      clear B0 Ta0 Tb0 Tc0 hb
                      go_wp2_with (go_at_call 12; refine stopHere ?_)
                      refine stopAt ?_
                      refine (may_any _ _ la Ta1.out (by omega)).mono ?_
                      rw [Hya.out]
                      rintro e w2 ⟨rfl, hg⟩
                      have hb := hg.below
                      have B2 := hid (B1.out.trans (hb.mono B1.out.size))
                      have Ta2 := hid (Ta1.out.bel hb)
                      have Tb2 := hid (Tb1.out.bel hb)
                      have Tc2 := hid (Tc1.out.bel hb)
                      clear B1 Ta1 Tb1 Tc1 hb hg
                      go_wp2_with (go_at_call 12; refine stopHere ?_)
                      refine stopAt ?_
                      refine (may_any _ _ lb Tb2.out (by omega)).mono ?_
                      rw [Hyb.out]
                      rintro e w3 ⟨rfl, hg⟩
                      have hb := hg.below
                      have B3 := hid (B2.out.trans (hb.mono B2.out.size))
                      have Ta3 := hid (Ta2.out.bel hb)
                      have Tb3 := hid (Tb2.out.bel hb)
                      have Tc3 := hid (Tc2.out.bel hb)
                      clear B2 Ta2 Tb2 Tc2 hb hg
                      go_wp2_with (go_at_call 12; refine stopHere ?_)
                      refine stopAt ?_
                      refine (may_any _ _ lc Tc3.out (by omega)).mono ?_
                      rw [Hyc.out]
                      rintro e w4 ⟨rfl, hg⟩
                      have hb := hg.below
                      have B4 := hid (B3.out.trans (hb.mono B3.out.size))
                      have Ta4 := hid (Ta3.out.bel hb)
                      have Tb4 := hid (Tb3.out.bel hb)
                      have Tc4 := hid (Tc3.out.bel hb)
                      clear B3 Ta3 Tb3 Tc3 hb hg
                      go_wp2_with (go_at_call 14; refine stopHere ?_)
                      refine stopAt ?_
                      refine (union_any _ _ _ la lb Ta4.out Tb4.out (by omega) (by omega)).mono ?_
                      rintro e w5 ⟨v5, rfl, hA, hb⟩
                      rw [HU.out] at hA
                      have B5 := hid (B4.out.trans (hb.mono B4.out.size))
                      have Ta5 := hid (Ta4.out.bel hb)
                      have Tb5 := hid (Tb4.out.bel hb)
                      have Tc5 := hid (Tc4.out.bel hb)
                      have Tu5 := hid hA
                      obtain ⟨q5, m5, rfl⟩ := hA.form
                      clear B4 Ta4 Tb4 Tc4 hA hb
                      go_wp2_with (go_at_call 12; refine stopHere ?_)
                      refine stopAt ?_
                      refine (may_any _ _ lu Tu5.out (by omega)).mono ?_
                      rw [E4.out]
                      rintro e w6 ⟨rfl, hg⟩
                      have hb := hg.below
                      have B6 := hid (B5.out.trans (hb.mono B5.out.size))
                      have Ta6 := hid (Ta5.out.bel hb)
                      have Tb6 := hid (Tb5.out.bel hb)
                      have Tc6 := hid (Tc5.out.bel hb)
                      have Tu6 := hid (Tu5.out.bel hb)
                      clear B5 Ta5 Tb5 Tc5 Tu5 hb hg
                      go_wp2_with (go_at_call 16; refine stopHere ?_)
                      refine stopAt ?_
                      refine (within_any _ _ _ la lu Ta6.out Tu6.out (by omega) (by omega)).mono ?_
                      rw [E5.out]
                      rintro e w7 ⟨rfl, hb⟩
                      have B7 := hid (B6.out.trans (hb.mono B6.out.size))
                      have Ta7 := hid (Ta6.out.bel hb)
                      have Tb7 := hid (Tb6.out.bel hb)
                      have Tc7 := hid (Tc6.out.bel hb)
                      have Tu7 := hid (Tu6.out.bel hb)
                      clear B6 Ta6 Tb6 Tc6 Tu6 hb
                      go_wp2_with (go_at_call 16; refine stopHere ?_)
                      refine stopAt ?_
                      refine (within_any _ _ _ lb lu Tb7.out Tu7.out (by omega) (by omega)).mono ?_
                      rw [E6.out]
                      rintro e w8 ⟨rfl, hb⟩
                      have B8 := hid (B7.out.trans (hb.mono B7.out.size))
                      have Ta8 := hid (Ta7.out.bel hb)
                      have Tb8 := hid (Tb7.out.bel hb)
                      have Tc8 := hid (Tc7.out.bel hb)
                      have Tu8 := hid (Tu7.out.bel hb)
                      clear B7 Ta7 Tb7 Tc7 Tu7 hb
                      go_wp2_with (go_at_call 14; refine stopHere ?_)
                      refine stopAt ?_
                      refine (union_any _ _ _ lb la Tb8.out Ta8.out (by omega) (by omega)).mono ?_
                      rintro e w9 ⟨v9, rfl, hA, hb⟩
                      rw [E1.out] at hA
                      have B9 := hid (B8.out.trans (hb.mono B8.out.size))
                      have Ta9 := hid (Ta8.out.bel hb)
                      have Tb9 := hid (Tb8.out.bel hb)
                      have Tc9 := hid (Tc8.out.bel hb)
                      have Tu9 := hid (Tu8.out.bel hb)
                      have Tv9 := hid hA
                      obtain ⟨q9, m9, rfl⟩ := hA.form
                      clear B8 Ta8 Tb8 Tc8 Tu8 hA hb
                      go_wp2_with (go_at_call 9; refine stopHere ?_)
                      refine stopAt ?_
                      refine (same_any _ _ _ lu lu Tu9.out Tv9.out (by omega)).mono ?_
                      rw [SS.out]
                      rintro e w10 ⟨rfl, hb⟩
                      have B10 := hid (B9.out.trans (hb.mono B9.out.size))
                      have Ta10 := hid (Ta9.out.bel hb)
                      have Tb10 := hid (Tb9.out.bel hb)
                      have Tc10 := hid (Tc9.out.bel hb)
                      have Tu10 := hid (Tu9.out.bel hb)
                      have Tv10 := hid (Tv9.out.bel hb)
                      clear B9 Ta9 Tb9 Tc9 Tu9 Tv9 hb
                      go_wp2_with (go_at_call 14; refine stopHere ?_)
                      refine stopAt ?_
                      refine (union_any _ _ _ lu la Tu10.out Ta10.out (by omega) (by omega)).mono ?_
                      rintro e w11 ⟨v11, rfl, hA, hb⟩
                      rw [E2.out] at hA
                      have B11 := hid (B10.out.trans (hb.mono B10.out.size))
                      have Ta11 := hid (Ta10.out.bel hb)
                      have Tb11 := hid (Tb10.out.bel hb)
                      have Tc11 := hid (Tc10.out.bel hb)
                      have Tu11 := hid (Tu10.out.bel hb)
                      have Tv11 := hid hA
                      obtain ⟨q11, m11, rfl⟩ := hA.form
                      clear B10 Ta10 Tb10 Tc10 Tu10 hA hb
                      go_wp2_with (go_at_call 9; refine stopHere ?_)
                      refine stopAt ?_
                      refine (same_any _ _ _ lu lu Tu11.out Tv11.out (by omega)).mono ?_
                      rw [SS.out]
                      rintro e w12 ⟨rfl, hb⟩
                      have B12 := hid (B11.out.trans (hb.mono B11.out.size))
                      have Ta12 := hid (Ta11.out.bel hb)
                      have Tb12 := hid (Tb11.out.bel hb)
                      have Tc12 := hid (Tc11.out.bel hb)
                      have Tu12 := hid (Tu11.out.bel hb)
                      have Tv12 := hid (Tv11.out.bel hb)
                      clear B11 Ta11 Tb11 Tc11 Tu11 Tv11 hb
                      go_wp2_with (go_at_call 16; refine stopHere ?_)
                      refine stopAt ?_
                      refine (within_any _ _ _ la lc Ta12.out Tc12.out (by omega) (by omega)).mono ?_
                      rw [Hx1.out]
                      rintro e w13 ⟨rfl, hb⟩
                      have B13 := hid (B12.out.trans (hb.mono B12.out.size))
                      have Ta13 := hid (Ta12.out.bel hb)
                      have Tb13 := hid (Tb12.out.bel hb)
                      have Tc13 := hid (Tc12.out.bel hb)
                      have Tu13 := hid (Tu12.out.bel hb)
                      clear B12 Ta12 Tb12 Tc12 Tu12 hb
                      go_wp2_with (go_at_call 16; refine stopHere ?_)
                      refine stopAt ?_
                      refine (within_any _ _ _ lb lc Tb13.out Tc13.out (by omega) (by omega)).mono ?_
                      rw [Hx2.out]
                      rintro e w14 ⟨rfl, hb⟩
                      have B14 := hid (B13.out.trans (hb.mono B13.out.size))
                      have Ta14 := hid (Ta13.out.bel hb)
                      have Tb14 := hid (Tb13.out.bel hb)
                      have Tc14 := hid (Tc13.out.bel hb)
                      have Tu14 := hid (Tu13.out.bel hb)
                      clear B13 Ta13 Tb13 Tc13 Tu13 hb
                      go_wp2_with (go_at_call 14; refine stopHere ?_)
                      refine stopAt ?_
                      refine (union_any _ _ _ lu lc Tu14.out Tc14.out (by omega) (by omega)).mono ?_
                      rintro e w15 ⟨v15, rfl, hA, hb⟩
                      rw [HX.out] at hA
                      have B15 := hid (B14.out.trans (hb.mono B14.out.size))
                      have Ta15 := hid (Ta14.out.bel hb)
                      have Tb15 := hid (Tb14.out.bel hb)
                      have Tc15 := hid (Tc14.out.bel hb)
                      have Tu15 := hid (Tu14.out.bel hb)
                      have Tx15 := hid hA
                      obtain ⟨q15, m15, rfl⟩ := hA.form
                      clear B14 Ta14 Tb14 Tc14 Tu14 hA hb
                      go_wp2_with (go_at_call 14; refine stopHere ?_)
                      refine stopAt ?_
                      refine (union_any _ _ _ lb lc Tb15.out Tc15.out (by omega) (by omega)).mono ?_
                      rintro e w16 ⟨v16, rfl, hA, hb⟩
                      rw [HY.out] at hA
                      have B16 := hid (B15.out.trans (hb.mono B15.out.size))
                      have Ta16 := hid (Ta15.out.bel hb)
                      have Tb16 := hid (Tb15.out.bel hb)
                      have Tc16 := hid (Tc15.out.bel hb)
                      have Tu16 := hid (Tu15.out.bel hb)
                      have Tx16 := hid (Tx15.out.bel hb)
                      have Ty16 := hid hA
                      obtain ⟨q16, m16, rfl⟩ := hA.form
                      clear B15 Ta15 Tb15 Tc15 Tu15 Tx15 hA hb
                      go_wp2_with (go_at_call 14; refine stopHere ?_)
                      refine stopAt ?_
                      refine (union_any _ _ _ la ly Ta16.out Ty16.out (by omega) (by omega)).mono ?_
                      rintro e w17 ⟨v17, rfl, hA, hb⟩
                      rw [E3.out] at hA
                      have B17 := hid (B16.out.trans (hb.mono B16.out.size))
                      have Ta17 := hid (Ta16.out.bel hb)
                      have Tb17 := hid (Tb16.out.bel hb)
                      have Tc17 := hid (Tc16.out.bel hb)
                      have Tu17 := hid (Tu16.out.bel hb)
                      have Tx17 := hid (Tx16.out.bel hb)
                      have Ty17 := hid (Ty16.out.bel hb)
                      have Tz17 := hid hA
                      obtain ⟨q17, m17, rfl⟩ := hA.form
                      clear B16 Ta16 Tb16 Tc16 Tu16 Tx16 Ty16 hA hb
                      go_wp2_with (go_at_call 9; refine stopHere ?_)
                      refine stopAt ?_
                      refine (same_any _ _ _ lx lx Tx17.out Tz17.out (by omega)).mono ?_
                      rw [SS.out]
                      rintro e w18 ⟨rfl, hb⟩
                      have B18 := hid (B17.out.trans (hb.mono B17.out.size))
                      have Ta18 := hid (Ta17.out.bel hb)
                      have Tb18 := hid (Tb17.out.bel hb)
                      have Tc18 := hid (Tc17.out.bel hb)
                      have Tu18 := hid (Tu17.out.bel hb)
                      have Tx18 := hid (Tx17.out.bel hb)
                      have Ty18 := hid (Ty17.out.bel hb)
                      have Tz18 := hid (Tz17.out.bel hb)
                      clear B17 Ta17 Tb17 Tc17 Tu17 Tx17 Ty17 Tz17 hb
                      go_wp2_with (go_at_call 16; refine stopHere ?_)
                      refine stopAt ?_
                      refine (within_any _ _ _ la lb Ta18.out Tb18.out (by omega) (by omega)).mono ?_
                      rw [Hy1.out]
                      rintro e w19 ⟨rfl, hb⟩
                      have B19 := hid (B18.out.trans (hb.mono B18.out.size))
                      have Ta19 := hid (Ta18.out.bel hb)
                      have Tb19 := hid (Tb18.out.bel hb)
                      have Tc19 := hid (Tc18.out.bel hb)
                      have Tu19 := hid (Tu18.out.bel hb)
                      have Tx19 := hid (Tx18.out.bel hb)
                      have Ty19 := hid (Ty18.out.bel hb)
                      have Tz19 := hid (Tz18.out.bel hb)
                      clear B18 Ta18 Tb18 Tc18 Tu18 Tx18 Ty18 Tz18 hb
                      go_wp2_with (go_at_call 16; refine stopHere ?_)
                      refine stopAt ?_
                      refine (within_any _ _ _ lb la Tb19.out Ta19.out (by omega) (by omega)).mono ?_
                      rw [Hy2.out]
                      rintro e w20 ⟨rfl, hb⟩
                      have B20 := hid (B19.out.trans (hb.mono B19.out.size))
                      have Ta20 := hid (Ta19.out.bel hb)
                      have Tb20 := hid (Tb19.out.bel hb)
                      have Tc20 := hid (Tc19.out.bel hb)
                      have Tu20 := hid (Tu19.out.bel hb)
                      have Tx20 := hid (Tx19.out.bel hb)
                      have Ty20 := hid (Ty19.out.bel hb)
                      have Tz20 := hid (Tz19.out.bel hb)
                      clear B19 Ta19 Tb19 Tc19 Tu19 Tx19 Ty19 Tz19 hb
                      go_wp2_with (go_at_call 9; refine stopHere ?_)
                      refine stopAt ?_
                      refine (same_any _ _ _ la lb Ta20.out Tb20.out (by omega)).mono ?_
                      rw [show M.sameB la lb = false by rw [← E8.out, Hy1.out, Hy2.out]; rfl]
                      rintro e w21 ⟨rfl, hb⟩
                      have B21 := hid (B20.out.trans (hb.mono B20.out.size))
                      have Ta21 := hid (Ta20.out.bel hb)
                      have Tb21 := hid (Tb20.out.bel hb)
                      have Tc21 := hid (Tc20.out.bel hb)
                      have Tu21 := hid (Tu20.out.bel hb)
                      have Tx21 := hid (Tx20.out.bel hb)
                      have Ty21 := hid (Ty20.out.bel hb)
                      have Tz21 := hid (Tz20.out.bel hb)
                      clear B20 Ta20 Tb20 Tc20 Tu20 Tx20 Ty20 Tz20 hb
                      go_wp2
                      go_ret
                      exact ⟨rfl, B21.out⟩
                    | true =>
                      have Hy2 := hid y2
                      clear y2
                      go_enter Tryd.func4, Tryd.ntmps4
                      go_wp2_with (go_at_call 8; refine stopHere ?_)
                      refine stopAt ?_
                      refine (fixed_any _ (HT.out.below B0.out)).mono ?_
                      rintro e w1 ⟨rfl, hb⟩
                      have B1 := hid (B0.out.trans (hb.mono B0.out.size))
                      have Ta1 := hid (Ta0.out.bel hb)
                      have Tb1 := hid (Tb0.out.bel hb)
                      have Tc1 := hid (Tc0.out.bel hb)
                      clear B0 Ta0 Tb0 Tc0 hb
                      go_wp2_with (go_at_call 12; refine stopHere ?_)
                      refine stopAt ?_
                      refine (may_any _ _ la Ta1.out (by omega)).mono ?_
                      rw [Hya.out]
                      rintro e w2 ⟨rfl, hg⟩
                      have hb := hg.below
                      have B2 := hid (B1.out.trans (hb.mono B1.out.size))
                      have Ta2 := hid (Ta1.out.bel hb)
                      have Tb2 := hid (Tb1.out.bel hb)
                      have Tc2 := hid (Tc1.out.bel hb)
                      clear B1 Ta1 Tb1 Tc1 hb hg
                      go_wp2_with (go_at_call 12; refine stopHere ?_)
                      refine stopAt ?_
                      refine (may_any _ _ lb Tb2.out (by omega)).mono ?_
                      rw [Hyb.out]
                      rintro e w3 ⟨rfl, hg⟩
                      have hb := hg.below
                      have B3 := hid (B2.out.trans (hb.mono B2.out.size))
                      have Ta3 := hid (Ta2.out.bel hb)
                      have Tb3 := hid (Tb2.out.bel hb)
                      have Tc3 := hid (Tc2.out.bel hb)
                      clear B2 Ta2 Tb2 Tc2 hb hg
                      go_wp2_with (go_at_call 12; refine stopHere ?_)
                      refine stopAt ?_
                      refine (may_any _ _ lc Tc3.out (by omega)).mono ?_
                      rw [Hyc.out]
                      rintro e w4 ⟨rfl, hg⟩
                      have hb := hg.below
                      have B4 := hid (B3.out.trans (hb.mono B3.out.size))
                      have Ta4 := hid (Ta3.out.bel hb)
                      have Tb4 := hid (Tb3.out.bel hb)
                      have Tc4 := hid (Tc3.out.bel hb)
                      clear B3 Ta3 Tb3 Tc3 hb hg
                      go_wp2_with (go_at_call 14; refine stopHere ?_)
                      refine stopAt ?_
                      refine (union_any _ _ _ la lb Ta4.out Tb4.out (by omega) (by omega)).mono ?_
                      rintro e w5 ⟨v5, rfl, hA, hb⟩
                      rw [HU.out] at hA
                      have B5 := hid (B4.out.trans (hb.mono B4.out.size))
                      have Ta5 := hid (Ta4.out.bel hb)
                      have Tb5 := hid (Tb4.out.bel hb)
                      have Tc5 := hid (Tc4.out.bel hb)
                      have Tu5 := hid hA
                      obtain ⟨q5, m5, rfl⟩ := hA.form
                      clear B4 Ta4 Tb4 Tc4 hA hb
                      go_wp2_with (go_at_call 12; refine stopHere ?_)
                      refine stopAt ?_
                      refine (may_any _ _ lu Tu5.out (by omega)).mono ?_
                      rw [E4.out]
                      rintro e w6 ⟨rfl, hg⟩
                      have hb := hg.below
                      have B6 := hid (B5.out.trans (hb.mono B5.out.size))
                      have Ta6 := hid (Ta5.out.bel hb)
                      have Tb6 := hid (Tb5.out.bel hb)
                      have Tc6 := hid (Tc5.out.bel hb)
                      have Tu6 := hid (Tu5.out.bel hb)
                      clear B5 Ta5 Tb5 Tc5 Tu5 hb hg
                      go_wp2_with (go_at_call 16; refine stopHere ?_)
                      refine stopAt ?_
                      refine (within_any _ _ _ la lu Ta6.out Tu6.out (by omega) (by omega)).mono ?_
                      rw [E5.out]
                      rintro e w7 ⟨rfl, hb⟩
                      have B7 := hid (B6.out.trans (hb.mono B6.out.size))
                      have Ta7 := hid (Ta6.out.bel hb)
                      have Tb7 := hid (Tb6.out.bel hb)
                      have Tc7 := hid (Tc6.out.bel hb)
                      have Tu7 := hid (Tu6.out.bel hb)
                      clear B6 Ta6 Tb6 Tc6 Tu6 hb
                      go_wp2_with (go_at_call 16; refine stopHere ?_)
                      refine stopAt ?_
                      refine (within_any _ _ _ lb lu Tb7.out Tu7.out (by omega) (by omega)).mono ?_
                      rw [E6.out]
                      rintro e w8 ⟨rfl, hb⟩
                      have B8 := hid (B7.out.trans (hb.mono B7.out.size))
                      have Ta8 := hid (Ta7.out.bel hb)
                      have Tb8 := hid (Tb7.out.bel hb)
                      have Tc8 := hid (Tc7.out.bel hb)
                      have Tu8 := hid (Tu7.out.bel hb)
                      clear B7 Ta7 Tb7 Tc7 Tu7 hb
                      go_wp2_with (go_at_call 14; refine stopHere ?_)
                      refine stopAt ?_
                      refine (union_any _ _ _ lb la Tb8.out Ta8.out (by omega) (by omega)).mono ?_
                      rintro e w9 ⟨v9, rfl, hA, hb⟩
                      rw [E1.out] at hA
                      have B9 := hid (B8.out.trans (hb.mono B8.out.size))
                      have Ta9 := hid (Ta8.out.bel hb)
                      have Tb9 := hid (Tb8.out.bel hb)
                      have Tc9 := hid (Tc8.out.bel hb)
                      have Tu9 := hid (Tu8.out.bel hb)
                      have Tv9 := hid hA
                      obtain ⟨q9, m9, rfl⟩ := hA.form
                      clear B8 Ta8 Tb8 Tc8 Tu8 hA hb
                      go_wp2_with (go_at_call 9; refine stopHere ?_)
                      refine stopAt ?_
                      refine (same_any _ _ _ lu lu Tu9.out Tv9.out (by omega)).mono ?_
                      rw [SS.out]
                      rintro e w10 ⟨rfl, hb⟩
                      have B10 := hid (B9.out.trans (hb.mono B9.out.size))
                      have Ta10 := hid (Ta9.out.bel hb)
                      have Tb10 := hid (Tb9.out.bel hb)
                      have Tc10 := hid (Tc9.out.bel hb)
                      have Tu10 := hid (Tu9.out.bel hb)
                      have Tv10 := hid (Tv9.out.bel hb)
                      clear B9 Ta9 Tb9 Tc9 Tu9 Tv9 hb
                      go_wp2_with (go_at_call 14; refine stopHere ?_)
                      refine stopAt ?_
                      refine (union_any _ _ _ lu la Tu10.out Ta10.out (by omega) (by omega)).mono ?_
                      rintro e w11 ⟨v11, rfl, hA, hb⟩
                      rw [E2.out] at hA
                      have B11 := hid (B10.out.trans (hb.mono B10.out.size))
                      have Ta11 := hid (Ta10.out.bel hb)
                      have Tb11 := hid (Tb10.out.bel hb)
                      have Tc11 := hid (Tc10.out.bel hb)
                      have Tu11 := hid (Tu10.out.bel hb)
                      have Tv11 := hid hA
                      obtain ⟨q11, m11, rfl⟩ := hA.form
                      clear B10 Ta10 Tb10 Tc10 Tu10 hA hb
                      go_wp2_with (go_at_call 9; refine stopHere ?_)
                      refine stopAt ?_
                      refine (same_any _ _ _ lu lu Tu11.out Tv11.out (by omega)).mono ?_
                      rw [SS.out]
                      rintro e w12 ⟨rfl, hb⟩
                      have B12 := hid (B11.out.trans (hb.mono B11.out.size))
                      have Ta12 := hid (Ta11.out.bel hb)
                      have Tb12 := hid (Tb11.out.bel hb)
                      have Tc12 := hid (Tc11.out.bel hb)
                      have Tu12 := hid (Tu11.out.bel hb)
                      have Tv12 := hid (Tv11.out.bel hb)
                      clear B11 Ta11 Tb11 Tc11 Tu11 Tv11 hb
                      go_wp2_with (go_at_call 16; refine stopHere ?_)
                      refine stopAt ?_
                      refine (within_any _ _ _ la lc Ta12.out Tc12.out (by omega) (by omega)).mono ?_
                      rw [Hx1.out]
                      rintro e w13 ⟨rfl, hb⟩
                      have B13 := hid (B12.out.trans (hb.mono B12.out.size))
                      have Ta13 := hid (Ta12.out.bel hb)
                      have Tb13 := hid (Tb12.out.bel hb)
                      have Tc13 := hid (Tc12.out.bel hb)
                      have Tu13 := hid (Tu12.out.bel hb)
                      clear B12 Ta12 Tb12 Tc12 Tu12 hb
                      go_wp2_with (go_at_call 16; refine stopHere ?_)
                      refine stopAt ?_
                      refine (within_any _ _ _ lb lc Tb13.out Tc13.out (by omega) (by omega)).mono ?_
                      rw [Hx2.out]
                      rintro e w14 ⟨rfl, hb⟩
                      have B14 := hid (B13.out.trans (hb.mono B13.out.size))
                      have Ta14 := hid (Ta13.out.bel hb)
                      have Tb14 := hid (Tb13.out.bel hb)
                      have Tc14 := hid (Tc13.out.bel hb)
                      have Tu14 := hid (Tu13.out.bel hb)
                      clear B13 Ta13 Tb13 Tc13 Tu13 hb
                      go_wp2_with (go_at_call 14; refine stopHere ?_)
                      refine stopAt ?_
                      refine (union_any _ _ _ lu lc Tu14.out Tc14.out (by omega) (by omega)).mono ?_
                      rintro e w15 ⟨v15, rfl, hA, hb⟩
                      rw [HX.out] at hA
                      have B15 := hid (B14.out.trans (hb.mono B14.out.size))
                      have Ta15 := hid (Ta14.out.bel hb)
                      have Tb15 := hid (Tb14.out.bel hb)
                      have Tc15 := hid (Tc14.out.bel hb)
                      have Tu15 := hid (Tu14.out.bel hb)
                      have Tx15 := hid hA
                      obtain ⟨q15, m15, rfl⟩ := hA.form
                      clear B14 Ta14 Tb14 Tc14 Tu14 hA hb
                      go_wp2_with (go_at_call 14; refine stopHere ?_)
                      refine stopAt ?_
                      refine (union_any _ _ _ lb lc Tb15.out Tc15.out (by omega) (by omega)).mono ?_
                      rintro e w16 ⟨v16, rfl, hA, hb⟩
                      rw [HY.out] at hA
                      have B16 := hid (B15.out.trans (hb.mono B15.out.size))
                      have Ta16 := hid (Ta15.out.bel hb)
                      have Tb16 := hid (Tb15.out.bel hb)
                      have Tc16 := hid (Tc15.out.bel hb)
                      have Tu16 := hid (Tu15.out.bel hb)
                      have Tx16 := hid (Tx15.out.bel hb)
                      have Ty16 := hid hA
                      obtain ⟨q16, m16, rfl⟩ := hA.form
                      clear B15 Ta15 Tb15 Tc15 Tu15 Tx15 hA hb
                      go_wp2_with (go_at_call 14; refine stopHere ?_)
                      refine stopAt ?_
                      refine (union_any _ _ _ la ly Ta16.out Ty16.out (by omega) (by omega)).mono ?_
                      rintro e w17 ⟨v17, rfl, hA, hb⟩
                      rw [E3.out] at hA
                      have B17 := hid (B16.out.trans (hb.mono B16.out.size))
                      have Ta17 := hid (Ta16.out.bel hb)
                      have Tb17 := hid (Tb16.out.bel hb)
                      have Tc17 := hid (Tc16.out.bel hb)
                      have Tu17 := hid (Tu16.out.bel hb)
                      have Tx17 := hid (Tx16.out.bel hb)
                      have Ty17 := hid (Ty16.out.bel hb)
                      have Tz17 := hid hA
                      obtain ⟨q17, m17, rfl⟩ := hA.form
                      clear B16 Ta16 Tb16 Tc16 Tu16 Tx16 Ty16 hA hb
                      go_wp2_with (go_at_call 9; refine stopHere ?_)
                      refine stopAt ?_
                      refine (same_any _ _ _ lx lx Tx17.out Tz17.out (by omega)).mono ?_
                      rw [SS.out]
                      rintro e w18 ⟨rfl, hb⟩
                      have B18 := hid (B17.out.trans (hb.mono B17.out.size))
                      have Ta18 := hid (Ta17.out.bel hb)
                      have Tb18 := hid (Tb17.out.bel hb)
                      have Tc18 := hid (Tc17.out.bel hb)
                      have Tu18 := hid (Tu17.out.bel hb)
                      have Tx18 := hid (Tx17.out.bel hb)
                      have Ty18 := hid (Ty17.out.bel hb)
                      have Tz18 := hid (Tz17.out.bel hb)
                      clear B17 Ta17 Tb17 Tc17 Tu17 Tx17 Ty17 Tz17 hb
                      go_wp2_with (go_at_call 16; refine stopHere ?_)
                      refine stopAt ?_
                      refine (within_any _ _ _ la lb Ta18.out Tb18.out (by omega) (by omega)).mono ?_
                      rw [Hy1.out]
                      rintro e w19 ⟨rfl, hb⟩
                      have B19 := hid (B18.out.trans (hb.mono B18.out.size))
                      have Ta19 := hid (Ta18.out.bel hb)
                      have Tb19 := hid (Tb18.out.bel hb)
                      have Tc19 := hid (Tc18.out.bel hb)
                      have Tu19 := hid (Tu18.out.bel hb)
                      have Tx19 := hid (Tx18.out.bel hb)
                      have Ty19 := hid (Ty18.out.bel hb)
                      have Tz19 := hid (Tz18.out.bel hb)
                      clear B18 Ta18 Tb18 Tc18 Tu18 Tx18 Ty18 Tz18 hb
                      go_wp2_with (go_at_call 16; refine stopHere ?_)
                      refine stopAt ?_
                      refine (within_any _ _ _ lb la Tb19.out Ta19.out (by omega) (by omega)).mono ?_
                      rw [Hy2.out]
                      rintro e w20 ⟨rfl, hb⟩
                      have B20 := hid (B19.out.trans (hb.mono B19.out.size))
                      have Ta20 := hid (Ta19.out.bel hb)
                      have Tb20 := hid (Tb19.out.bel hb)
                      have Tc20 := hid (Tc19.out.bel hb)
                      have Tu20 := hid (Tu19.out.bel hb)
                      have Tx20 := hid (Tx19.out.bel hb)
                      have Ty20 := hid (Ty19.out.bel hb)
                      have Tz20 := hid (Tz19.out.bel hb)
                      clear B19 Ta19 Tb19 Tc19 Tu19 Tx19 Ty19 Tz19 hb
                      go_wp2_with (go_at_call 9; refine stopHere ?_)
                      refine stopAt ?_
                      refine (same_any _ _ _ la lb Ta20.out Tb20.out (by omega)).mono ?_
                      rw [show M.sameB la lb = true by rw [← E8.out, Hy1.out, Hy2.out]; rfl]
                      rintro e w21 ⟨rfl, hb⟩
                      have B21 := hid (B20.out.trans (hb.mono B20.out.size))
                      have Ta21 := hid (Ta20.out.bel hb)
                      have Tb21 := hid (Tb20.out.bel hb)
                      have Tc21 := hid (Tc20.out.bel hb)
                      have Tu21 := hid (Tu20.out.bel hb)
                      have Tx21 := hid (Tx20.out.bel hb)
                      have Ty21 := hid (Ty20.out.bel hb)
                      have Tz21 := hid (Tz20.out.bel hb)
                      clear B20 Ta20 Tb20 Tc20 Tu20 Tx20 Ty20 Tz20 hb
                      go_wp2
                      go_ret
                      exact ⟨rfl, B21.out⟩
                | true =>
                  have Hx2 := hid x2
                  clear x2
                  cases y1 : M.within la lb with
                  | false =>
                    have Hy1 := hid y1
                    clear y1
                    go_enter Tryd.func4, Tryd.ntmps4
                    go_wp2_with (go_at_call 8; refine stopHere ?_)
                    refine stopAt ?_
                    refine (fixed_any _ (HT.out.below B0.out)).mono ?_
                    rintro e w1 ⟨rfl, hb⟩
                    have B1 := hid (B0.out.trans (hb.mono B0.out.size))
                    have Ta1 := hid (Ta0.out.bel hb)
                    have Tb1 := hid (Tb0.out.bel hb)
                    have Tc1 := hid (Tc0.out.bel hb)
                    clear B0 Ta0 Tb0 Tc0 hb
                    go_wp2_with (go_at_call 12; refine stopHere ?_)
                    refine stopAt ?_
                    refine (may_any _ _ la Ta1.out (by omega)).mono ?_
                    rw [Hya.out]
                    rintro e w2 ⟨rfl, hg⟩
                    have hb := hg.below
                    have B2 := hid (B1.out.trans (hb.mono B1.out.size))
                    have Ta2 := hid (Ta1.out.bel hb)
                    have Tb2 := hid (Tb1.out.bel hb)
                    have Tc2 := hid (Tc1.out.bel hb)
                    clear B1 Ta1 Tb1 Tc1 hb hg
                    go_wp2_with (go_at_call 12; refine stopHere ?_)
                    refine stopAt ?_
                    refine (may_any _ _ lb Tb2.out (by omega)).mono ?_
                    rw [Hyb.out]
                    rintro e w3 ⟨rfl, hg⟩
                    have hb := hg.below
                    have B3 := hid (B2.out.trans (hb.mono B2.out.size))
                    have Ta3 := hid (Ta2.out.bel hb)
                    have Tb3 := hid (Tb2.out.bel hb)
                    have Tc3 := hid (Tc2.out.bel hb)
                    clear B2 Ta2 Tb2 Tc2 hb hg
                    go_wp2_with (go_at_call 12; refine stopHere ?_)
                    refine stopAt ?_
                    refine (may_any _ _ lc Tc3.out (by omega)).mono ?_
                    rw [Hyc.out]
                    rintro e w4 ⟨rfl, hg⟩
                    have hb := hg.below
                    have B4 := hid (B3.out.trans (hb.mono B3.out.size))
                    have Ta4 := hid (Ta3.out.bel hb)
                    have Tb4 := hid (Tb3.out.bel hb)
                    have Tc4 := hid (Tc3.out.bel hb)
                    clear B3 Ta3 Tb3 Tc3 hb hg
                    go_wp2_with (go_at_call 14; refine stopHere ?_)
                    refine stopAt ?_
                    refine (union_any _ _ _ la lb Ta4.out Tb4.out (by omega) (by omega)).mono ?_
                    rintro e w5 ⟨v5, rfl, hA, hb⟩
                    rw [HU.out] at hA
                    have B5 := hid (B4.out.trans (hb.mono B4.out.size))
                    have Ta5 := hid (Ta4.out.bel hb)
                    have Tb5 := hid (Tb4.out.bel hb)
                    have Tc5 := hid (Tc4.out.bel hb)
                    have Tu5 := hid hA
                    obtain ⟨q5, m5, rfl⟩ := hA.form
                    clear B4 Ta4 Tb4 Tc4 hA hb
                    go_wp2_with (go_at_call 12; refine stopHere ?_)
                    refine stopAt ?_
                    refine (may_any _ _ lu Tu5.out (by omega)).mono ?_
                    rw [E4.out]
                    rintro e w6 ⟨rfl, hg⟩
                    have hb := hg.below
                    have B6 := hid (B5.out.trans (hb.mono B5.out.size))
                    have Ta6 := hid (Ta5.out.bel hb)
                    have Tb6 := hid (Tb5.out.bel hb)
                    have Tc6 := hid (Tc5.out.bel hb)
                    have Tu6 := hid (Tu5.out.bel hb)
                    clear B5 Ta5 Tb5 Tc5 Tu5 hb hg
                    go_wp2_with (go_at_call 16; refine stopHere ?_)
                    refine stopAt ?_
                    refine (within_any _ _ _ la lu Ta6.out Tu6.out (by omega) (by omega)).mono ?_
                    rw [E5.out]
                    rintro e w7 ⟨rfl, hb⟩
                    have B7 := hid (B6.out.trans (hb.mono B6.out.size))
                    have Ta7 := hid (Ta6.out.bel hb)
                    have Tb7 := hid (Tb6.out.bel hb)
                    have Tc7 := hid (Tc6.out.bel hb)
                    have Tu7 := hid (Tu6.out.bel hb)
                    clear B6 Ta6 Tb6 Tc6 Tu6 hb
                    go_wp2_with (go_at_call 16; refine stopHere ?_)
                    refine stopAt ?_
                    refine (within_any _ _ _ lb lu Tb7.out Tu7.out (by omega) (by omega)).mono ?_
                    rw [E6.out]
                    rintro e w8 ⟨rfl, hb⟩
                    have B8 := hid (B7.out.trans (hb.mono B7.out.size))
                    have Ta8 := hid (Ta7.out.bel hb)
                    have Tb8 := hid (Tb7.out.bel hb)
                    have Tc8 := hid (Tc7.out.bel hb)
                    have Tu8 := hid (Tu7.out.bel hb)
                    clear B7 Ta7 Tb7 Tc7 Tu7 hb
                    go_wp2_with (go_at_call 14; refine stopHere ?_)
                    refine stopAt ?_
                    refine (union_any _ _ _ lb la Tb8.out Ta8.out (by omega) (by omega)).mono ?_
                    rintro e w9 ⟨v9, rfl, hA, hb⟩
                    rw [E1.out] at hA
                    have B9 := hid (B8.out.trans (hb.mono B8.out.size))
                    have Ta9 := hid (Ta8.out.bel hb)
                    have Tb9 := hid (Tb8.out.bel hb)
                    have Tc9 := hid (Tc8.out.bel hb)
                    have Tu9 := hid (Tu8.out.bel hb)
                    have Tv9 := hid hA
                    obtain ⟨q9, m9, rfl⟩ := hA.form
                    clear B8 Ta8 Tb8 Tc8 Tu8 hA hb
                    go_wp2_with (go_at_call 9; refine stopHere ?_)
                    refine stopAt ?_
                    refine (same_any _ _ _ lu lu Tu9.out Tv9.out (by omega)).mono ?_
                    rw [SS.out]
                    rintro e w10 ⟨rfl, hb⟩
                    have B10 := hid (B9.out.trans (hb.mono B9.out.size))
                    have Ta10 := hid (Ta9.out.bel hb)
                    have Tb10 := hid (Tb9.out.bel hb)
                    have Tc10 := hid (Tc9.out.bel hb)
                    have Tu10 := hid (Tu9.out.bel hb)
                    have Tv10 := hid (Tv9.out.bel hb)
                    clear B9 Ta9 Tb9 Tc9 Tu9 Tv9 hb
                    go_wp2_with (go_at_call 14; refine stopHere ?_)
                    refine stopAt ?_
                    refine (union_any _ _ _ lu la Tu10.out Ta10.out (by omega) (by omega)).mono ?_
                    rintro e w11 ⟨v11, rfl, hA, hb⟩
                    rw [E2.out] at hA
                    have B11 := hid (B10.out.trans (hb.mono B10.out.size))
                    have Ta11 := hid (Ta10.out.bel hb)
                    have Tb11 := hid (Tb10.out.bel hb)
                    have Tc11 := hid (Tc10.out.bel hb)
                    have Tu11 := hid (Tu10.out.bel hb)
                    have Tv11 := hid hA
                    obtain ⟨q11, m11, rfl⟩ := hA.form
                    clear B10 Ta10 Tb10 Tc10 Tu10 hA hb
                    go_wp2_with (go_at_call 9; refine stopHere ?_)
                    refine stopAt ?_
                    refine (same_any _ _ _ lu lu Tu11.out Tv11.out (by omega)).mono ?_
                    rw [SS.out]
                    rintro e w12 ⟨rfl, hb⟩
                    have B12 := hid (B11.out.trans (hb.mono B11.out.size))
                    have Ta12 := hid (Ta11.out.bel hb)
                    have Tb12 := hid (Tb11.out.bel hb)
                    have Tc12 := hid (Tc11.out.bel hb)
                    have Tu12 := hid (Tu11.out.bel hb)
                    have Tv12 := hid (Tv11.out.bel hb)
                    clear B11 Ta11 Tb11 Tc11 Tu11 Tv11 hb
                    go_wp2_with (go_at_call 16; refine stopHere ?_)
                    refine stopAt ?_
                    refine (within_any _ _ _ la lc Ta12.out Tc12.out (by omega) (by omega)).mono ?_
                    rw [Hx1.out]
                    rintro e w13 ⟨rfl, hb⟩
                    have B13 := hid (B12.out.trans (hb.mono B12.out.size))
                    have Ta13 := hid (Ta12.out.bel hb)
                    have Tb13 := hid (Tb12.out.bel hb)
                    have Tc13 := hid (Tc12.out.bel hb)
                    have Tu13 := hid (Tu12.out.bel hb)
                    clear B12 Ta12 Tb12 Tc12 Tu12 hb
                    go_wp2_with (go_at_call 16; refine stopHere ?_)
                    refine stopAt ?_
                    refine (within_any _ _ _ lb lc Tb13.out Tc13.out (by omega) (by omega)).mono ?_
                    rw [Hx2.out]
                    rintro e w14 ⟨rfl, hb⟩
                    have B14 := hid (B13.out.trans (hb.mono B13.out.size))
                    have Ta14 := hid (Ta13.out.bel hb)
                    have Tb14 := hid (Tb13.out.bel hb)
                    have Tc14 := hid (Tc13.out.bel hb)
                    have Tu14 := hid (Tu13.out.bel hb)
                    clear B13 Ta13 Tb13 Tc13 Tu13 hb
                    go_wp2_with (go_at_call 16; refine stopHere ?_)
                    refine stopAt ?_
                    refine (within_any _ _ _ lu lc Tu14.out Tc14.out (by omega) (by omega)).mono ?_
                    rw [E7.out Hx1.out Hx2.out]
                    rintro e w15 ⟨rfl, hb⟩
                    have B15 := hid (B14.out.trans (hb.mono B14.out.size))
                    have Ta15 := hid (Ta14.out.bel hb)
                    have Tb15 := hid (Tb14.out.bel hb)
                    have Tc15 := hid (Tc14.out.bel hb)
                    have Tu15 := hid (Tu14.out.bel hb)
                    clear B14 Ta14 Tb14 Tc14 Tu14 hb
                    go_wp2_with (go_at_call 14; refine stopHere ?_)
                    refine stopAt ?_
                    refine (union_any _ _ _ lu lc Tu15.out Tc15.out (by omega) (by omega)).mono ?_
                    rintro e w16 ⟨v16, rfl, hA, hb⟩
                    rw [HX.out] at hA
                    have B16 := hid (B15.out.trans (hb.mono B15.out.size))
                    have Ta16 := hid (Ta15.out.bel hb)
                    have Tb16 := hid (Tb15.out.bel hb)
                    have Tc16 := hid (Tc15.out.bel hb)
                    have Tu16 := hid (Tu15.out.bel hb)
                    have Tx16 := hid hA
                    obtain ⟨q16, m16, rfl⟩ := hA.form
                    clear B15 Ta15 Tb15 Tc15 Tu15 hA hb
                    go_wp2_with (go_at_call 14; refine stopHere ?_)
                    refine stopAt ?_
                    refine (union_any _ _ _ lb lc Tb16.out Tc16.out (by omega) (by omega)).mono ?_
                    rintro e w17 ⟨v17, rfl, hA, hb⟩
                    rw [HY.out] at hA
                    have B17 := hid (B16.out.trans (hb.mono B16.out.size))
                    have Ta17 := hid (Ta16.out.bel hb)
                    have Tb17 := hid (Tb16.out.bel hb)
                    have Tc17 := hid (Tc16.out.bel hb)
                    have Tu17 := hid (Tu16.out.bel hb)
                    have Tx17 := hid (Tx16.out.bel hb)
                    have Ty17 := hid hA
                    obtain ⟨q17, m17, rfl⟩ := hA.form
                    clear B16 Ta16 Tb16 Tc16 Tu16 Tx16 hA hb
                    go_wp2_with (go_at_call 14; refine stopHere ?_)
                    refine stopAt ?_
                    refine (union_any _ _ _ la ly Ta17.out Ty17.out (by omega) (by omega)).mono ?_
                    rintro e w18 ⟨v18, rfl, hA, hb⟩
                    rw [E3.out] at hA
                    have B18 := hid (B17.out.trans (hb.mono B17.out.size))
                    have Ta18 := hid (Ta17.out.bel hb)
                    have Tb18 := hid (Tb17.out.bel hb)
                    have Tc18 := hid (Tc17.out.bel hb)
                    have Tu18 := hid (Tu17.out.bel hb)
                    have Tx18 := hid (Tx17.out.bel hb)
                    have Ty18 := hid (Ty17.out.bel hb)
                    have Tz18 := hid hA
                    obtain ⟨q18, m18, rfl⟩ := hA.form
                    clear B17 Ta17 Tb17 Tc17 Tu17 Tx17 Ty17 hA hb
                    go_wp2_with (go_at_call 9; refine stopHere ?_)
                    refine stopAt ?_
                    refine (same_any _ _ _ lx lx Tx18.out Tz18.out (by omega)).mono ?_
                    rw [SS.out]
                    rintro e w19 ⟨rfl, hb⟩
                    have B19 := hid (B18.out.trans (hb.mono B18.out.size))
                    have Ta19 := hid (Ta18.out.bel hb)
                    have Tb19 := hid (Tb18.out.bel hb)
                    have Tc19 := hid (Tc18.out.bel hb)
                    have Tu19 := hid (Tu18.out.bel hb)
                    have Tx19 := hid (Tx18.out.bel hb)
                    have Ty19 := hid (Ty18.out.bel hb)
                    have Tz19 := hid (Tz18.out.bel hb)
                    clear B18 Ta18 Tb18 Tc18 Tu18 Tx18 Ty18 Tz18 hb
                    go_wp2_with (go_at_call 16; refine stopHere ?_)
                    refine stopAt ?_
                    refine (within_any _ _ _ la lb Ta19.out Tb19.out (by omega) (by omega)).mono ?_
                    rw [Hy1.out]
                    rintro e w20 ⟨rfl, hb⟩
                    have B20 := hid (B19.out.trans (hb.mono B19.out.size))
                    have Ta20 := hid (Ta19.out.bel hb)
                    have Tb20 := hid (Tb19.out.bel hb)
                    have Tc20 := hid (Tc19.out.bel hb)
                    have Tu20 := hid (Tu19.out.bel hb)
                    have Tx20 := hid (Tx19.out.bel hb)
                    have Ty20 := hid (Ty19.out.bel hb)
                    have Tz20 := hid (Tz19.out.bel hb)
                    clear B19 Ta19 Tb19 Tc19 Tu19 Tx19 Ty19 Tz19 hb
                    go_wp2_with (go_at_call 9; refine stopHere ?_)
                    refine stopAt ?_
                    refine (same_any _ _ _ la lb Ta20.out Tb20.out (by omega)).mono ?_
                    rw [show M.sameB la lb = false by rw [← E8.out, Hy1.out]; rfl]
                    rintro e w21 ⟨rfl, hb⟩
                    have B21 := hid (B20.out.trans (hb.mono B20.out.size))
                    have Ta21 := hid (Ta20.out.bel hb)
                    have Tb21 := hid (Tb20.out.bel hb)
                    have Tc21 := hid (Tc20.out.bel hb)
                    have Tu21 := hid (Tu20.out.bel hb)
                    have Tx21 := hid (Tx20.out.bel hb)
                    have Ty21 := hid (Ty20.out.bel hb)
                    have Tz21 := hid (Tz20.out.bel hb)
                    clear B20 Ta20 Tb20 Tc20 Tu20 Tx20 Ty20 Tz20 hb
                    go_wp2
                    go_ret
                    exact ⟨rfl, B21.out⟩
                  | true =>
                    have Hy1 := hid y1
                    clear y1
                    cases y2 : M.within lb la with
                    | false =>
                      have Hy2 := hid y2
                      clear y2
                      go_enter Tryd.func4, Tryd.ntmps4
                      go_wp2_with (go_at_call 8; refine stopHere ?_)
                      refine stopAt ?_
                      refine (fixed_any _ (HT.out.below B0.out)).mono ?_
                      rintro e w1 ⟨rfl, hb⟩
                      have B1 := hid (B0.out.trans (hb.mono B0.out.size))
                      have Ta1 := hid (Ta0.out.bel hb)
                      have Tb1 := hid (Tb0.out.bel hb)
                      have Tc1 := hid (Tc0.out.bel hb)
                      clear B0 Ta0 Tb0 Tc0 hb
                      go_wp2_with (go_at_call 12; refine stopHere ?_)
                      refine stopAt ?_
                      refine (may_any _ _ la Ta1.out (by omega)).mono ?_
                      rw [Hya.out]
                      rintro e w2 ⟨rfl, hg⟩
                      have hb := hg.below
                      have B2 := hid (B1.out.trans (hb.mono B1.out.size))
                      have Ta2 := hid (Ta1.out.bel hb)
                      have Tb2 := hid (Tb1.out.bel hb)
                      have Tc2 := hid (Tc1.out.bel hb)
                      clear B1 Ta1 Tb1 Tc1 hb hg
                      go_wp2_with (go_at_call 12; refine stopHere ?_)
                      refine stopAt ?_
                      refine (may_any _ _ lb Tb2.out (by omega)).mono ?_
                      rw [Hyb.out]
                      rintro e w3 ⟨rfl, hg⟩
                      have hb := hg.below
                      have B3 := hid (B2.out.trans (hb.mono B2.out.size))
                      have Ta3 := hid (Ta2.out.bel hb)
                      have Tb3 := hid (Tb2.out.bel hb)
                      have Tc3 := hid (Tc2.out.bel hb)
                      clear B2 Ta2 Tb2 Tc2 hb hg
                      go_wp2_with (go_at_call 12; refine stopHere ?_)
                      refine stopAt ?_
                      refine (may_any _ _ lc Tc3.out (by omega)).mono ?_
                      rw [Hyc.out]
                      rintro e w4 ⟨rfl, hg⟩
                      have hb := hg.below
                      have B4 := hid (B3.out.trans (hb.mono B3.out.size))
                      have Ta4 := hid (Ta3.out.bel hb)
                      have Tb4 := hid (Tb3.out.bel hb)
                      have Tc4 := hid (Tc3.out.bel hb)
                      clear B3 Ta3 Tb3 Tc3 hb hg
                      go_wp2_with (go_at_call 14; refine stopHere ?_)
                      refine stopAt ?_
                      refine (union_any _ _ _ la lb Ta4.out Tb4.out (by omega) (by omega)).mono ?_
                      rintro e w5 ⟨v5, rfl, hA, hb⟩
                      rw [HU.out] at hA
                      have B5 := hid (B4.out.trans (hb.mono B4.out.size))
                      have Ta5 := hid (Ta4.out.bel hb)
                      have Tb5 := hid (Tb4.out.bel hb)
                      have Tc5 := hid (Tc4.out.bel hb)
                      have Tu5 := hid hA
                      obtain ⟨q5, m5, rfl⟩ := hA.form
                      clear B4 Ta4 Tb4 Tc4 hA hb
                      go_wp2_with (go_at_call 12; refine stopHere ?_)
                      refine stopAt ?_
                      refine (may_any _ _ lu Tu5.out (by omega)).mono ?_
                      rw [E4.out]
                      rintro e w6 ⟨rfl, hg⟩
                      have hb := hg.below
                      have B6 := hid (B5.out.trans (hb.mono B5.out.size))
                      have Ta6 := hid (Ta5.out.bel hb)
                      have Tb6 := hid (Tb5.out.bel hb)
                      have Tc6 := hid (Tc5.out.bel hb)
                      have Tu6 := hid (Tu5.out.bel hb)
                      clear B5 Ta5 Tb5 Tc5 Tu5 hb hg
                      go_wp2_with (go_at_call 16; refine stopHere ?_)
                      refine stopAt ?_
                      refine (within_any _ _ _ la lu Ta6.out Tu6.out (by omega) (by omega)).mono ?_
                      rw [E5.out]
                      rintro e w7 ⟨rfl, hb⟩
                      have B7 := hid (B6.out.trans (hb.mono B6.out.size))
                      have Ta7 := hid (Ta6.out.bel hb)
                      have Tb7 := hid (Tb6.out.bel hb)
                      have Tc7 := hid (Tc6.out.bel hb)
                      have Tu7 := hid (Tu6.out.bel hb)
                      clear B6 Ta6 Tb6 Tc6 Tu6 hb
                      go_wp2_with (go_at_call 16; refine stopHere ?_)
                      refine stopAt ?_
                      refine (within_any _ _ _ lb lu Tb7.out Tu7.out (by omega) (by omega)).mono ?_
                      rw [E6.out]
                      rintro e w8 ⟨rfl, hb⟩
                      have B8 := hid (B7.out.trans (hb.mono B7.out.size))
                      have Ta8 := hid (Ta7.out.bel hb)
                      have Tb8 := hid (Tb7.out.bel hb)
                      have Tc8 := hid (Tc7.out.bel hb)
                      have Tu8 := hid (Tu7.out.bel hb)
                      clear B7 Ta7 Tb7 Tc7 Tu7 hb
                      go_wp2_with (go_at_call 14; refine stopHere ?_)
                      refine stopAt ?_
                      refine (union_any _ _ _ lb la Tb8.out Ta8.out (by omega) (by omega)).mono ?_
                      rintro e w9 ⟨v9, rfl, hA, hb⟩
                      rw [E1.out] at hA
                      have B9 := hid (B8.out.trans (hb.mono B8.out.size))
                      have Ta9 := hid (Ta8.out.bel hb)
                      have Tb9 := hid (Tb8.out.bel hb)
                      have Tc9 := hid (Tc8.out.bel hb)
                      have Tu9 := hid (Tu8.out.bel hb)
                      have Tv9 := hid hA
                      obtain ⟨q9, m9, rfl⟩ := hA.form
                      clear B8 Ta8 Tb8 Tc8 Tu8 hA hb
                      go_wp2_with (go_at_call 9; refine stopHere ?_)
                      refine stopAt ?_
                      refine (same_any _ _ _ lu lu Tu9.out Tv9.out (by omega)).mono ?_
                      rw [SS.out]
                      rintro e w10 ⟨rfl, hb⟩
                      have B10 := hid (B9.out.trans (hb.mono B9.out.size))
                      have Ta10 := hid (Ta9.out.bel hb)
                      have Tb10 := hid (Tb9.out.bel hb)
                      have Tc10 := hid (Tc9.out.bel hb)
                      have Tu10 := hid (Tu9.out.bel hb)
                      have Tv10 := hid (Tv9.out.bel hb)
                      clear B9 Ta9 Tb9 Tc9 Tu9 Tv9 hb
                      go_wp2_with (go_at_call 14; refine stopHere ?_)
                      refine stopAt ?_
                      refine (union_any _ _ _ lu la Tu10.out Ta10.out (by omega) (by omega)).mono ?_
                      rintro e w11 ⟨v11, rfl, hA, hb⟩
                      rw [E2.out] at hA
                      have B11 := hid (B10.out.trans (hb.mono B10.out.size))
                      have Ta11 := hid (Ta10.out.bel hb)
                      have Tb11 := hid (Tb10.out.bel hb)
                      have Tc11 := hid (Tc10.out.bel hb)
                      have Tu11 := hid (Tu10.out.bel hb)
                      have Tv11 := hid hA
                      obtain ⟨q11, m11, rfl⟩ := hA.form
                      clear B10 Ta10 Tb10 Tc10 Tu10 hA hb
                      go_wp2_with (go_at_call 9; refine stopHere ?_)
                      refine stopAt ?_
                      refine (same_any _ _ _ lu lu Tu11.out Tv11.out (by omega)).mono ?_
                      rw [SS.out]
                      rintro e w12 ⟨rfl, hb⟩
                      have B12 := hid (B11.out.trans (hb.mono B11.out.size))
                      have Ta12 := hid (Ta11.out.bel hb)
                      have Tb12 := hid (Tb11.out.bel hb)
                      have Tc12 := hid (Tc11.out.bel hb)
                      have Tu12 := hid (Tu11.out.bel hb)
                      have Tv12 := hid (Tv11.out.bel hb)
                      clear B11 Ta11 Tb11 Tc11 Tu11 Tv11 hb
                      go_wp2_with (go_at_call 16; refine stopHere ?_)
                      refine stopAt ?_
                      refine (within_any _ _ _ la lc Ta12.out Tc12.out (by omega) (by omega)).mono ?_
                      rw [Hx1.out]
                      rintro e w13 ⟨rfl, hb⟩
                      have B13 := hid (B12.out.trans (hb.mono B12.out.size))
                      have Ta13 := hid (Ta12.out.bel hb)
                      have Tb13 := hid (Tb12.out.bel hb)
                      have Tc13 := hid (Tc12.out.bel hb)
                      have Tu13 := hid (Tu12.out.bel hb)
                      clear B12 Ta12 Tb12 Tc12 Tu12 hb
                      go_wp2_with (go_at_call 16; refine stopHere ?_)
                      refine stopAt ?_
                      refine (within_any _ _ _ lb lc Tb13.out Tc13.out (by omega) (by omega)).mono ?_
                      rw [Hx2.out]
                      rintro e w14 ⟨rfl, hb⟩
                      have B14 := hid (B13.out.trans (hb.mono B13.out.size))
                      have Ta14 := hid (Ta13.out.bel hb)
                      have Tb14 := hid (Tb13.out.bel hb)
                      have Tc14 := hid (Tc13.out.bel hb)
                      have Tu14 := hid (Tu13.out.bel hb)
                      clear B13 Ta13 Tb13 Tc13 Tu13 hb
                      go_wp2_with (go_at_call 16; refine stopHere ?_)
                      refine stopAt ?_
                      refine (within_any _ _ _ lu lc Tu14.out Tc14.out (by omega) (by omega)).mono ?_
                      rw [E7.out Hx1.out Hx2.out]
                      rintro e w15 ⟨rfl, hb⟩
                      have B15 := hid (B14.out.trans (hb.mono B14.out.size))
                      have Ta15 := hid (Ta14.out.bel hb)
                      have Tb15 := hid (Tb14.out.bel hb)
                      have Tc15 := hid (Tc14.out.bel hb)
                      have Tu15 := hid (Tu14.out.bel hb)
                      clear B14 Ta14 Tb14 Tc14 Tu14 hb
                      go_wp2_with (go_at_call 14; refine stopHere ?_)
                      refine stopAt ?_
                      refine (union_any _ _ _ lu lc Tu15.out Tc15.out (by omega) (by omega)).mono ?_
                      rintro e w16 ⟨v16, rfl, hA, hb⟩
                      rw [HX.out] at hA
                      have B16 := hid (B15.out.trans (hb.mono B15.out.size))
                      have Ta16 := hid (Ta15.out.bel hb)
                      have Tb16 := hid (Tb15.out.bel hb)
                      have Tc16 := hid (Tc15.out.bel hb)
                      have Tu16 := hid (Tu15.out.bel hb)
                      have Tx16 := hid hA
                      obtain ⟨q16, m16, rfl⟩ := hA.form
                      clear B15 Ta15 Tb15 Tc15 Tu15 hA hb
                      go_wp2_with (go_at_call 14; refine stopHere ?_)
                      refine stopAt ?_
                      refine (union_any _ _ _ lb lc Tb16.out Tc16.out (by omega) (by omega)).mono ?_
                      rintro e w17 ⟨v17, rfl, hA, hb⟩
                      rw [HY.out] at hA
                      have B17 := hid (B16.out.trans (hb.mono B16.out.size))
                      have Ta17 := hid (Ta16.out.bel hb)
                      have Tb17 := hid (Tb16.out.bel hb)
                      have Tc17 := hid (Tc16.out.bel hb)
                      have Tu17 := hid (Tu16.out.bel hb)
                      have Tx17 := hid (Tx16.out.bel hb)
                      have Ty17 := hid hA
                      obtain ⟨q17, m17, rfl⟩ := hA.form
                      clear B16 Ta16 Tb16 Tc16 Tu16 Tx16 hA hb
                      go_wp2_with (go_at_call 14; refine stopHere ?_)
                      refine stopAt ?_
                      refine (union_any _ _ _ la ly Ta17.out Ty17.out (by omega) (by omega)).mono ?_
                      rintro e w18 ⟨v18, rfl, hA, hb⟩
                      rw [E3.out] at hA
                      have B18 := hid (B17.out.trans (hb.mono B17.out.size))
                      have Ta18 := hid (Ta17.out.bel hb)
                      have Tb18 := hid (Tb17.out.bel hb)
                      have Tc18 := hid (Tc17.out.bel hb)
                      have Tu18 := hid (Tu17.out.bel hb)
                      have Tx18 := hid (Tx17.out.bel hb)
                      have Ty18 := hid (Ty17.out.bel hb)
                      have Tz18 := hid hA
                      obtain ⟨q18, m18, rfl⟩ := hA.form
                      clear B17 Ta17 Tb17 Tc17 Tu17 Tx17 Ty17 hA hb
                      go_wp2_with (go_at_call 9; refine stopHere ?_)
                      refine stopAt ?_
                      refine (same_any _ _ _ lx lx Tx18.out Tz18.out (by omega)).mono ?_
                      rw [SS.out]
                      rintro e w19 ⟨rfl, hb⟩
                      have B19 := hid (B18.out.trans (hb.mono B18.out.size))
                      have Ta19 := hid (Ta18.out.bel hb)
                      have Tb19 := hid (Tb18.out.bel hb)
                      have Tc19 := hid (Tc18.out.bel hb)
                      have Tu19 := hid (Tu18.out.bel hb)
                      have Tx19 := hid (Tx18.out.bel hb)
                      have Ty19 := hid (Ty18.out.bel hb)
                      have Tz19 := hid (Tz18.out.bel hb)
                      clear B18 Ta18 Tb18 Tc18 Tu18 Tx18 Ty18 Tz18 hb
                      go_wp2_with (go_at_call 16; refine stopHere ?_)
                      refine stopAt ?_
                      refine (within_any _ _ _ la lb Ta19.out Tb19.out (by omega) (by omega)).mono ?_
                      rw [Hy1.out]
                      rintro e w20 ⟨rfl, hb⟩
                      have B20 := hid (B19.out.trans (hb.mono B19.out.size))
                      have Ta20 := hid (Ta19.out.bel hb)
                      have Tb20 := hid (Tb19.out.bel hb)
                      have Tc20 := hid (Tc19.out.bel hb)
                      have Tu20 := hid (Tu19.out.bel hb)
                      have Tx20 := hid (Tx19.out.bel hb)
                      have Ty20 := hid (Ty19.out.bel hb)
                      have Tz20 := hid (Tz19.out.bel hb)
                      clear B19 Ta19 Tb19 Tc19 Tu19 Tx19 Ty19 Tz19 hb
                      go_wp2_with (go_at_call 16; refine stopHere ?_)
                      refine stopAt ?_
                      refine (within_any _ _ _ lb la Tb20.out Ta20.out (by omega) (by omega)).mono ?_
                      rw [Hy2.out]
                      rintro e w21 ⟨rfl, hb⟩
                      have B21 := hid (B20.out.trans (hb.mono B20.out.size))
                      have Ta21 := hid (Ta20.out.bel hb)
                      have Tb21 := hid (Tb20.out.bel hb)
                      have Tc21 := hid (Tc20.out.bel hb)
                      have Tu21 := hid (Tu20.out.bel hb)
                      have Tx21 := hid (Tx20.out.bel hb)
                      have Ty21 := hid (Ty20.out.bel hb)
                      have Tz21 := hid (Tz20.out.bel hb)
                      clear B20 Ta20 Tb20 Tc20 Tu20 Tx20 Ty20 Tz20 hb
                      go_wp2_with (go_at_call 9; refine stopHere ?_)
                      refine stopAt ?_
                      refine (same_any _ _ _ la lb Ta21.out Tb21.out (by omega)).mono ?_
                      rw [show M.sameB la lb = false by rw [← E8.out, Hy1.out, Hy2.out]; rfl]
                      rintro e w22 ⟨rfl, hb⟩
                      have B22 := hid (B21.out.trans (hb.mono B21.out.size))
                      have Ta22 := hid (Ta21.out.bel hb)
                      have Tb22 := hid (Tb21.out.bel hb)
                      have Tc22 := hid (Tc21.out.bel hb)
                      have Tu22 := hid (Tu21.out.bel hb)
                      have Tx22 := hid (Tx21.out.bel hb)
                      have Ty22 := hid (Ty21.out.bel hb)
                      have Tz22 := hid (Tz21.out.bel hb)
                      clear B21 Ta21 Tb21 Tc21 Tu21 Tx21 Ty21 Tz21 hb
                      go_wp2
                      go_ret
                      exact ⟨rfl, B22.out⟩
                    | true =>
                      have Hy2 := hid y2
                      clear y2
                      go_enter Tryd.func4, Tryd.ntmps4
                      go_wp2_with (go_at_call 8; refine stopHere ?_)
                      refine stopAt ?_
                      refine (fixed_any _ (HT.out.below B0.out)).mono ?_
                      rintro e w1 ⟨rfl, hb⟩
                      have B1 := hid (B0.out.trans (hb.mono B0.out.size))
                      have Ta1 := hid (Ta0.out.bel hb)
                      have Tb1 := hid (Tb0.out.bel hb)
                      have Tc1 := hid (Tc0.out.bel hb)
                      clear B0 Ta0 Tb0 Tc0 hb
                      go_wp2_with (go_at_call 12; refine stopHere ?_)
                      refine stopAt ?_
                      refine (may_any _ _ la Ta1.out (by omega)).mono ?_
                      rw [Hya.out]
                      rintro e w2 ⟨rfl, hg⟩
                      have hb := hg.below
                      have B2 := hid (B1.out.trans (hb.mono B1.out.size))
                      have Ta2 := hid (Ta1.out.bel hb)
                      have Tb2 := hid (Tb1.out.bel hb)
                      have Tc2 := hid (Tc1.out.bel hb)
                      clear B1 Ta1 Tb1 Tc1 hb hg
                      go_wp2_with (go_at_call 12; refine stopHere ?_)
                      refine stopAt ?_
                      refine (may_any _ _ lb Tb2.out (by omega)).mono ?_
                      rw [Hyb.out]
                      rintro e w3 ⟨rfl, hg⟩
                      have hb := hg.below
                      have B3 := hid (B2.out.trans (hb.mono B2.out.size))
                      have Ta3 := hid (Ta2.out.bel hb)
                      have Tb3 := hid (Tb2.out.bel hb)
                      have Tc3 := hid (Tc2.out.bel hb)
                      clear B2 Ta2 Tb2 Tc2 hb hg
                      go_wp2_with (go_at_call 12; refine stopHere ?_)
                      refine stopAt ?_
                      refine (may_any _ _ lc Tc3.out (by omega)).mono ?_
                      rw [Hyc.out]
                      rintro e w4 ⟨rfl, hg⟩
                      have hb := hg.below
                      have B4 := hid (B3.out.trans (hb.mono B3.out.size))
                      have Ta4 := hid (Ta3.out.bel hb)
                      have Tb4 := hid (Tb3.out.bel hb)
                      have Tc4 := hid (Tc3.out.bel hb)
                      clear B3 Ta3 Tb3 Tc3 hb hg
                      go_wp2_with (go_at_call 14; refine stopHere ?_)
                      refine stopAt ?_
                      refine (union_any _ _ _ la lb Ta4.out Tb4.out (by omega) (by omega)).mono ?_
                      rintro e w5 ⟨v5, rfl, hA, hb⟩
                      rw [HU.out] at hA
                      have B5 := hid (B4.out.trans (hb.mono B4.out.size))
                      have Ta5 := hid (Ta4.out.bel hb)
                      have Tb5 := hid (Tb4.out.bel hb)
                      have Tc5 := hid (Tc4.out.bel hb)
                      have Tu5 := hid hA
                      obtain ⟨q5, m5, rfl⟩ := hA.form
                      clear B4 Ta4 Tb4 Tc4 hA hb
                      go_wp2_with (go_at_call 12; refine stopHere ?_)
                      refine stopAt ?_
                      refine (may_any _ _ lu Tu5.out (by omega)).mono ?_
                      rw [E4.out]
                      rintro e w6 ⟨rfl, hg⟩
                      have hb := hg.below
                      have B6 := hid (B5.out.trans (hb.mono B5.out.size))
                      have Ta6 := hid (Ta5.out.bel hb)
                      have Tb6 := hid (Tb5.out.bel hb)
                      have Tc6 := hid (Tc5.out.bel hb)
                      have Tu6 := hid (Tu5.out.bel hb)
                      clear B5 Ta5 Tb5 Tc5 Tu5 hb hg
                      go_wp2_with (go_at_call 16; refine stopHere ?_)
                      refine stopAt ?_
                      refine (within_any _ _ _ la lu Ta6.out Tu6.out (by omega) (by omega)).mono ?_
                      rw [E5.out]
                      rintro e w7 ⟨rfl, hb⟩
                      have B7 := hid (B6.out.trans (hb.mono B6.out.size))
                      have Ta7 := hid (Ta6.out.bel hb)
                      have Tb7 := hid (Tb6.out.bel hb)
                      have Tc7 := hid (Tc6.out.bel hb)
                      have Tu7 := hid (Tu6.out.bel hb)
                      clear B6 Ta6 Tb6 Tc6 Tu6 hb
                      go_wp2_with (go_at_call 16; refine stopHere ?_)
                      refine stopAt ?_
                      refine (within_any _ _ _ lb lu Tb7.out Tu7.out (by omega) (by omega)).mono ?_
                      rw [E6.out]
                      rintro e w8 ⟨rfl, hb⟩
                      have B8 := hid (B7.out.trans (hb.mono B7.out.size))
                      have Ta8 := hid (Ta7.out.bel hb)
                      have Tb8 := hid (Tb7.out.bel hb)
                      have Tc8 := hid (Tc7.out.bel hb)
                      have Tu8 := hid (Tu7.out.bel hb)
                      clear B7 Ta7 Tb7 Tc7 Tu7 hb
                      go_wp2_with (go_at_call 14; refine stopHere ?_)
                      refine stopAt ?_
                      refine (union_any _ _ _ lb la Tb8.out Ta8.out (by omega) (by omega)).mono ?_
                      rintro e w9 ⟨v9, rfl, hA, hb⟩
                      rw [E1.out] at hA
                      have B9 := hid (B8.out.trans (hb.mono B8.out.size))
                      have Ta9 := hid (Ta8.out.bel hb)
                      have Tb9 := hid (Tb8.out.bel hb)
                      have Tc9 := hid (Tc8.out.bel hb)
                      have Tu9 := hid (Tu8.out.bel hb)
                      have Tv9 := hid hA
                      obtain ⟨q9, m9, rfl⟩ := hA.form
                      clear B8 Ta8 Tb8 Tc8 Tu8 hA hb
                      go_wp2_with (go_at_call 9; refine stopHere ?_)
                      refine stopAt ?_
                      refine (same_any _ _ _ lu lu Tu9.out Tv9.out (by omega)).mono ?_
                      rw [SS.out]
                      rintro e w10 ⟨rfl, hb⟩
                      have B10 := hid (B9.out.trans (hb.mono B9.out.size))
                      have Ta10 := hid (Ta9.out.bel hb)
                      have Tb10 := hid (Tb9.out.bel hb)
                      have Tc10 := hid (Tc9.out.bel hb)
                      have Tu10 := hid (Tu9.out.bel hb)
                      have Tv10 := hid (Tv9.out.bel hb)
                      clear B9 Ta9 Tb9 Tc9 Tu9 Tv9 hb
                      go_wp2_with (go_at_call 14; refine stopHere ?_)
                      refine stopAt ?_
                      refine (union_any _ _ _ lu la Tu10.out Ta10.out (by omega) (by omega)).mono ?_
                      rintro e w11 ⟨v11, rfl, hA, hb⟩
                      rw [E2.out] at hA
                      have B11 := hid (B10.out.trans (hb.mono B10.out.size))
                      have Ta11 := hid (Ta10.out.bel hb)
                      have Tb11 := hid (Tb10.out.bel hb)
                      have Tc11 := hid (Tc10.out.bel hb)
                      have Tu11 := hid (Tu10.out.bel hb)
                      have Tv11 := hid hA
                      obtain ⟨q11, m11, rfl⟩ := hA.form
                      clear B10 Ta10 Tb10 Tc10 Tu10 hA hb
                      go_wp2_with (go_at_call 9; refine stopHere ?_)
                      refine stopAt ?_
                      refine (same_any _ _ _ lu lu Tu11.out Tv11.out (by omega)).mono ?_
                      rw [SS.out]
                      rintro e w12 ⟨rfl, hb⟩
                      have B12 := hid (B11.out.trans (hb.mono B11.out.size))
                      have Ta12 := hid (Ta11.out.bel hb)
                      have Tb12 := hid (Tb11.out.bel hb)
                      have Tc12 := hid (Tc11.out.bel hb)
                      have Tu12 := hid (Tu11.out.bel hb)
                      have Tv12 := hid (Tv11.out.bel hb)
                      clear B11 Ta11 Tb11 Tc11 Tu11 Tv11 hb
                      go_wp2_with (go_at_call 16; refine stopHere ?_)
                      refine stopAt ?_
                      refine (within_any _ _ _ la lc Ta12.out Tc12.out (by omega) (by omega)).mono ?_
                      rw [Hx1.out]
                      rintro e w13 ⟨rfl, hb⟩
                      have B13 := hid (B12.out.trans (hb.mono B12.out.size))
                      have Ta13 := hid (Ta12.out.bel hb)
                      have Tb13 := hid (Tb12.out.bel hb)
                      have Tc13 := hid (Tc12.out.bel hb)
                      have Tu13 := hid (Tu12.out.bel hb)
                      clear B12 Ta12 Tb12 Tc12 Tu12 hb
                      go_wp2_with (go_at_call 16; refine stopHere ?_)
                      refine stopAt ?_
                      refine (within_any _ _ _ lb lc Tb13.out Tc13.out (by omega) (by omega)).mono ?_
                      rw [Hx2.out]
                      rintro e w14 ⟨rfl, hb⟩
                      have B14 := hid (B13.out.trans (hb.mono B13.out.size))
                      have Ta14 := hid (Ta13.out.bel hb)
                      have Tb14 := hid (Tb13.out.bel hb)
                      have Tc14 := hid (Tc13.out.bel hb)
                      have Tu14 := hid (Tu13.out.bel hb)
                      clear B13 Ta13 Tb13 Tc13 Tu13 hb
                      go_wp2_with (go_at_call 16; refine stopHere ?_)
                      refine stopAt ?_
                      refine (within_any _ _ _ lu lc Tu14.out Tc14.out (by omega) (by omega)).mono ?_
                      rw [E7.out Hx1.out Hx2.out]
                      rintro e w15 ⟨rfl, hb⟩
                      have B15 := hid (B14.out.trans (hb.mono B14.out.size))
                      have Ta15 := hid (Ta14.out.bel hb)
                      have Tb15 := hid (Tb14.out.bel hb)
                      have Tc15 := hid (Tc14.out.bel hb)
                      have Tu15 := hid (Tu14.out.bel hb)
                      clear B14 Ta14 Tb14 Tc14 Tu14 hb
                      go_wp2_with (go_at_call 14; refine stopHere ?_)
                      refine stopAt ?_
                      refine (union_any _ _ _ lu lc Tu15.out Tc15.out (by omega) (by omega)).mono ?_
                      rintro e w16 ⟨v16, rfl, hA, hb⟩
                      rw [HX.out] at hA
                      have B16 := hid (B15.out.trans (hb.mono B15.out.size))
                      have Ta16 := hid (Ta15.out.bel hb)
                      have Tb16 := hid (Tb15.out.bel hb)
                      have Tc16 := hid (Tc15.out.bel hb)
                      have Tu16 := hid (Tu15.out.bel hb)
                      have Tx16 := hid hA
                      obtain ⟨q16, m16, rfl⟩ := hA.form
                      clear B15 Ta15 Tb15 Tc15 Tu15 hA hb
                      go_wp2_with (go_at_call 14; refine stopHere ?_)
                      refine stopAt ?_
                      refine (union_any _ _ _ lb lc Tb16.out Tc16.out (by omega) (by omega)).mono ?_
                      rintro e w17 ⟨v17, rfl, hA, hb⟩
                      rw [HY.out] at hA
                      have B17 := hid (B16.out.trans (hb.mono B16.out.size))
                      have Ta17 := hid (Ta16.out.bel hb)
                      have Tb17 := hid (Tb16.out.bel hb)
                      have Tc17 := hid (Tc16.out.bel hb)
                      have Tu17 := hid (Tu16.out.bel hb)
                      have Tx17 := hid (Tx16.out.bel hb)
                      have Ty17 := hid hA
                      obtain ⟨q17, m17, rfl⟩ := hA.form
                      clear B16 Ta16 Tb16 Tc16 Tu16 Tx16 hA hb
                      go_wp2_with (go_at_call 14; refine stopHere ?_)
                      refine stopAt ?_
                      refine (union_any _ _ _ la ly Ta17.out Ty17.out (by omega) (by omega)).mono ?_
                      rintro e w18 ⟨v18, rfl, hA, hb⟩
                      rw [E3.out] at hA
                      have B18 := hid (B17.out.trans (hb.mono B17.out.size))
                      have Ta18 := hid (Ta17.out.bel hb)
                      have Tb18 := hid (Tb17.out.bel hb)
                      have Tc18 := hid (Tc17.out.bel hb)
                      have Tu18 := hid (Tu17.out.bel hb)
                      have Tx18 := hid (Tx17.out.bel hb)
                      have Ty18 := hid (Ty17.out.bel hb)
                      have Tz18 := hid hA
                      obtain ⟨q18, m18, rfl⟩ := hA.form
                      clear B17 Ta17 Tb17 Tc17 Tu17 Tx17 Ty17 hA hb
                      go_wp2_with (go_at_call 9; refine stopHere ?_)
                      refine stopAt ?_
                      refine (same_any _ _ _ lx lx Tx18.out Tz18.out (by omega)).mono ?_
                      rw [SS.out]
                      rintro e w19 ⟨rfl, hb⟩
                      have B19 := hid (B18.out.trans (hb.mono B18.out.size))
                      have Ta19 := hid (Ta18.out.bel hb)
                      have Tb19 := hid (Tb18.out.bel hb)
                      have Tc19 := hid (Tc18.out.bel hb)
                      have Tu19 := hid (Tu18.out.bel hb)
                      have Tx19 := hid (Tx18.out.bel hb)
                      have Ty19 := hid (Ty18.out.bel hb)
                      have Tz19 := hid (Tz18.out.bel hb)
                      clear B18 Ta18 Tb18 Tc18 Tu18 Tx18 Ty18 Tz18 hb
                      go_wp2_with (go_at_call 16; refine stopHere ?_)
                      refine stopAt ?_
                      refine (within_any _ _ _ la lb Ta19.out Tb19.out (by omega) (by omega)).mono ?_
                      rw [Hy1.out]
                      rintro e w20 ⟨rfl, hb⟩
                      have B20 := hid (B19.out.trans (hb.mono B19.out.size))
                      have Ta20 := hid (Ta19.out.bel hb)
                      have Tb20 := hid (Tb19.out.bel hb)
                      have Tc20 := hid (Tc19.out.bel hb)
                      have Tu20 := hid (Tu19.out.bel hb)
                      have Tx20 := hid (Tx19.out.bel hb)
                      have Ty20 := hid (Ty19.out.bel hb)
                      have Tz20 := hid (Tz19.out.bel hb)
                      clear B19 Ta19 Tb19 Tc19 Tu19 Tx19 Ty19 Tz19 hb
                      go_wp2_with (go_at_call 16; refine stopHere ?_)
                      refine stopAt ?_
                      refine (within_any _ _ _ lb la Tb20.out Ta20.out (by omega) (by omega)).mono ?_
                      rw [Hy2.out]
                      rintro e w21 ⟨rfl, hb⟩
                      have B21 := hid (B20.out.trans (hb.mono B20.out.size))
                      have Ta21 := hid (Ta20.out.bel hb)
                      have Tb21 := hid (Tb20.out.bel hb)
                      have Tc21 := hid (Tc20.out.bel hb)
                      have Tu21 := hid (Tu20.out.bel hb)
                      have Tx21 := hid (Tx20.out.bel hb)
                      have Ty21 := hid (Ty20.out.bel hb)
                      have Tz21 := hid (Tz20.out.bel hb)
                      clear B20 Ta20 Tb20 Tc20 Tu20 Tx20 Ty20 Tz20 hb
                      go_wp2_with (go_at_call 9; refine stopHere ?_)
                      refine stopAt ?_
                      refine (same_any _ _ _ la lb Ta21.out Tb21.out (by omega)).mono ?_
                      rw [show M.sameB la lb = true by rw [← E8.out, Hy1.out, Hy2.out]; rfl]
                      rintro e w22 ⟨rfl, hb⟩
                      have B22 := hid (B21.out.trans (hb.mono B21.out.size))
                      have Ta22 := hid (Ta21.out.bel hb)
                      have Tb22 := hid (Tb21.out.bel hb)
                      have Tc22 := hid (Tc21.out.bel hb)
                      have Tu22 := hid (Tu21.out.bel hb)
                      have Tx22 := hid (Tx21.out.bel hb)
                      have Ty22 := hid (Ty21.out.bel hb)
                      have Tz22 := hid (Tz21.out.bel hb)
                      clear B21 Ta21 Tb21 Tc21 Tu21 Tx21 Ty21 Tz21 hb
                      go_wp2
                      go_ret
                      exact ⟨rfl, B22.out⟩
      · have cc : ((lc.length : Int) > 100) := by omega
        have ca : ¬ ((la.length : Int) > 100) := by omega
        have cb : ¬ ((lb.length : Int) > 100) := by omega
        go_enter Tryd.func4, Tryd.ntmps4
        go_wp2_with (go_at_call 8; refine stopHere ?_)
        refine stopAt ?_
        refine (fixed_any _ (HT.out.below B0.out)).mono ?_
        rintro e w1 ⟨rfl, hb⟩
        have B1 := hid (B0.out.trans (hb.mono B0.out.size))
        have Ta1 := hid (Ta0.out.bel hb)
        have Tb1 := hid (Tb0.out.bel hb)
        have Tc1 := hid (Tc0.out.bel hb)
        clear B0 Ta0 Tb0 Tc0 hb
        go_wp2_with (go_at_call 8; refine stopHere ?_)
        refine stopAt ?_
        refine (fixed_any _ (HT.out.below B1.out)).mono ?_
        rintro e w2 ⟨rfl, hb⟩
        have B2 := hid (B1.out.trans (hb.mono B1.out.size))
        have Ta2 := hid (Ta1.out.bel hb)
        have Tb2 := hid (Tb1.out.bel hb)
        have Tc2 := hid (Tc1.out.bel hb)
        clear B1 Ta1 Tb1 Tc1 hb
        go_wp2
        go_ret
        exact ⟨rfl, B2.out⟩
    · have cb : ((lb.length : Int) > 100) := by omega
      have ca : ¬ ((la.length : Int) > 100) := by omega
      go_enter Tryd.func4, Tryd.ntmps4
      go_wp2_with (go_at_call 8; refine stopHere ?_)
      refine stopAt ?_
      refine (fixed_any _ (HT.out.below B0.out)).mono ?_
      rintro e w1 ⟨rfl, hb⟩
      have B1 := hid (B0.out.trans (hb.mono B0.out.size))
      have Ta1 := hid (Ta0.out.bel hb)
      have Tb1 := hid (Tb0.out.bel hb)
      have Tc1 := hid (Tc0.out.bel hb)
      clear B0 Ta0 Tb0 Tc0 hb
      go_wp2_with (go_at_call 8; refine stopHere ?_)
      refine stopAt ?_
      refine (fixed_any _ (HT.out.below B1.out)).mono ?_
      rintro e w2 ⟨rfl, hb⟩
      have B2 := hid (B1.out.trans (hb.mono B1.out.size))
      have Ta2 := hid (Ta1.out.bel hb)
      have Tb2 := hid (Tb1.out.bel hb)
      have Tc2 := hid (Tc1.out.bel hb)
      clear B1 Ta1 Tb1 Tc1 hb
      go_wp2
      go_ret
      exact ⟨rfl, B2.out⟩
  · have ca : ((la.length : Int) > 100) := by omega
    go_enter Tryd.func4, Tryd.ntmps4
    go_wp2_with (go_at_call 8; refine stopHere ?_)
    refine stopAt ?_
    refine (fixed_any _ (HT.out.below B0.out)).mono ?_
    rintro e w1 ⟨rfl, hb⟩
    have B1 := hid (B0.out.trans (hb.mono B0.out.size))
    have Ta1 := hid (Ta0.out.bel hb)
    have Tb1 := hid (Tb0.out.bel hb)
    have Tc1 := hid (Tc0.out.bel hb)
    clear B0 Ta0 Tb0 Tc0 hb
    go_wp2_with (go_at_call 8; refine stopHere ?_)
    refine stopAt ?_
    refine (fixed_any _ (HT.out.below B1.out)).mono ?_
    rintro e w2 ⟨rfl, hb⟩
    have B2 := hid (B1.out.trans (hb.mono B1.out.size))
    have Ta2 := hid (Ta1.out.bel hb)
    have Tb2 := hid (Tb1.out.bel hb)
    have Tc2 := hid (Tc1.out.bel hb)
    clear B1 Ta1 Tb1 Tc1 hb
    go_wp2
    go_ret
    exact ⟨rfl, B2.out⟩
end AtomsUnion
end Go.Proofs.YtabffpecpfopkaaDoor
