/-
  The walk of the law AtomsRenamed: over atoms that lie in memory the call returns true and leaves all that was there as it was. Conditions: that the table of powers lies as it should.
-/
import Derived.Test.YtabffpecpfopkaaDoorB6
set_option linter.unusedVariables false
set_option linter.unusedSimpArgs false
namespace Go.Proofs.YtabffpecpfopkaaDoor
open Go.RowKit Go.Sort
namespace AtomsRenamed
set_option maxHeartbeats 4000000 in
set_option maxRecDepth 100000 in
theorem walk (w : World) (va vb : Value) (la lb : List M.Atm) (s : Int) (ha : AtAt w va la) (hb : AtAt w vb lb) (ht : TabW w) :
    Calls Tryd.prog 5 #[va, vb, .int .i64 s] w fun e w' => e = .returned (.bool true) ∧ Below w.heap.size w w' := by
  have Ta0 := hid ha
  obtain ⟨qa, ma, rfl⟩ := ha.form
  have Tb0 := hid hb
  obtain ⟨qb, mb, rfl⟩ := hb.form
  have HT := hid ht
  have B0 := hid (Below.refl w.heap.size w)
  clear ht ha hb
  by_cases na : la.length ≤ 100
  · skip
    by_cases nb : lb.length ≤ 100
    · skip
      cases ya : M.mayL la with
      | false =>
        have Hya := hid ya
        clear ya
        have ca : ¬ ((la.length : Int) > 100) := by omega
        have cb : ¬ ((lb.length : Int) > 100) := by omega
        go_enter Tryd.func5, Tryd.ntmps5
        go_wp2_with (go_at_call 8; refine stopHere ?_)
        refine stopAt ?_
        refine (fixed_any _ (HT.out.below B0.out)).mono ?_
        rintro e w1 ⟨rfl, hb⟩
        have B1 := hid (B0.out.trans (hb.mono B0.out.size))
        have Ta1 := hid (Ta0.out.bel hb)
        have Tb1 := hid (Tb0.out.bel hb)
        clear B0 Ta0 Tb0 hb
        go_wp2_with (go_at_call 12; refine stopHere ?_)
        refine stopAt ?_
        refine (may_any _ _ la Ta1.out (by omega)).mono ?_
        rw [Hya.out]
        rintro e w2 ⟨rfl, hg⟩
        have hb := hg.below
        have B2 := hid (B1.out.trans (hb.mono B1.out.size))
        have Ta2 := hid (Ta1.out.bel hb)
        have Tb2 := hid (Tb1.out.bel hb)
        clear B1 Ta1 Tb1 hb hg
        go_wp2_with (go_at_call 8; refine stopHere ?_)
        refine stopAt ?_
        refine (fixed_any _ (HT.out.below B2.out)).mono ?_
        rintro e w3 ⟨rfl, hb⟩
        have B3 := hid (B2.out.trans (hb.mono B2.out.size))
        have Ta3 := hid (Ta2.out.bel hb)
        have Tb3 := hid (Tb2.out.bel hb)
        clear B2 Ta2 Tb2 hb
        go_wp2
        go_ret
        exact ⟨rfl, B3.out⟩
      | true =>
        have Hya := hid ya
        clear ya
        cases yb : M.mayL lb with
        | false =>
          have Hyb := hid yb
          clear yb
          have ca : ¬ ((la.length : Int) > 100) := by omega
          have cb : ¬ ((lb.length : Int) > 100) := by omega
          go_enter Tryd.func5, Tryd.ntmps5
          go_wp2_with (go_at_call 8; refine stopHere ?_)
          refine stopAt ?_
          refine (fixed_any _ (HT.out.below B0.out)).mono ?_
          rintro e w1 ⟨rfl, hb⟩
          have B1 := hid (B0.out.trans (hb.mono B0.out.size))
          have Ta1 := hid (Ta0.out.bel hb)
          have Tb1 := hid (Tb0.out.bel hb)
          clear B0 Ta0 Tb0 hb
          go_wp2_with (go_at_call 12; refine stopHere ?_)
          refine stopAt ?_
          refine (may_any _ _ la Ta1.out (by omega)).mono ?_
          rw [Hya.out]
          rintro e w2 ⟨rfl, hg⟩
          have hb := hg.below
          have B2 := hid (B1.out.trans (hb.mono B1.out.size))
          have Ta2 := hid (Ta1.out.bel hb)
          have Tb2 := hid (Tb1.out.bel hb)
          clear B1 Ta1 Tb1 hb hg
          go_wp2_with (go_at_call 12; refine stopHere ?_)
          refine stopAt ?_
          refine (may_any _ _ lb Tb2.out (by omega)).mono ?_
          rw [Hyb.out]
          rintro e w3 ⟨rfl, hg⟩
          have hb := hg.below
          have B3 := hid (B2.out.trans (hb.mono B2.out.size))
          have Ta3 := hid (Ta2.out.bel hb)
          have Tb3 := hid (Tb2.out.bel hb)
          clear B2 Ta2 Tb2 hb hg
          go_wp2_with (go_at_call 8; refine stopHere ?_)
          refine stopAt ?_
          refine (fixed_any _ (HT.out.below B3.out)).mono ?_
          rintro e w4 ⟨rfl, hb⟩
          have B4 := hid (B3.out.trans (hb.mono B3.out.size))
          have Ta4 := hid (Ta3.out.bel hb)
          have Tb4 := hid (Tb3.out.bel hb)
          clear B3 Ta3 Tb3 hb
          go_wp2
          go_ret
          exact ⟨rfl, B4.out⟩
        | true =>
          have Hyb := hid yb
          clear yb
          have ca : ¬ ((la.length : Int) > 100) := by omega
          have cb : ¬ ((lb.length : Int) > 100) := by omega
          obtain ⟨lr, hlr⟩ : ∃ l, M.rename la s = l := ⟨_, rfl⟩
          obtain ⟨ls, hls⟩ : ∃ l, M.rename lb s = l := ⟨_, rfl⟩
          obtain ⟨lu, hlu⟩ : ∃ l, M.norm (la ++ lb) = l := ⟨_, rfl⟩
          obtain ⟨lx, hlx⟩ : ∃ l, M.rename lu s = l := ⟨_, rfl⟩
          have nr : lr.length ≤ 100 := by rw [← hlr]; have := M.norm_length (la.map (M.ren s)); simp at this; unfold M.rename; omega
          have ns : ls.length ≤ 100 := by rw [← hls]; have := M.norm_length (lb.map (M.ren s)); simp at this; unfold M.rename; omega
          have nu : lu.length ≤ 200 := by rw [← hlu]; have := M.norm_length (la ++ lb); simp at this; omega
          have nx : lx.length ≤ 200 := by rw [← hlx]; have := M.norm_length (lu.map (M.ren s)); simp at this; unfold M.rename; omega
          have E1 : Hid (M.has lr ⟨4, s⟩ = false) := by rw [← hlr]; exact M.rename_has _ _
          have E2 : Hid (M.rename lr s = lr) := by rw [← hlr]; exact M.rename_again _ _
          have E3 : Hid (M.mayL lr = true) := by rw [← hlr]; exact M.may_norm _
          have E4 : Hid (M.within la lb = true → M.within lr ls = true) := by rw [← hlr, ← hls]; exact M.rename_within s
          have E5 : Hid (M.norm (lr ++ ls) = lx) := by rw [← hlx, ← hlr, ← hls, ← hlu]; exact (M.rename_union _ _ _).symm
          have E6 : Hid (M.has la ⟨4, s⟩ = false → M.sameB lr la = true) := by rw [← hlr]; exact fun h => decide_eq_true (M.rename_none s Hya.out h)
          have SS : Hid (∀ l, M.sameB l l = true) := fun l => decide_eq_true rfl
          have HR := hid hlr
          have HS := hid hls
          have HU := hid hlu
          have HX := hid hlx
          clear hlr hls hlu hlx
          cases x1 : M.within la lb with
          | false =>
            have Hx1 := hid x1
            clear x1
            cases y1 : M.has la ⟨4, s⟩ with
            | false =>
              have Hy1 := hid y1
              clear y1
              go_enter Tryd.func5, Tryd.ntmps5
              go_wp2_with (go_at_call 8; refine stopHere ?_)
              refine stopAt ?_
              refine (fixed_any _ (HT.out.below B0.out)).mono ?_
              rintro e w1 ⟨rfl, hb⟩
              have B1 := hid (B0.out.trans (hb.mono B0.out.size))
              have Ta1 := hid (Ta0.out.bel hb)
              have Tb1 := hid (Tb0.out.bel hb)
              clear B0 Ta0 Tb0 hb
              go_wp2_with (go_at_call 12; refine stopHere ?_)
              refine stopAt ?_
              refine (may_any _ _ la Ta1.out (by omega)).mono ?_
              rw [Hya.out]
              rintro e w2 ⟨rfl, hg⟩
              have hb := hg.below
              have B2 := hid (B1.out.trans (hb.mono B1.out.size))
              have Ta2 := hid (Ta1.out.bel hb)
              have Tb2 := hid (Tb1.out.bel hb)
              clear B1 Ta1 Tb1 hb hg
              go_wp2_with (go_at_call 12; refine stopHere ?_)
              refine stopAt ?_
              refine (may_any _ _ lb Tb2.out (by omega)).mono ?_
              rw [Hyb.out]
              rintro e w3 ⟨rfl, hg⟩
              have hb := hg.below
              have B3 := hid (B2.out.trans (hb.mono B2.out.size))
              have Ta3 := hid (Ta2.out.bel hb)
              have Tb3 := hid (Tb2.out.bel hb)
              clear B2 Ta2 Tb2 hb hg
              go_wp2_with (go_at_call 20; refine stopHere ?_)
              refine stopAt ?_
              refine (rename_any _ _ la s Ta3.out (by omega)).mono ?_
              rintro e w4 ⟨v4, rfl, hA, hb⟩
              rw [HR.out] at hA
              have B4 := hid (B3.out.trans (hb.mono B3.out.size))
              have Ta4 := hid (Ta3.out.bel hb)
              have Tb4 := hid (Tb3.out.bel hb)
              have Tr4 := hid hA
              obtain ⟨q4, m4, rfl⟩ := hA.form
              clear B3 Ta3 Tb3 hA hb
              go_wp2_with (go_at_call 20; refine stopHere ?_)
              refine stopAt ?_
              refine (rename_any _ _ lb s Tb4.out (by omega)).mono ?_
              rintro e w5 ⟨v5, rfl, hA, hb⟩
              rw [HS.out] at hA
              have B5 := hid (B4.out.trans (hb.mono B4.out.size))
              have Ta5 := hid (Ta4.out.bel hb)
              have Tb5 := hid (Tb4.out.bel hb)
              have Tr5 := hid (Tr4.out.bel hb)
              have Ts5 := hid hA
              obtain ⟨q5, m5, rfl⟩ := hA.form
              clear B4 Ta4 Tb4 Tr4 hA hb
              go_wp2_with (go_at_call 18; refine stopHere ?_)
              refine stopAt ?_
              refine (has_any _ _ lr ⟨4, s⟩ Tr5.out (by omega)).mono ?_
              rw [E1.out]
              rintro e w6 ⟨rfl, hb⟩
              have B6 := hid (B5.out.trans (hb.mono B5.out.size))
              have Ta6 := hid (Ta5.out.bel hb)
              have Tb6 := hid (Tb5.out.bel hb)
              have Tr6 := hid (Tr5.out.bel hb)
              have Ts6 := hid (Ts5.out.bel hb)
              clear B5 Ta5 Tb5 Tr5 Ts5 hb
              go_wp2_with (go_at_call 20; refine stopHere ?_)
              refine stopAt ?_
              refine (rename_any _ _ lr s Tr6.out (by omega)).mono ?_
              rintro e w7 ⟨v7, rfl, hA, hb⟩
              rw [E2.out] at hA
              have B7 := hid (B6.out.trans (hb.mono B6.out.size))
              have Ta7 := hid (Ta6.out.bel hb)
              have Tb7 := hid (Tb6.out.bel hb)
              have Tr7 := hid (Tr6.out.bel hb)
              have Ts7 := hid (Ts6.out.bel hb)
              have Tz7 := hid hA
              obtain ⟨q7, m7, rfl⟩ := hA.form
              clear B6 Ta6 Tb6 Tr6 Ts6 hA hb
              go_wp2_with (go_at_call 9; refine stopHere ?_)
              refine stopAt ?_
              refine (same_any _ _ _ lr lr Tz7.out Tr7.out (by omega)).mono ?_
              rw [SS.out]
              rintro e w8 ⟨rfl, hb⟩
              have B8 := hid (B7.out.trans (hb.mono B7.out.size))
              have Ta8 := hid (Ta7.out.bel hb)
              have Tb8 := hid (Tb7.out.bel hb)
              have Tr8 := hid (Tr7.out.bel hb)
              have Ts8 := hid (Ts7.out.bel hb)
              have Tz8 := hid (Tz7.out.bel hb)
              clear B7 Ta7 Tb7 Tr7 Ts7 Tz7 hb
              go_wp2_with (go_at_call 12; refine stopHere ?_)
              refine stopAt ?_
              refine (may_any _ _ lr Tr8.out (by omega)).mono ?_
              rw [E3.out]
              rintro e w9 ⟨rfl, hg⟩
              have hb := hg.below
              have B9 := hid (B8.out.trans (hb.mono B8.out.size))
              have Ta9 := hid (Ta8.out.bel hb)
              have Tb9 := hid (Tb8.out.bel hb)
              have Tr9 := hid (Tr8.out.bel hb)
              have Ts9 := hid (Ts8.out.bel hb)
              clear B8 Ta8 Tb8 Tr8 Ts8 hb hg
              go_wp2_with (go_at_call 16; refine stopHere ?_)
              refine stopAt ?_
              refine (within_any _ _ _ la lb Ta9.out Tb9.out (by omega) (by omega)).mono ?_
              rw [Hx1.out]
              rintro e w10 ⟨rfl, hb⟩
              have B10 := hid (B9.out.trans (hb.mono B9.out.size))
              have Ta10 := hid (Ta9.out.bel hb)
              have Tb10 := hid (Tb9.out.bel hb)
              have Tr10 := hid (Tr9.out.bel hb)
              have Ts10 := hid (Ts9.out.bel hb)
              clear B9 Ta9 Tb9 Tr9 Ts9 hb
              go_wp2_with (go_at_call 14; refine stopHere ?_)
              refine stopAt ?_
              refine (union_any _ _ _ la lb Ta10.out Tb10.out (by omega) (by omega)).mono ?_
              rintro e w11 ⟨v11, rfl, hA, hb⟩
              rw [HU.out] at hA
              have B11 := hid (B10.out.trans (hb.mono B10.out.size))
              have Ta11 := hid (Ta10.out.bel hb)
              have Tb11 := hid (Tb10.out.bel hb)
              have Tr11 := hid (Tr10.out.bel hb)
              have Ts11 := hid (Ts10.out.bel hb)
              have Tu11 := hid hA
              obtain ⟨q11, m11, rfl⟩ := hA.form
              clear B10 Ta10 Tb10 Tr10 Ts10 hA hb
              go_wp2_with (go_at_call 20; refine stopHere ?_)
              refine stopAt ?_
              refine (rename_any _ _ lu s Tu11.out (by omega)).mono ?_
              rintro e w12 ⟨v12, rfl, hA, hb⟩
              rw [HX.out] at hA
              have B12 := hid (B11.out.trans (hb.mono B11.out.size))
              have Ta12 := hid (Ta11.out.bel hb)
              have Tb12 := hid (Tb11.out.bel hb)
              have Tr12 := hid (Tr11.out.bel hb)
              have Ts12 := hid (Ts11.out.bel hb)
              have Tu12 := hid (Tu11.out.bel hb)
              have Tx12 := hid hA
              obtain ⟨q12, m12, rfl⟩ := hA.form
              clear B11 Ta11 Tb11 Tr11 Ts11 Tu11 hA hb
              go_wp2_with (go_at_call 14; refine stopHere ?_)
              refine stopAt ?_
              refine (union_any _ _ _ lr ls Tr12.out Ts12.out (by omega) (by omega)).mono ?_
              rintro e w13 ⟨v13, rfl, hA, hb⟩
              rw [E5.out] at hA
              have B13 := hid (B12.out.trans (hb.mono B12.out.size))
              have Ta13 := hid (Ta12.out.bel hb)
              have Tb13 := hid (Tb12.out.bel hb)
              have Tr13 := hid (Tr12.out.bel hb)
              have Ts13 := hid (Ts12.out.bel hb)
              have Tu13 := hid (Tu12.out.bel hb)
              have Tx13 := hid (Tx12.out.bel hb)
              have Tz13 := hid hA
              obtain ⟨q13, m13, rfl⟩ := hA.form
              clear B12 Ta12 Tb12 Tr12 Ts12 Tu12 Tx12 hA hb
              go_wp2_with (go_at_call 9; refine stopHere ?_)
              refine stopAt ?_
              refine (same_any _ _ _ lx lx Tx13.out Tz13.out (by omega)).mono ?_
              rw [SS.out]
              rintro e w14 ⟨rfl, hb⟩
              have B14 := hid (B13.out.trans (hb.mono B13.out.size))
              have Ta14 := hid (Ta13.out.bel hb)
              have Tb14 := hid (Tb13.out.bel hb)
              have Tr14 := hid (Tr13.out.bel hb)
              have Ts14 := hid (Ts13.out.bel hb)
              have Tu14 := hid (Tu13.out.bel hb)
              have Tx14 := hid (Tx13.out.bel hb)
              have Tz14 := hid (Tz13.out.bel hb)
              clear B13 Ta13 Tb13 Tr13 Ts13 Tu13 Tx13 Tz13 hb
              go_wp2_with (go_at_call 18; refine stopHere ?_)
              refine stopAt ?_
              refine (has_any _ _ la ⟨4, s⟩ Ta14.out (by omega)).mono ?_
              rw [Hy1.out]
              rintro e w15 ⟨rfl, hb⟩
              have B15 := hid (B14.out.trans (hb.mono B14.out.size))
              have Ta15 := hid (Ta14.out.bel hb)
              have Tb15 := hid (Tb14.out.bel hb)
              have Tr15 := hid (Tr14.out.bel hb)
              have Ts15 := hid (Ts14.out.bel hb)
              have Tu15 := hid (Tu14.out.bel hb)
              have Tx15 := hid (Tx14.out.bel hb)
              have Tz15 := hid (Tz14.out.bel hb)
              clear B14 Ta14 Tb14 Tr14 Ts14 Tu14 Tx14 Tz14 hb
              go_wp2_with (go_at_call 9; refine stopHere ?_)
              refine stopAt ?_
              refine (same_any _ _ _ lr la Tr15.out Ta15.out (by omega)).mono ?_
              rw [E6.out Hy1.out]
              rintro e w16 ⟨rfl, hb⟩
              have B16 := hid (B15.out.trans (hb.mono B15.out.size))
              have Ta16 := hid (Ta15.out.bel hb)
              have Tb16 := hid (Tb15.out.bel hb)
              have Tr16 := hid (Tr15.out.bel hb)
              have Ts16 := hid (Ts15.out.bel hb)
              have Tu16 := hid (Tu15.out.bel hb)
              have Tx16 := hid (Tx15.out.bel hb)
              have Tz16 := hid (Tz15.out.bel hb)
              clear B15 Ta15 Tb15 Tr15 Ts15 Tu15 Tx15 Tz15 hb
              go_wp2
              go_ret
              exact ⟨rfl, B16.out⟩
            | true =>
              have Hy1 := hid y1
              clear y1
              go_enter Tryd.func5, Tryd.ntmps5
              go_wp2_with (go_at_call 8; refine stopHere ?_)
              refine stopAt ?_
              refine (fixed_any _ (HT.out.below B0.out)).mono ?_
              rintro e w1 ⟨rfl, hb⟩
              have B1 := hid (B0.out.trans (hb.mono B0.out.size))
              have Ta1 := hid (Ta0.out.bel hb)
              have Tb1 := hid (Tb0.out.bel hb)
              clear B0 Ta0 Tb0 hb
              go_wp2_with (go_at_call 12; refine stopHere ?_)
              refine stopAt ?_
              refine (may_any _ _ la Ta1.out (by omega)).mono ?_
              rw [Hya.out]
              rintro e w2 ⟨rfl, hg⟩
              have hb := hg.below
              have B2 := hid (B1.out.trans (hb.mono B1.out.size))
              have Ta2 := hid (Ta1.out.bel hb)
              have Tb2 := hid (Tb1.out.bel hb)
              clear B1 Ta1 Tb1 hb hg
              go_wp2_with (go_at_call 12; refine stopHere ?_)
              refine stopAt ?_
              refine (may_any _ _ lb Tb2.out (by omega)).mono ?_
              rw [Hyb.out]
              rintro e w3 ⟨rfl, hg⟩
              have hb := hg.below
              have B3 := hid (B2.out.trans (hb.mono B2.out.size))
              have Ta3 := hid (Ta2.out.bel hb)
              have Tb3 := hid (Tb2.out.bel hb)
              clear B2 Ta2 Tb2 hb hg
              go_wp2_with (go_at_call 20; refine stopHere ?_)
              refine stopAt ?_
              refine (rename_any _ _ la s Ta3.out (by omega)).mono ?_
              rintro e w4 ⟨v4, rfl, hA, hb⟩
              rw [HR.out] at hA
              have B4 := hid (B3.out.trans (hb.mono B3.out.size))
              have Ta4 := hid (Ta3.out.bel hb)
              have Tb4 := hid (Tb3.out.bel hb)
              have Tr4 := hid hA
              obtain ⟨q4, m4, rfl⟩ := hA.form
              clear B3 Ta3 Tb3 hA hb
              go_wp2_with (go_at_call 20; refine stopHere ?_)
              refine stopAt ?_
              refine (rename_any _ _ lb s Tb4.out (by omega)).mono ?_
              rintro e w5 ⟨v5, rfl, hA, hb⟩
              rw [HS.out] at hA
              have B5 := hid (B4.out.trans (hb.mono B4.out.size))
              have Ta5 := hid (Ta4.out.bel hb)
              have Tb5 := hid (Tb4.out.bel hb)
              have Tr5 := hid (Tr4.out.bel hb)
              have Ts5 := hid hA
              obtain ⟨q5, m5, rfl⟩ := hA.form
              clear B4 Ta4 Tb4 Tr4 hA hb
              go_wp2_with (go_at_call 18; refine stopHere ?_)
              refine stopAt ?_
              refine (has_any _ _ lr ⟨4, s⟩ Tr5.out (by omega)).mono ?_
              rw [E1.out]
              rintro e w6 ⟨rfl, hb⟩
              have B6 := hid (B5.out.trans (hb.mono B5.out.size))
              have Ta6 := hid (Ta5.out.bel hb)
              have Tb6 := hid (Tb5.out.bel hb)
              have Tr6 := hid (Tr5.out.bel hb)
              have Ts6 := hid (Ts5.out.bel hb)
              clear B5 Ta5 Tb5 Tr5 Ts5 hb
              go_wp2_with (go_at_call 20; refine stopHere ?_)
              refine stopAt ?_
              refine (rename_any _ _ lr s Tr6.out (by omega)).mono ?_
              rintro e w7 ⟨v7, rfl, hA, hb⟩
              rw [E2.out] at hA
              have B7 := hid (B6.out.trans (hb.mono B6.out.size))
              have Ta7 := hid (Ta6.out.bel hb)
              have Tb7 := hid (Tb6.out.bel hb)
              have Tr7 := hid (Tr6.out.bel hb)
              have Ts7 := hid (Ts6.out.bel hb)
              have Tz7 := hid hA
              obtain ⟨q7, m7, rfl⟩ := hA.form
              clear B6 Ta6 Tb6 Tr6 Ts6 hA hb
              go_wp2_with (go_at_call 9; refine stopHere ?_)
              refine stopAt ?_
              refine (same_any _ _ _ lr lr Tz7.out Tr7.out (by omega)).mono ?_
              rw [SS.out]
              rintro e w8 ⟨rfl, hb⟩
              have B8 := hid (B7.out.trans (hb.mono B7.out.size))
              have Ta8 := hid (Ta7.out.bel hb)
              have Tb8 := hid (Tb7.out.bel hb)
              have Tr8 := hid (Tr7.out.bel hb)
              have Ts8 := hid (Ts7.out.bel hb)
              have Tz8 := hid (Tz7.out.bel hb)
              clear B7 Ta7 Tb7 Tr7 Ts7 Tz7 hb
              go_wp2_with (go_at_call 12; refine stopHere ?_)
              refine stopAt ?_
              refine (may_any _ _ lr Tr8.out (by omega)).mono ?_
              rw [E3.out]
              rintro e w9 ⟨rfl, hg⟩
              have hb := hg.below
              have B9 := hid (B8.out.trans (hb.mono B8.out.size))
              have Ta9 := hid (Ta8.out.bel hb)
              have Tb9 := hid (Tb8.out.bel hb)
              have Tr9 := hid (Tr8.out.bel hb)
              have Ts9 := hid (Ts8.out.bel hb)
              clear B8 Ta8 Tb8 Tr8 Ts8 hb hg
              go_wp2_with (go_at_call 16; refine stopHere ?_)
              refine stopAt ?_
              refine (within_any _ _ _ la lb Ta9.out Tb9.out (by omega) (by omega)).mono ?_
              rw [Hx1.out]
              rintro e w10 ⟨rfl, hb⟩
              have B10 := hid (B9.out.trans (hb.mono B9.out.size))
              have Ta10 := hid (Ta9.out.bel hb)
              have Tb10 := hid (Tb9.out.bel hb)
              have Tr10 := hid (Tr9.out.bel hb)
              have Ts10 := hid (Ts9.out.bel hb)
              clear B9 Ta9 Tb9 Tr9 Ts9 hb
              go_wp2_with (go_at_call 14; refine stopHere ?_)
              refine stopAt ?_
              refine (union_any _ _ _ la lb Ta10.out Tb10.out (by omega) (by omega)).mono ?_
              rintro e w11 ⟨v11, rfl, hA, hb⟩
              rw [HU.out] at hA
              have B11 := hid (B10.out.trans (hb.mono B10.out.size))
              have Ta11 := hid (Ta10.out.bel hb)
              have Tb11 := hid (Tb10.out.bel hb)
              have Tr11 := hid (Tr10.out.bel hb)
              have Ts11 := hid (Ts10.out.bel hb)
              have Tu11 := hid hA
              obtain ⟨q11, m11, rfl⟩ := hA.form
              clear B10 Ta10 Tb10 Tr10 Ts10 hA hb
              go_wp2_with (go_at_call 20; refine stopHere ?_)
              refine stopAt ?_
              refine (rename_any _ _ lu s Tu11.out (by omega)).mono ?_
              rintro e w12 ⟨v12, rfl, hA, hb⟩
              rw [HX.out] at hA
              have B12 := hid (B11.out.trans (hb.mono B11.out.size))
              have Ta12 := hid (Ta11.out.bel hb)
              have Tb12 := hid (Tb11.out.bel hb)
              have Tr12 := hid (Tr11.out.bel hb)
              have Ts12 := hid (Ts11.out.bel hb)
              have Tu12 := hid (Tu11.out.bel hb)
              have Tx12 := hid hA
              obtain ⟨q12, m12, rfl⟩ := hA.form
              clear B11 Ta11 Tb11 Tr11 Ts11 Tu11 hA hb
              go_wp2_with (go_at_call 14; refine stopHere ?_)
              refine stopAt ?_
              refine (union_any _ _ _ lr ls Tr12.out Ts12.out (by omega) (by omega)).mono ?_
              rintro e w13 ⟨v13, rfl, hA, hb⟩
              rw [E5.out] at hA
              have B13 := hid (B12.out.trans (hb.mono B12.out.size))
              have Ta13 := hid (Ta12.out.bel hb)
              have Tb13 := hid (Tb12.out.bel hb)
              have Tr13 := hid (Tr12.out.bel hb)
              have Ts13 := hid (Ts12.out.bel hb)
              have Tu13 := hid (Tu12.out.bel hb)
              have Tx13 := hid (Tx12.out.bel hb)
              have Tz13 := hid hA
              obtain ⟨q13, m13, rfl⟩ := hA.form
              clear B12 Ta12 Tb12 Tr12 Ts12 Tu12 Tx12 hA hb
              go_wp2_with (go_at_call 9; refine stopHere ?_)
              refine stopAt ?_
              refine (same_any _ _ _ lx lx Tx13.out Tz13.out (by omega)).mono ?_
              rw [SS.out]
              rintro e w14 ⟨rfl, hb⟩
              have B14 := hid (B13.out.trans (hb.mono B13.out.size))
              have Ta14 := hid (Ta13.out.bel hb)
              have Tb14 := hid (Tb13.out.bel hb)
              have Tr14 := hid (Tr13.out.bel hb)
              have Ts14 := hid (Ts13.out.bel hb)
              have Tu14 := hid (Tu13.out.bel hb)
              have Tx14 := hid (Tx13.out.bel hb)
              have Tz14 := hid (Tz13.out.bel hb)
              clear B13 Ta13 Tb13 Tr13 Ts13 Tu13 Tx13 Tz13 hb
              go_wp2_with (go_at_call 18; refine stopHere ?_)
              refine stopAt ?_
              refine (has_any _ _ la ⟨4, s⟩ Ta14.out (by omega)).mono ?_
              rw [Hy1.out]
              rintro e w15 ⟨rfl, hb⟩
              have B15 := hid (B14.out.trans (hb.mono B14.out.size))
              have Ta15 := hid (Ta14.out.bel hb)
              have Tb15 := hid (Tb14.out.bel hb)
              have Tr15 := hid (Tr14.out.bel hb)
              have Ts15 := hid (Ts14.out.bel hb)
              have Tu15 := hid (Tu14.out.bel hb)
              have Tx15 := hid (Tx14.out.bel hb)
              have Tz15 := hid (Tz14.out.bel hb)
              clear B14 Ta14 Tb14 Tr14 Ts14 Tu14 Tx14 Tz14 hb
              go_wp2
              go_ret
              exact ⟨rfl, B15.out⟩
          | true =>
            have Hx1 := hid x1
            clear x1
            cases y1 : M.has la ⟨4, s⟩ with
            | false =>
              have Hy1 := hid y1
              clear y1
              go_enter Tryd.func5, Tryd.ntmps5
              go_wp2_with (go_at_call 8; refine stopHere ?_)
              refine stopAt ?_
              refine (fixed_any _ (HT.out.below B0.out)).mono ?_
              rintro e w1 ⟨rfl, hb⟩
              have B1 := hid (B0.out.trans (hb.mono B0.out.size))
              have Ta1 := hid (Ta0.out.bel hb)
              have Tb1 := hid (Tb0.out.bel hb)
              clear B0 Ta0 Tb0 hb
              go_wp2_with (go_at_call 12; refine stopHere ?_)
              refine stopAt ?_
              refine (may_any _ _ la Ta1.out (by omega)).mono ?_
              rw [Hya.out]
              rintro e w2 ⟨rfl, hg⟩
              have hb := hg.below
              have B2 := hid (B1.out.trans (hb.mono B1.out.size))
              have Ta2 := hid (Ta1.out.bel hb)
              have Tb2 := hid (Tb1.out.bel hb)
              clear B1 Ta1 Tb1 hb hg
              go_wp2_with (go_at_call 12; refine stopHere ?_)
              refine stopAt ?_
              refine (may_any _ _ lb Tb2.out (by omega)).mono ?_
              rw [Hyb.out]
              rintro e w3 ⟨rfl, hg⟩
              have hb := hg.below
              have B3 := hid (B2.out.trans (hb.mono B2.out.size))
              have Ta3 := hid (Ta2.out.bel hb)
              have Tb3 := hid (Tb2.out.bel hb)
              clear B2 Ta2 Tb2 hb hg
              go_wp2_with (go_at_call 20; refine stopHere ?_)
              refine stopAt ?_
              refine (rename_any _ _ la s Ta3.out (by omega)).mono ?_
              rintro e w4 ⟨v4, rfl, hA, hb⟩
              rw [HR.out] at hA
              have B4 := hid (B3.out.trans (hb.mono B3.out.size))
              have Ta4 := hid (Ta3.out.bel hb)
              have Tb4 := hid (Tb3.out.bel hb)
              have Tr4 := hid hA
              obtain ⟨q4, m4, rfl⟩ := hA.form
              clear B3 Ta3 Tb3 hA hb
              go_wp2_with (go_at_call 20; refine stopHere ?_)
              refine stopAt ?_
              refine (rename_any _ _ lb s Tb4.out (by omega)).mono ?_
              rintro e w5 ⟨v5, rfl, hA, hb⟩
              rw [HS.out] at hA
              have B5 := hid (B4.out.trans (hb.mono B4.out.size))
              have Ta5 := hid (Ta4.out.bel hb)
              have Tb5 := hid (Tb4.out.bel hb)
              have Tr5 := hid (Tr4.out.bel hb)
              have Ts5 := hid hA
              obtain ⟨q5, m5, rfl⟩ := hA.form
              clear B4 Ta4 Tb4 Tr4 hA hb
              go_wp2_with (go_at_call 18; refine stopHere ?_)
              refine stopAt ?_
              refine (has_any _ _ lr ⟨4, s⟩ Tr5.out (by omega)).mono ?_
              rw [E1.out]
              rintro e w6 ⟨rfl, hb⟩
              have B6 := hid (B5.out.trans (hb.mono B5.out.size))
              have Ta6 := hid (Ta5.out.bel hb)
              have Tb6 := hid (Tb5.out.bel hb)
              have Tr6 := hid (Tr5.out.bel hb)
              have Ts6 := hid (Ts5.out.bel hb)
              clear B5 Ta5 Tb5 Tr5 Ts5 hb
              go_wp2_with (go_at_call 20; refine stopHere ?_)
              refine stopAt ?_
              refine (rename_any _ _ lr s Tr6.out (by omega)).mono ?_
              rintro e w7 ⟨v7, rfl, hA, hb⟩
              rw [E2.out] at hA
              have B7 := hid (B6.out.trans (hb.mono B6.out.size))
              have Ta7 := hid (Ta6.out.bel hb)
              have Tb7 := hid (Tb6.out.bel hb)
              have Tr7 := hid (Tr6.out.bel hb)
              have Ts7 := hid (Ts6.out.bel hb)
              have Tz7 := hid hA
              obtain ⟨q7, m7, rfl⟩ := hA.form
              clear B6 Ta6 Tb6 Tr6 Ts6 hA hb
              go_wp2_with (go_at_call 9; refine stopHere ?_)
              refine stopAt ?_
              refine (same_any _ _ _ lr lr Tz7.out Tr7.out (by omega)).mono ?_
              rw [SS.out]
              rintro e w8 ⟨rfl, hb⟩
              have B8 := hid (B7.out.trans (hb.mono B7.out.size))
              have Ta8 := hid (Ta7.out.bel hb)
              have Tb8 := hid (Tb7.out.bel hb)
              have Tr8 := hid (Tr7.out.bel hb)
              have Ts8 := hid (Ts7.out.bel hb)
              have Tz8 := hid (Tz7.out.bel hb)
              clear B7 Ta7 Tb7 Tr7 Ts7 Tz7 hb
              go_wp2_with (go_at_call 12; refine stopHere ?_)
              refine stopAt ?_
              refine (may_any _ _ lr Tr8.out (by omega)).mono ?_
              rw [E3.out]
              rintro e w9 ⟨rfl, hg⟩
              have hb := hg.below
              have B9 := hid (B8.out.trans (hb.mono B8.out.size))
              have Ta9 := hid (Ta8.out.bel hb)
              have Tb9 := hid (Tb8.out.bel hb)
              have Tr9 := hid (Tr8.out.bel hb)
              have Ts9 := hid (Ts8.out.bel hb)
              clear B8 Ta8 Tb8 Tr8 Ts8 hb hg
              go_wp2_with (go_at_call 16; refine stopHere ?_)
              refine stopAt ?_
              refine (within_any _ _ _ la lb Ta9.out Tb9.out (by omega) (by omega)).mono ?_
              rw [Hx1.out]
              rintro e w10 ⟨rfl, hb⟩
              have B10 := hid (B9.out.trans (hb.mono B9.out.size))
              have Ta10 := hid (Ta9.out.bel hb)
              have Tb10 := hid (Tb9.out.bel hb)
              have Tr10 := hid (Tr9.out.bel hb)
              have Ts10 := hid (Ts9.out.bel hb)
              clear B9 Ta9 Tb9 Tr9 Ts9 hb
              go_wp2_with (go_at_call 16; refine stopHere ?_)
              refine stopAt ?_
              refine (within_any _ _ _ lr ls Tr10.out Ts10.out (by omega) (by omega)).mono ?_
              rw [E4.out Hx1.out]
              rintro e w11 ⟨rfl, hb⟩
              have B11 := hid (B10.out.trans (hb.mono B10.out.size))
              have Ta11 := hid (Ta10.out.bel hb)
              have Tb11 := hid (Tb10.out.bel hb)
              have Tr11 := hid (Tr10.out.bel hb)
              have Ts11 := hid (Ts10.out.bel hb)
              clear B10 Ta10 Tb10 Tr10 Ts10 hb
              go_wp2_with (go_at_call 14; refine stopHere ?_)
              refine stopAt ?_
              refine (union_any _ _ _ la lb Ta11.out Tb11.out (by omega) (by omega)).mono ?_
              rintro e w12 ⟨v12, rfl, hA, hb⟩
              rw [HU.out] at hA
              have B12 := hid (B11.out.trans (hb.mono B11.out.size))
              have Ta12 := hid (Ta11.out.bel hb)
              have Tb12 := hid (Tb11.out.bel hb)
              have Tr12 := hid (Tr11.out.bel hb)
              have Ts12 := hid (Ts11.out.bel hb)
              have Tu12 := hid hA
              obtain ⟨q12, m12, rfl⟩ := hA.form
              clear B11 Ta11 Tb11 Tr11 Ts11 hA hb
              go_wp2_with (go_at_call 20; refine stopHere ?_)
              refine stopAt ?_
              refine (rename_any _ _ lu s Tu12.out (by omega)).mono ?_
              rintro e w13 ⟨v13, rfl, hA, hb⟩
              rw [HX.out] at hA
              have B13 := hid (B12.out.trans (hb.mono B12.out.size))
              have Ta13 := hid (Ta12.out.bel hb)
              have Tb13 := hid (Tb12.out.bel hb)
              have Tr13 := hid (Tr12.out.bel hb)
              have Ts13 := hid (Ts12.out.bel hb)
              have Tu13 := hid (Tu12.out.bel hb)
              have Tx13 := hid hA
              obtain ⟨q13, m13, rfl⟩ := hA.form
              clear B12 Ta12 Tb12 Tr12 Ts12 Tu12 hA hb
              go_wp2_with (go_at_call 14; refine stopHere ?_)
              refine stopAt ?_
              refine (union_any _ _ _ lr ls Tr13.out Ts13.out (by omega) (by omega)).mono ?_
              rintro e w14 ⟨v14, rfl, hA, hb⟩
              rw [E5.out] at hA
              have B14 := hid (B13.out.trans (hb.mono B13.out.size))
              have Ta14 := hid (Ta13.out.bel hb)
              have Tb14 := hid (Tb13.out.bel hb)
              have Tr14 := hid (Tr13.out.bel hb)
              have Ts14 := hid (Ts13.out.bel hb)
              have Tu14 := hid (Tu13.out.bel hb)
              have Tx14 := hid (Tx13.out.bel hb)
              have Tz14 := hid hA
              obtain ⟨q14, m14, rfl⟩ := hA.form
              clear B13 Ta13 Tb13 Tr13 Ts13 Tu13 Tx13 hA hb
              go_wp2_with (go_at_call 9; refine stopHere ?_)
              refine stopAt ?_
              refine (same_any _ _ _ lx lx Tx14.out Tz14.out (by omega)).mono ?_
              rw [SS.out]
              rintro e w15 ⟨rfl, hb⟩
              have B15 := hid (B14.out.trans (hb.mono B14.out.size))
              have Ta15 := hid (Ta14.out.bel hb)
              have Tb15 := hid (Tb14.out.bel hb)
              have Tr15 := hid (Tr14.out.bel hb)
              have Ts15 := hid (Ts14.out.bel hb)
              have Tu15 := hid (Tu14.out.bel hb)
              have Tx15 := hid (Tx14.out.bel hb)
              have Tz15 := hid (Tz14.out.bel hb)
              clear B14 Ta14 Tb14 Tr14 Ts14 Tu14 Tx14 Tz14 hb
              go_wp2_with (go_at_call 18; refine stopHere ?_)
              refine stopAt ?_
              refine (has_any _ _ la ⟨4, s⟩ Ta15.out (by omega)).mono ?_
              rw [Hy1.out]
              rintro e w16 ⟨rfl, hb⟩
              have B16 := hid (B15.out.trans (hb.mono B15.out.size))
              have Ta16 := hid (Ta15.out.bel hb)
              have Tb16 := hid (Tb15.out.bel hb)
              have Tr16 := hid (Tr15.out.bel hb)
              have Ts16 := hid (Ts15.out.bel hb)
              have Tu16 := hid (Tu15.out.bel hb)
              have Tx16 := hid (Tx15.out.bel hb)
              have Tz16 := hid (Tz15.out.bel hb)
              clear B15 Ta15 Tb15 Tr15 Ts15 Tu15 Tx15 Tz15 hb
              go_wp2_with (go_at_call 9; refine stopHere ?_)
              refine stopAt ?_
              refine (same_any _ _ _ lr la Tr16.out Ta16.out (by omega)).mono ?_
              rw [E6.out Hy1.out]
              rintro e w17 ⟨rfl, hb⟩
              have B17 := hid (B16.out.trans (hb.mono B16.out.size))
              have Ta17 := hid (Ta16.out.bel hb)
              have Tb17 := hid (Tb16.out.bel hb)
              have Tr17 := hid (Tr16.out.bel hb)
              have Ts17 := hid (Ts16.out.bel hb)
              have Tu17 := hid (Tu16.out.bel hb)
              have Tx17 := hid (Tx16.out.bel hb)
              have Tz17 := hid (Tz16.out.bel hb)
              clear B16 Ta16 Tb16 Tr16 Ts16 Tu16 Tx16 Tz16 hb
              go_wp2
              go_ret
              exact ⟨rfl, B17.out⟩
            | true =>
              have Hy1 := hid y1
              clear y1
              go_enter Tryd.func5, Tryd.ntmps5
              go_wp2_with (go_at_call 8; refine stopHere ?_)
              refine stopAt ?_
              refine (fixed_any _ (HT.out.below B0.out)).mono ?_
              rintro e w1 ⟨rfl, hb⟩
              have B1 := hid (B0.out.trans (hb.mono B0.out.size))
              have Ta1 := hid (Ta0.out.bel hb)
              have Tb1 := hid (Tb0.out.bel hb)
              clear B0 Ta0 Tb0 hb
              go_wp2_with (go_at_call 12; refine stopHere ?_)
              refine stopAt ?_
              refine (may_any _ _ la Ta1.out (by omega)).mono ?_
              rw [Hya.out]
              rintro e w2 ⟨rfl, hg⟩
              have hb := hg.below
              have B2 := hid (B1.out.trans (hb.mono B1.out.size))
              have Ta2 := hid (Ta1.out.bel hb)
              have Tb2 := hid (Tb1.out.bel hb)
              clear B1 Ta1 Tb1 hb hg
              go_wp2_with (go_at_call 12; refine stopHere ?_)
              refine stopAt ?_
              refine (may_any _ _ lb Tb2.out (by omega)).mono ?_
              rw [Hyb.out]
              rintro e w3 ⟨rfl, hg⟩
              have hb := hg.below
              have B3 := hid (B2.out.trans (hb.mono B2.out.size))
              have Ta3 := hid (Ta2.out.bel hb)
              have Tb3 := hid (Tb2.out.bel hb)
              clear B2 Ta2 Tb2 hb hg
              go_wp2_with (go_at_call 20; refine stopHere ?_)
              refine stopAt ?_
              refine (rename_any _ _ la s Ta3.out (by omega)).mono ?_
              rintro e w4 ⟨v4, rfl, hA, hb⟩
              rw [HR.out] at hA
              have B4 := hid (B3.out.trans (hb.mono B3.out.size))
              have Ta4 := hid (Ta3.out.bel hb)
              have Tb4 := hid (Tb3.out.bel hb)
              have Tr4 := hid hA
              obtain ⟨q4, m4, rfl⟩ := hA.form
              clear B3 Ta3 Tb3 hA hb
              go_wp2_with (go_at_call 20; refine stopHere ?_)
              refine stopAt ?_
              refine (rename_any _ _ lb s Tb4.out (by omega)).mono ?_
              rintro e w5 ⟨v5, rfl, hA, hb⟩
              rw [HS.out] at hA
              have B5 := hid (B4.out.trans (hb.mono B4.out.size))
              have Ta5 := hid (Ta4.out.bel hb)
              have Tb5 := hid (Tb4.out.bel hb)
              have Tr5 := hid (Tr4.out.bel hb)
              have Ts5 := hid hA
              obtain ⟨q5, m5, rfl⟩ := hA.form
              clear B4 Ta4 Tb4 Tr4 hA hb
              go_wp2_with (go_at_call 18; refine stopHere ?_)
              refine stopAt ?_
              refine (has_any _ _ lr ⟨4, s⟩ Tr5.out (by omega)).mono ?_
              rw [E1.out]
              rintro e w6 ⟨rfl, hb⟩
              have B6 := hid (B5.out.trans (hb.mono B5.out.size))
              have Ta6 := hid (Ta5.out.bel hb)
              have Tb6 := hid (Tb5.out.bel hb)
              have Tr6 := hid (Tr5.out.bel hb)
              have Ts6 := hid (Ts5.out.bel hb)
              clear B5 Ta5 Tb5 Tr5 Ts5 hb
              go_wp2_with (go_at_call 20; refine stopHere ?_)
              refine stopAt ?_
              refine (rename_any _ _ lr s Tr6.out (by omega)).mono ?_
              rintro e w7 ⟨v7, rfl, hA, hb⟩
              rw [E2.out] at hA
              have B7 := hid (B6.out.trans (hb.mono B6.out.size))
              have Ta7 := hid (Ta6.out.bel hb)
              have Tb7 := hid (Tb6.out.bel hb)
              have Tr7 := hid (Tr6.out.bel hb)
              have Ts7 := hid (Ts6.out.bel hb)
              have Tz7 := hid hA
              obtain ⟨q7, m7, rfl⟩ := hA.form
              clear B6 Ta6 Tb6 Tr6 Ts6 hA hb
              go_wp2_with (go_at_call 9; refine stopHere ?_)
              refine stopAt ?_
              refine (same_any _ _ _ lr lr Tz7.out Tr7.out (by omega)).mono ?_
              rw [SS.out]
              rintro e w8 ⟨rfl, hb⟩
              have B8 := hid (B7.out.trans (hb.mono B7.out.size))
              have Ta8 := hid (Ta7.out.bel hb)
              have Tb8 := hid (Tb7.out.bel hb)
              have Tr8 := hid (Tr7.out.bel hb)
              have Ts8 := hid (Ts7.out.bel hb)
              have Tz8 := hid (Tz7.out.bel hb)
              clear B7 Ta7 Tb7 Tr7 Ts7 Tz7 hb
              go_wp2_with (go_at_call 12; refine stopHere ?_)
              refine stopAt ?_
              refine (may_any _ _ lr Tr8.out (by omega)).mono ?_
              rw [E3.out]
              rintro e w9 ⟨rfl, hg⟩
              have hb := hg.below
              have B9 := hid (B8.out.trans (hb.mono B8.out.size))
              have Ta9 := hid (Ta8.out.bel hb)
              have Tb9 := hid (Tb8.out.bel hb)
              have Tr9 := hid (Tr8.out.bel hb)
              have Ts9 := hid (Ts8.out.bel hb)
              clear B8 Ta8 Tb8 Tr8 Ts8 hb hg
              go_wp2_with (go_at_call 16; refine stopHere ?_)
              refine stopAt ?_
              refine (within_any _ _ _ la lb Ta9.out Tb9.out (by omega) (by omega)).mono ?_
              rw [Hx1.out]
              rintro e w10 ⟨rfl, hb⟩
              have B10 := hid (B9.out.trans (hb.mono B9.out.size))
              have Ta10 := hid (Ta9.out.bel hb)
              have Tb10 := hid (Tb9.out.bel hb)
              have Tr10 := hid (Tr9.out.bel hb)
              have Ts10 := hid (Ts9.out.bel hb)
              clear B9 Ta9 Tb9 Tr9 Ts9 hb
              go_wp2_with (go_at_call 16; refine stopHere ?_)
              refine stopAt ?_
              refine (within_any _ _ _ lr ls Tr10.out Ts10.out (by omega) (by omega)).mono ?_
              rw [E4.out Hx1.out]
              rintro e w11 ⟨rfl, hb⟩
              have B11 := hid (B10.out.trans (hb.mono B10.out.size))
              have Ta11 := hid (Ta10.out.bel hb)
              have Tb11 := hid (Tb10.out.bel hb)
              have Tr11 := hid (Tr10.out.bel hb)
              have Ts11 := hid (Ts10.out.bel hb)
              clear B10 Ta10 Tb10 Tr10 Ts10 hb
              go_wp2_with (go_at_call 14; refine stopHere ?_)
              refine stopAt ?_
              refine (union_any _ _ _ la lb Ta11.out Tb11.out (by omega) (by omega)).mono ?_
              rintro e w12 ⟨v12, rfl, hA, hb⟩
              rw [HU.out] at hA
              have B12 := hid (B11.out.trans (hb.mono B11.out.size))
              have Ta12 := hid (Ta11.out.bel hb)
              have Tb12 := hid (Tb11.out.bel hb)
              have Tr12 := hid (Tr11.out.bel hb)
              have Ts12 := hid (Ts11.out.bel hb)
              have Tu12 := hid hA
              obtain ⟨q12, m12, rfl⟩ := hA.form
              clear B11 Ta11 Tb11 Tr11 Ts11 hA hb
              go_wp2_with (go_at_call 20; refine stopHere ?_)
              refine stopAt ?_
              refine (rename_any _ _ lu s Tu12.out (by omega)).mono ?_
              rintro e w13 ⟨v13, rfl, hA, hb⟩
              rw [HX.out] at hA
              have B13 := hid (B12.out.trans (hb.mono B12.out.size))
              have Ta13 := hid (Ta12.out.bel hb)
              have Tb13 := hid (Tb12.out.bel hb)
              have Tr13 := hid (Tr12.out.bel hb)
              have Ts13 := hid (Ts12.out.bel hb)
              have Tu13 := hid (Tu12.out.bel hb)
              have Tx13 := hid hA
              obtain ⟨q13, m13, rfl⟩ := hA.form
              clear B12 Ta12 Tb12 Tr12 Ts12 Tu12 hA hb
              go_wp2_with (go_at_call 14; refine stopHere ?_)
              refine stopAt ?_
              refine (union_any _ _ _ lr ls Tr13.out Ts13.out (by omega) (by omega)).mono ?_
              rintro e w14 ⟨v14, rfl, hA, hb⟩
              rw [E5.out] at hA
              have B14 := hid (B13.out.trans (hb.mono B13.out.size))
              have Ta14 := hid (Ta13.out.bel hb)
              have Tb14 := hid (Tb13.out.bel hb)
              have Tr14 := hid (Tr13.out.bel hb)
              have Ts14 := hid (Ts13.out.bel hb)
              have Tu14 := hid (Tu13.out.bel hb)
              have Tx14 := hid (Tx13.out.bel hb)
              have Tz14 := hid hA
              obtain ⟨q14, m14, rfl⟩ := hA.form
              clear B13 Ta13 Tb13 Tr13 Ts13 Tu13 Tx13 hA hb
              go_wp2_with (go_at_call 9; refine stopHere ?_)
              refine stopAt ?_
              refine (same_any _ _ _ lx lx Tx14.out Tz14.out (by omega)).mono ?_
              rw [SS.out]
              rintro e w15 ⟨rfl, hb⟩
              have B15 := hid (B14.out.trans (hb.mono B14.out.size))
              have Ta15 := hid (Ta14.out.bel hb)
              have Tb15 := hid (Tb14.out.bel hb)
              have Tr15 := hid (Tr14.out.bel hb)
              have Ts15 := hid (Ts14.out.bel hb)
              have Tu15 := hid (Tu14.out.bel hb)
              have Tx15 := hid (Tx14.out.bel hb)
              have Tz15 := hid (Tz14.out.bel hb)
              clear B14 Ta14 Tb14 Tr14 Ts14 Tu14 Tx14 Tz14 hb
              go_wp2_with (go_at_call 18; refine stopHere ?_)
              refine stopAt ?_
              refine (has_any _ _ la ⟨4, s⟩ Ta15.out (by omega)).mono ?_
              rw [Hy1.out]
              rintro e w16 ⟨rfl, hb⟩
              have B16 := hid (B15.out.trans (hb.mono B15.out.size))
              have Ta16 := hid (Ta15.out.bel hb)
              have Tb16 := hid (Tb15.out.bel hb)
              have Tr16 := hid (Tr15.out.bel hb)
              have Ts16 := hid (Ts15.out.bel hb)
              have Tu16 := hid (Tu15.out.bel hb)
              have Tx16 := hid (Tx15.out.bel hb)
              have Tz16 := hid (Tz15.out.bel hb)
              clear B15 Ta15 Tb15 Tr15 Ts15 Tu15 Tx15 Tz15 hb
              go_wp2
              go_ret
              exact ⟨rfl, B16.out⟩
    · have cb : ((lb.length : Int) > 100) := by omega
      have ca : ¬ ((la.length : Int) > 100) := by omega
      go_enter Tryd.func5, Tryd.ntmps5
      go_wp2_with (go_at_call 8; refine stopHere ?_)
      refine stopAt ?_
      refine (fixed_any _ (HT.out.below B0.out)).mono ?_
      rintro e w1 ⟨rfl, hb⟩
      have B1 := hid (B0.out.trans (hb.mono B0.out.size))
      have Ta1 := hid (Ta0.out.bel hb)
      have Tb1 := hid (Tb0.out.bel hb)
      clear B0 Ta0 Tb0 hb
      go_wp2_with (go_at_call 8; refine stopHere ?_)
      refine stopAt ?_
      refine (fixed_any _ (HT.out.below B1.out)).mono ?_
      rintro e w2 ⟨rfl, hb⟩
      have B2 := hid (B1.out.trans (hb.mono B1.out.size))
      have Ta2 := hid (Ta1.out.bel hb)
      have Tb2 := hid (Tb1.out.bel hb)
      clear B1 Ta1 Tb1 hb
      go_wp2
      go_ret
      exact ⟨rfl, B2.out⟩
  · have ca : ((la.length : Int) > 100) := by omega
    go_enter Tryd.func5, Tryd.ntmps5
    go_wp2_with (go_at_call 8; refine stopHere ?_)
    refine stopAt ?_
    refine (fixed_any _ (HT.out.below B0.out)).mono ?_
    rintro e w1 ⟨rfl, hb⟩
    have B1 := hid (B0.out.trans (hb.mono B0.out.size))
    have Ta1 := hid (Ta0.out.bel hb)
    have Tb1 := hid (Tb0.out.bel hb)
    clear B0 Ta0 Tb0 hb
    go_wp2_with (go_at_call 8; refine stopHere ?_)
    refine stopAt ?_
    refine (fixed_any _ (HT.out.below B1.out)).mono ?_
    rintro e w2 ⟨rfl, hb⟩
    have B2 := hid (B1.out.trans (hb.mono B1.out.size))
    have Ta2 := hid (Ta1.out.bel hb)
    have Tb2 := hid (Tb1.out.bel hb)
    clear B1 Ta1 Tb1 hb
    go_wp2
    go_ret
    exact ⟨rfl, B2.out⟩
end AtomsRenamed
end Go.Proofs.YtabffpecpfopkaaDoor
