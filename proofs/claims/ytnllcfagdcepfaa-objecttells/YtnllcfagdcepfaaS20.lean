/-
  The law of what is joined, walked. No conditions.
-/
import Derived.Test.YtnllcfagdcepfaaS19
import Derived.Test.YtnllcfagdcepfaaS11
import Derived.Test.YtnllcfagdcepfaaS13
import Derived.Test.YtnllcfagdcepfaaR3
set_option linter.unusedVariables false
set_option linter.unusedSimpArgs false
namespace Go.Proofs.Ytnllcfagdcepfaa
open Go.RowKit Go.Sort
namespace M
theorem join_if {a b : Shp} (ha : mayS a = true) (hb : mayS b = true) : (if mayS a && mayS b then joinS a b else zeroS) = joinS a b := by rw [ha, hb]; rfl
theorem sm_two {a b : Shp} (ha : smallB a = true) (hb : smallB b = true) : Sm 100000 (joinS a b) := sm_mono (sm_join (small_sm ha) (small_sm hb)) (by decide)
theorem get_len {K : Nat} {s : Shp} {n : ByteArray} {x : Fld} (h : Sm K s) (hx : x = (getF s.fs n).getD zeroF) : x.vs.length ≤ K := by
  rw [hx]
  cases hg : getF s.fs n with
  | none => exact Nat.zero_le _
  | some f => exact h.2.1 f (getF_mem hg)
theorem joined_facts {a b j : Shp} {n : ByteArray} {x y z : Fld} (hj : joinS a b = j) (hx : x = (getF a.fs n).getD zeroF) (hy : y = (getF b.fs n).getD zeroF) (hz : z = (getF j.fs n).getD zeroF) :
    (getF j.fs n).isSome = ((getF a.fs n).isSome || (getF b.fs n).isSome) ∧ z.su = ((getF a.fs n).isSome && (getF b.fs n).isSome && x.su && y.su) ∧ sameB z.vs (norm (x.vs ++ y.vs)) = true := by
  have h : getF j.fs n = cmb n (getF a.fs n) (getF b.fs n) := by rw [← hj]; exact get_joinF _ _ _
  rw [h] at hz ⊢
  subst hx hy hz
  cases getF a.fs n <;> cases getF b.fs n <;> simp [cmb, suO, vsO, zeroF, sameB, norm_nil]
end M
set_option maxHeartbeats 4000000 in
set_option maxRecDepth 100000 in
theorem joined_law (w : World) (va : Value) (sa : M.Shp) (ha : ShAt w va sa) (vb : Value) (sb : M.Shp) (hb : ShAt w vb sb) (n : ByteArray) : Calls Try.prog 8 #[va, vb, .string n] w fun e w' => e = .returned (.bool true) ∧ Below w.heap.size w w' := by
  have mixed := mixedP
  have B0 := hid (Below.refl w.heap.size w)
  obtain ⟨aa, ca, ba, da, rfl⟩ := ha.form
  have Fa := hid ha
  clear ha
  obtain ⟨ab, cb, bb, db, rfl⟩ := hb.form
  have Fb := hid hb
  clear hb
  obtain ⟨V1, hV1⟩ : ∃ W, w.alloc (.cells #[.slice aa sa.fs.length ca, .slice ba sa.pr.length da] 25) = W := ⟨_, rfl⟩
  have hbx : Below w.heap.size w V1 := by rw [← hV1]; exact (gr_new _ _).below
  have Nba : Hid (V1.heap[w.heap.size]? = some (.cells #[.slice aa sa.fs.length ca, .slice ba sa.pr.length da] 25 (0, 0))) := by unfold Hid; rw [← hV1]; exact new_at _ _
  have B2 := hid (B0.out.trans (hbx.mono B0.out.size))
  have Fa2 := hid (Fa.out.bel hbx)
  have Fb2 := hid (Fb.out.bel hbx)
  clear B0 Fa Fb
  clear hbx
  obtain ⟨V3, hV3⟩ : ∃ W, V1.alloc (.cells #[.slice ab sb.fs.length cb, .slice bb sb.pr.length db] 25) = W := ⟨_, rfl⟩
  have hbx : Below V1.heap.size V1 V3 := by rw [← hV3]; exact (gr_new _ _).below
  have Nbb : Hid (V3.heap[V1.heap.size]? = some (.cells #[.slice ab sb.fs.length cb, .slice bb sb.pr.length db] 25 (0, 0))) := by unfold Hid; rw [← hV3]; exact new_at _ _
  have B4 := hid (B2.out.trans (hbx.mono B2.out.size))
  have Fa4 := hid (Fa2.out.bel hbx)
  have Fb4 := hid (Fb2.out.bel hbx)
  have Fba4 := hid (bx_bel Nba.out hbx)
  clear B2 Fa2 Fb2 Nba
  clear hbx
  go_enter Try.func8, Try.ntmps8
  obtain ⟨xba0, xba1, _⟩ := cells2 Fba4.out
  obtain ⟨xbb0, xbb1, _⟩ := cells2 Nbb.out
  go_wp2_with (first | (go_at_call 10; refine stopHere ?_))
  refine stopAt ?_
  refine (fixed_any V3).mono ?_
  rintro e w5 ⟨rfl, hb⟩
  have B5 := hid (B4.out.trans (hb.mono B4.out.size))
  have Fa5 := hid (Fa4.out.bel hb)
  have Fb5 := hid (Fb4.out.bel hb)
  have Fba5 := hid (bx_bel Fba4.out hb)
  have Fbb5 := hid (bx_bel Nbb.out hb)
  clear B4 Fa4 Fb4 Fba4 Nbb
  clear hb xba0 xba1 xbb0 xbb1 hV1 hV3
  rcases (Bool.eq_false_or_eq_true (M.smallB sa)).symm with hsa | hsa
  · obtain ⟨xba0, xba1, _⟩ := cells2 Fba5.out
    obtain ⟨xbb0, xbb1, _⟩ := cells2 Fbb5.out
    go_wp2_with (first | (go_at_call 9; refine stopHere ?_))
    refine stopAt ?_
    refine (small_any w5 _ sa Fa5.out).mono ?_
    rw [hsa]
    rintro e w6 ⟨rfl, hb⟩
    have B6 := hid (B5.out.trans (hb.mono B5.out.size))
    have Fa6 := hid (Fa5.out.bel hb)
    have Fb6 := hid (Fb5.out.bel hb)
    have Fba6 := hid (bx_bel Fba5.out hb)
    have Fbb6 := hid (bx_bel Fbb5.out hb)
    clear B5 Fa5 Fb5 Fba5 Fbb5
    clear hb xba0 xba1 xbb0 xbb1
    obtain ⟨xba0, xba1, _⟩ := cells2 Fba6.out
    obtain ⟨xbb0, xbb1, _⟩ := cells2 Fbb6.out
    go_wp2_with (first | (go_at_call 10; refine stopHere ?_))
    refine stopAt ?_
    refine (fixed_any w6).mono ?_
    rintro e w7 ⟨rfl, hb⟩
    have B7 := hid (B6.out.trans (hb.mono B6.out.size))
    have Fa7 := hid (Fa6.out.bel hb)
    have Fb7 := hid (Fb6.out.bel hb)
    have Fba7 := hid (bx_bel Fba6.out hb)
    have Fbb7 := hid (bx_bel Fbb6.out hb)
    clear B6 Fa6 Fb6 Fba6 Fbb6
    clear hb xba0 xba1 xbb0 xbb1
    go_wp2
    go_ret
    exact ⟨rfl, B7.out⟩
  obtain ⟨xba0, xba1, _⟩ := cells2 Fba5.out
  obtain ⟨xbb0, xbb1, _⟩ := cells2 Fbb5.out
  go_wp2_with (first | (go_at_call 9; refine stopHere ?_))
  refine stopAt ?_
  refine (small_any w5 _ sa Fa5.out).mono ?_
  rw [hsa]
  rintro e w6 ⟨rfl, hb⟩
  have B6 := hid (B5.out.trans (hb.mono B5.out.size))
  have Fa6 := hid (Fa5.out.bel hb)
  have Fb6 := hid (Fb5.out.bel hb)
  have Fba6 := hid (bx_bel Fba5.out hb)
  have Fbb6 := hid (bx_bel Fbb5.out hb)
  clear B5 Fa5 Fb5 Fba5 Fbb5
  clear hb xba0 xba1 xbb0 xbb1
  rcases (Bool.eq_false_or_eq_true (M.smallB sb)).symm with hsb | hsb
  · obtain ⟨xba0, xba1, _⟩ := cells2 Fba6.out
    obtain ⟨xbb0, xbb1, _⟩ := cells2 Fbb6.out
    go_wp2_with (first | (go_at_call 9; refine stopHere ?_))
    refine stopAt ?_
    refine (small_any w6 _ sb Fb6.out).mono ?_
    rw [hsb]
    rintro e w7 ⟨rfl, hb⟩
    have B7 := hid (B6.out.trans (hb.mono B6.out.size))
    have Fa7 := hid (Fa6.out.bel hb)
    have Fb7 := hid (Fb6.out.bel hb)
    have Fba7 := hid (bx_bel Fba6.out hb)
    have Fbb7 := hid (bx_bel Fbb6.out hb)
    clear B6 Fa6 Fb6 Fba6 Fbb6
    clear hb xba0 xba1 xbb0 xbb1
    obtain ⟨xba0, xba1, _⟩ := cells2 Fba7.out
    obtain ⟨xbb0, xbb1, _⟩ := cells2 Fbb7.out
    go_wp2_with (first | (go_at_call 10; refine stopHere ?_))
    refine stopAt ?_
    refine (fixed_any w7).mono ?_
    rintro e w8 ⟨rfl, hb⟩
    have B8 := hid (B7.out.trans (hb.mono B7.out.size))
    have Fa8 := hid (Fa7.out.bel hb)
    have Fb8 := hid (Fb7.out.bel hb)
    have Fba8 := hid (bx_bel Fba7.out hb)
    have Fbb8 := hid (bx_bel Fbb7.out hb)
    clear B7 Fa7 Fb7 Fba7 Fbb7
    clear hb xba0 xba1 xbb0 xbb1
    go_wp2
    go_ret
    exact ⟨rfl, B8.out⟩
  obtain ⟨xba0, xba1, _⟩ := cells2 Fba6.out
  obtain ⟨xbb0, xbb1, _⟩ := cells2 Fbb6.out
  go_wp2_with (first | (go_at_call 9; refine stopHere ?_))
  refine stopAt ?_
  refine (small_any w6 _ sb Fb6.out).mono ?_
  rw [hsb]
  rintro e w7 ⟨rfl, hb⟩
  have B7 := hid (B6.out.trans (hb.mono B6.out.size))
  have Fa7 := hid (Fa6.out.bel hb)
  have Fb7 := hid (Fb6.out.bel hb)
  have Fba7 := hid (bx_bel Fba6.out hb)
  have Fbb7 := hid (bx_bel Fbb6.out hb)
  clear B6 Fa6 Fb6 Fba6 Fbb6
  clear hb xba0 xba1 xbb0 xbb1
  have Ka := hid (M.sm_of hsa)
  have Kb := hid (M.sm_of hsb)
  rcases (Bool.eq_false_or_eq_true (M.mayS sa)).symm with hma | hma
  · obtain ⟨xba0, xba1, _⟩ := cells2 Fba7.out
    obtain ⟨xbb0, xbb1, _⟩ := cells2 Fbb7.out
    go_wp2_with (first | (go_at_call 13; refine stopHere ?_))
    refine stopAt ?_
    refine (omay_any w7 _ sa Fa7.out Ka.out).mono ?_
    rw [hma]
    rintro e w8 ⟨rfl, hb⟩
    have B8 := hid (B7.out.trans (hb.mono B7.out.size))
    have Fa8 := hid (Fa7.out.bel hb)
    have Fb8 := hid (Fb7.out.bel hb)
    have Fba8 := hid (bx_bel Fba7.out hb)
    have Fbb8 := hid (bx_bel Fbb7.out hb)
    clear B7 Fa7 Fb7 Fba7 Fbb7
    clear hb xba0 xba1 xbb0 xbb1
    obtain ⟨xba0, xba1, _⟩ := cells2 Fba8.out
    obtain ⟨xbb0, xbb1, _⟩ := cells2 Fbb8.out
    go_wp2_with (first | (go_at_call 10; refine stopHere ?_))
    refine stopAt ?_
    refine (fixed_any w8).mono ?_
    rintro e w9 ⟨rfl, hb⟩
    have B9 := hid (B8.out.trans (hb.mono B8.out.size))
    have Fa9 := hid (Fa8.out.bel hb)
    have Fb9 := hid (Fb8.out.bel hb)
    have Fba9 := hid (bx_bel Fba8.out hb)
    have Fbb9 := hid (bx_bel Fbb8.out hb)
    clear B8 Fa8 Fb8 Fba8 Fbb8
    clear hb xba0 xba1 xbb0 xbb1
    go_wp2
    go_ret
    exact ⟨rfl, B9.out⟩
  obtain ⟨xba0, xba1, _⟩ := cells2 Fba7.out
  obtain ⟨xbb0, xbb1, _⟩ := cells2 Fbb7.out
  go_wp2_with (first | (go_at_call 13; refine stopHere ?_))
  refine stopAt ?_
  refine (omay_any w7 _ sa Fa7.out Ka.out).mono ?_
  rw [hma]
  rintro e w8 ⟨rfl, hb⟩
  have B8 := hid (B7.out.trans (hb.mono B7.out.size))
  have Fa8 := hid (Fa7.out.bel hb)
  have Fb8 := hid (Fb7.out.bel hb)
  have Fba8 := hid (bx_bel Fba7.out hb)
  have Fbb8 := hid (bx_bel Fbb7.out hb)
  clear B7 Fa7 Fb7 Fba7 Fbb7
  clear hb xba0 xba1 xbb0 xbb1
  rcases (Bool.eq_false_or_eq_true (M.mayS sb)).symm with hmb | hmb
  · obtain ⟨xba0, xba1, _⟩ := cells2 Fba8.out
    obtain ⟨xbb0, xbb1, _⟩ := cells2 Fbb8.out
    go_wp2_with (first | (go_at_call 13; refine stopHere ?_))
    refine stopAt ?_
    refine (omay_any w8 _ sb Fb8.out Kb.out).mono ?_
    rw [hmb]
    rintro e w9 ⟨rfl, hb⟩
    have B9 := hid (B8.out.trans (hb.mono B8.out.size))
    have Fa9 := hid (Fa8.out.bel hb)
    have Fb9 := hid (Fb8.out.bel hb)
    have Fba9 := hid (bx_bel Fba8.out hb)
    have Fbb9 := hid (bx_bel Fbb8.out hb)
    clear B8 Fa8 Fb8 Fba8 Fbb8
    clear hb xba0 xba1 xbb0 xbb1
    obtain ⟨xba0, xba1, _⟩ := cells2 Fba9.out
    obtain ⟨xbb0, xbb1, _⟩ := cells2 Fbb9.out
    go_wp2_with (first | (go_at_call 10; refine stopHere ?_))
    refine stopAt ?_
    refine (fixed_any w9).mono ?_
    rintro e w10 ⟨rfl, hb⟩
    have B10 := hid (B9.out.trans (hb.mono B9.out.size))
    have Fa10 := hid (Fa9.out.bel hb)
    have Fb10 := hid (Fb9.out.bel hb)
    have Fba10 := hid (bx_bel Fba9.out hb)
    have Fbb10 := hid (bx_bel Fbb9.out hb)
    clear B9 Fa9 Fb9 Fba9 Fbb9
    clear hb xba0 xba1 xbb0 xbb1
    go_wp2
    go_ret
    exact ⟨rfl, B10.out⟩
  obtain ⟨xba0, xba1, _⟩ := cells2 Fba8.out
  obtain ⟨xbb0, xbb1, _⟩ := cells2 Fbb8.out
  go_wp2_with (first | (go_at_call 13; refine stopHere ?_))
  refine stopAt ?_
  refine (omay_any w8 _ sb Fb8.out Kb.out).mono ?_
  rw [hmb]
  rintro e w9 ⟨rfl, hb⟩
  have B9 := hid (B8.out.trans (hb.mono B8.out.size))
  have Fa9 := hid (Fa8.out.bel hb)
  have Fb9 := hid (Fb8.out.bel hb)
  have Fba9 := hid (bx_bel Fba8.out hb)
  have Fbb9 := hid (bx_bel Fbb8.out hb)
  clear B8 Fa8 Fb8 Fba8 Fbb8
  clear hb xba0 xba1 xbb0 xbb1
  have Hm := hid (M.join_if hma hmb)
  obtain ⟨sj, hsj⟩ : ∃ j, M.joinS sa sb = j := ⟨_, rfl⟩
  have Kj : Hid (M.Sm 100000 sj) := by unfold Hid; rw [← hsj]; exact M.sm_two hsa hsb
  have Hj := hid hsj
  clear hsj
  obtain ⟨p, hp⟩ : ∃ t, (M.getF sa.fs n).isSome = t := ⟨_, rfl⟩
  have Hp := hid hp
  clear hp
  obtain ⟨q, hq⟩ : ∃ t, (M.getF sb.fs n).isSome = t := ⟨_, rfl⟩
  have Hq := hid hq
  clear hq
  obtain ⟨r, hr⟩ : ∃ t, (M.getF sj.fs n).isSome = t := ⟨_, rfl⟩
  have Hr := hid hr
  clear hr
  obtain ⟨xba0, xba1, _⟩ := cells2 Fba9.out
  obtain ⟨xbb0, xbb1, _⟩ := cells2 Fbb9.out
  go_wp2_with (first | (go_at_call 11; refine stopHere ?_))
  refine stopAt ?_
  refine (oget_any w9 _ sa n Fa9.out Ka.out).mono ?_
  rintro e w10 ⟨y10, rfl, hyf, hoy, hb⟩
  have B10 := hid (B9.out.trans (hb.mono B9.out.size))
  have Fa10 := hid (Fa9.out.bel hb)
  have Fb10 := hid (Fb9.out.bel hb)
  have Fba10 := hid (bx_bel Fba9.out hb)
  have Fbb10 := hid (bx_bel Fbb9.out hb)
  clear B9 Fa9 Fb9 Fba9 Fbb9
  rw [Hp.out]
  have Ff10 := hid hoy
  have Yf := hid hyf
  clear hoy hyf
  obtain ⟨⟨nmf, suf, vsf⟩, yaf, ycf⟩ := y10
  unfold fv
  clear hb xba0 xba1 xbb0 xbb1
  obtain ⟨V11, hV11⟩ : ∃ W, w10.alloc (.cells #[.string nmf, .bool suf, .slice yaf vsf.length ycf] 29) = W := ⟨_, rfl⟩
  have hbx : Below w10.heap.size w10 V11 := by rw [← hV11]; exact (gr_new _ _).below
  have Nbf : Hid (V11.heap[w10.heap.size]? = some (.cells #[.string nmf, .bool suf, .slice yaf vsf.length ycf] 29 (0, 0))) := by unfold Hid; rw [← hV11]; exact new_at _ _
  have B12 := hid (B10.out.trans (hbx.mono B10.out.size))
  have Fa12 := hid (Fa10.out.bel hbx)
  have Fb12 := hid (Fb10.out.bel hbx)
  have Fba12 := hid (bx_bel Fba10.out hbx)
  have Fbb12 := hid (bx_bel Fbb10.out hbx)
  have Ff12 := hid (Ff10.out.bel hbx)
  clear B10 Fa10 Fb10 Fba10 Fbb10 Ff10
  clear hbx
  obtain ⟨xba0, xba1, _⟩ := cells2 Fba12.out
  obtain ⟨xbb0, xbb1, _⟩ := cells2 Fbb12.out
  obtain ⟨xbf0, xbf1, xbf2, _⟩ := cells3 Nbf.out
  go_wp2_with (first | (go_at_call 11; refine stopHere ?_))
  refine stopAt ?_
  refine (oget_any V11 _ sb n Fb12.out Kb.out).mono ?_
  rintro e w13 ⟨y13, rfl, hyf, hoy, hb⟩
  have B13 := hid (B12.out.trans (hb.mono B12.out.size))
  have Fa13 := hid (Fa12.out.bel hb)
  have Fb13 := hid (Fb12.out.bel hb)
  have Fba13 := hid (bx_bel Fba12.out hb)
  have Fbb13 := hid (bx_bel Fbb12.out hb)
  have Ff13 := hid (Ff12.out.bel hb)
  have Fbf13 := hid (bx_bel Nbf.out hb)
  clear B12 Fa12 Fb12 Fba12 Fbb12 Ff12 Nbf
  rw [Hq.out]
  have Fg13 := hid hoy
  have Yg := hid hyf
  clear hoy hyf
  obtain ⟨⟨nmg, sug, vsg⟩, yag, ycg⟩ := y13
  unfold fv
  clear hb xba0 xba1 xbb0 xbb1 xbf0 xbf1 xbf2 hV11
  obtain ⟨V14, hV14⟩ : ∃ W, w13.alloc (.cells #[.string nmg, .bool sug, .slice yag vsg.length ycg] 29) = W := ⟨_, rfl⟩
  have hbx : Below w13.heap.size w13 V14 := by rw [← hV14]; exact (gr_new _ _).below
  have Nbg : Hid (V14.heap[w13.heap.size]? = some (.cells #[.string nmg, .bool sug, .slice yag vsg.length ycg] 29 (0, 0))) := by unfold Hid; rw [← hV14]; exact new_at _ _
  have B15 := hid (B13.out.trans (hbx.mono B13.out.size))
  have Fa15 := hid (Fa13.out.bel hbx)
  have Fb15 := hid (Fb13.out.bel hbx)
  have Fba15 := hid (bx_bel Fba13.out hbx)
  have Fbb15 := hid (bx_bel Fbb13.out hbx)
  have Ff15 := hid (Ff13.out.bel hbx)
  have Fbf15 := hid (bx_bel Fbf13.out hbx)
  have Fg15 := hid (Fg13.out.bel hbx)
  clear B13 Fa13 Fb13 Fba13 Fbb13 Ff13 Fbf13 Fg13
  clear hbx
  obtain ⟨xba0, xba1, _⟩ := cells2 Fba15.out
  obtain ⟨xbb0, xbb1, _⟩ := cells2 Fbb15.out
  obtain ⟨xbf0, xbf1, xbf2, _⟩ := cells3 Fbf15.out
  obtain ⟨xbg0, xbg1, xbg2, _⟩ := cells3 Nbg.out
  go_wp2_with (first | (go_at_call 17; refine stopHere ?_))
  refine stopAt ?_
  refine (ojoin_any V14 _ _ sa sb Fa15.out Fb15.out Ka.out Kb.out).mono ?_
  rintro e w16 ⟨v16, rfl, hsh, hb⟩
  have B16 := hid (B15.out.trans (hb.mono B15.out.size))
  have Fa16 := hid (Fa15.out.bel hb)
  have Fb16 := hid (Fb15.out.bel hb)
  have Fba16 := hid (bx_bel Fba15.out hb)
  have Fbb16 := hid (bx_bel Fbb15.out hb)
  have Ff16 := hid (Ff15.out.bel hb)
  have Fbf16 := hid (bx_bel Fbf15.out hb)
  have Fg16 := hid (Fg15.out.bel hb)
  have Fbg16 := hid (bx_bel Nbg.out hb)
  clear B15 Fa15 Fb15 Fba15 Fbb15 Ff15 Fbf15 Fg15 Nbg
  rw [Hm.out, Hj.out] at hsh
  have Fj16 := hid hsh.at
  clear hsh
  clear hb xba0 xba1 xbb0 xbb1 xbf0 xbf1 xbf2 xbg0 xbg1 xbg2 hV14
  obtain ⟨xba0, xba1, _⟩ := cells2 Fba16.out
  obtain ⟨xbb0, xbb1, _⟩ := cells2 Fbb16.out
  obtain ⟨xbf0, xbf1, xbf2, _⟩ := cells3 Fbf16.out
  obtain ⟨xbg0, xbg1, xbg2, _⟩ := cells3 Fbg16.out
  go_wp2_with (first | (go_at_call 11; refine stopHere ?_))
  refine stopAt ?_
  refine (oget_any w16 _ sj n Fj16.out Kj.out).mono ?_
  rintro e w17 ⟨y17, rfl, hyf, hoy, hb⟩
  have B17 := hid (B16.out.trans (hb.mono B16.out.size))
  have Fa17 := hid (Fa16.out.bel hb)
  have Fb17 := hid (Fb16.out.bel hb)
  have Fba17 := hid (bx_bel Fba16.out hb)
  have Fbb17 := hid (bx_bel Fbb16.out hb)
  have Ff17 := hid (Ff16.out.bel hb)
  have Fbf17 := hid (bx_bel Fbf16.out hb)
  have Fg17 := hid (Fg16.out.bel hb)
  have Fbg17 := hid (bx_bel Fbg16.out hb)
  have Fj17 := hid (Fj16.out.bel hb)
  clear B16 Fa16 Fb16 Fba16 Fbb16 Ff16 Fbf16 Fg16 Fbg16 Fj16
  rw [Hr.out]
  have Fh17 := hid hoy
  have Yh := hid hyf
  clear hoy hyf
  obtain ⟨⟨nmh, suh, vsh⟩, yah, ych⟩ := y17
  unfold fv
  clear hb xba0 xba1 xbb0 xbb1 xbf0 xbf1 xbf2 xbg0 xbg1 xbg2
  obtain ⟨V18, hV18⟩ : ∃ W, w17.alloc (.cells #[.string nmh, .bool suh, .slice yah vsh.length ych] 29) = W := ⟨_, rfl⟩
  have hbx : Below w17.heap.size w17 V18 := by rw [← hV18]; exact (gr_new _ _).below
  have Nbh : Hid (V18.heap[w17.heap.size]? = some (.cells #[.string nmh, .bool suh, .slice yah vsh.length ych] 29 (0, 0))) := by unfold Hid; rw [← hV18]; exact new_at _ _
  have B19 := hid (B17.out.trans (hbx.mono B17.out.size))
  have Fa19 := hid (Fa17.out.bel hbx)
  have Fb19 := hid (Fb17.out.bel hbx)
  have Fba19 := hid (bx_bel Fba17.out hbx)
  have Fbb19 := hid (bx_bel Fbb17.out hbx)
  have Ff19 := hid (Ff17.out.bel hbx)
  have Fbf19 := hid (bx_bel Fbf17.out hbx)
  have Fg19 := hid (Fg17.out.bel hbx)
  have Fbg19 := hid (bx_bel Fbg17.out hbx)
  have Fj19 := hid (Fj17.out.bel hbx)
  have Fh19 := hid (Fh17.out.bel hbx)
  clear B17 Fa17 Fb17 Fba17 Fbb17 Ff17 Fbf17 Fg17 Fbg17 Fj17 Fh17
  clear hbx
  have HJ := hid (M.joined_facts Hj.out Yf.out Yg.out Yh.out)
  rw [Hp.out, Hq.out, Hr.out] at HJ
  have Lf := hid (M.get_len Ka.out Yf.out)
  have Lg := hid (M.get_len Kb.out Yg.out)
  have Lh := hid (M.get_len Kj.out Yh.out)
  clear Yf Yg Yh Hp Hq Hr Hj Hm Ka Kb Kj hsa hsb hma hmb
  clear Fa19
  clear Fb19
  clear Fba19
  clear Fbb19
  clear Fj19
  rcases p with _ | _
  · rcases q with _ | _
    · obtain ⟨h1, h2, h3⟩ := HJ.out
      simp only [Bool.and_true, Bool.true_and, Bool.and_false, Bool.false_and, Bool.or_true, Bool.true_or, Bool.or_false, Bool.false_or, Bool.and_self, Bool.or_self] at h1 h2
      subst h1
      have h4 := h2.symm
      subst h4
      have H3 := hid h3
      clear HJ h3
      obtain ⟨xbf0, xbf1, xbf2, _⟩ := cells3 Fbf19.out
      obtain ⟨xbg0, xbg1, xbg2, _⟩ := cells3 Fbg19.out
      obtain ⟨xbh0, xbh1, xbh2, _⟩ := cells3 Nbh.out
      go_wp2_with fail
      have KH : Hid (∀ W, Below V18.heap.size V18 W → (W.cell? ⟨w10.heap.size, 0, none⟩ = some (.string nmf) ∧ W.cell? ⟨w10.heap.size, 1, none⟩ = some (.bool suf) ∧ W.cell? ⟨w10.heap.size, 2, none⟩ = some (.slice yaf vsf.length ycf) ∧ W.cell? ⟨w13.heap.size, 0, none⟩ = some (.string nmg) ∧ W.cell? ⟨w13.heap.size, 1, none⟩ = some (.bool sug) ∧ W.cell? ⟨w13.heap.size, 2, none⟩ = some (.slice yag vsg.length ycg) ∧ W.cell? ⟨w17.heap.size, 0, none⟩ = some (.string nmh) ∧ W.cell? ⟨w17.heap.size, 1, none⟩ = some (.bool false) ∧ W.cell? ⟨w17.heap.size, 2, none⟩ = some (.slice yah vsh.length ych))) := fun W hb => by
        obtain ⟨ybf0, ybf1, ybf2, _⟩ := cells3 (bx_bel Fbf19.out hb)
        obtain ⟨ybg0, ybg1, ybg2, _⟩ := cells3 (bx_bel Fbg19.out hb)
        obtain ⟨ybh0, ybh1, ybh2, _⟩ := cells3 (bx_bel Nbh.out hb)
        exact ⟨ybf0, ybf1, ybf2, ybg0, ybg1, ybg2, ybh0, ybh1, ybh2⟩
      clear xbf0 xbf1 xbf2 xbg0 xbg1 xbg2 xbh0 xbh1 xbh2
      clear hV18
      refine wp_region_held_drew (S := fun W => W.cell? ⟨w10.heap.size, 0, none⟩ = some (.string nmf) ∧ W.cell? ⟨w10.heap.size, 1, none⟩ = some (.bool suf) ∧ W.cell? ⟨w10.heap.size, 2, none⟩ = some (.slice yaf vsf.length ycf) ∧ W.cell? ⟨w13.heap.size, 0, none⟩ = some (.string nmg) ∧ W.cell? ⟨w13.heap.size, 1, none⟩ = some (.bool sug) ∧ W.cell? ⟨w13.heap.size, 2, none⟩ = some (.slice yag vsg.length ycg) ∧ W.cell? ⟨w17.heap.size, 0, none⟩ = some (.string nmh) ∧ W.cell? ⟨w17.heap.size, 1, none⟩ = some (.bool false) ∧ W.cell? ⟨w17.heap.size, 2, none⟩ = some (.slice yah vsh.length ych)) (by kernel_rfl) (KH.out _ (Below.refl _ _).drew) (fun hHeld => ?_)
      have hbd : Below V18.heap.size V18 V18.drew := (Gr.refl _).drew.below
      have RB0 := hid hbd
      have B20 := hid (B19.out.trans (hbd.mono B19.out.size))
      have Ff20 := hid (Ff19.out.bel hbd)
      have Fbf20 := hid (bx_bel Fbf19.out hbd)
      have Fg20 := hid (Fg19.out.bel hbd)
      have Fbg20 := hid (bx_bel Fbg19.out hbd)
      have Fh20 := hid (Fh19.out.bel hbd)
      have Fbh20 := hid (bx_bel Nbh.out hbd)
      clear B19 Ff19 Fbf19 Fg19 Fbg19 Fh19 Nbh
      clear hbd
      refine wpAnyH_take (i := 0) (oi := { dst := some 56, op := Op.move (Operand.tmp 12), type := 4, pos := "law.go:118", after := #[], guard := none }) (v := ?_) rfl (by kernel_rfl) (by kernel_rfl) (by kernel_rfl) (fun _ _ _ h => h) (Or.inl ⟨by rfl, ?_⟩) hHeld ?_
      rotate_left
      · intro w hSw; (try dsimp only at hSw); go_simp; (try with_reducible rfl)
      simp only [Act.put, List.setIfInBounds_toArray, List.set_cons_zero, List.set_cons_succ]
      refine wpAnyH_take (i := 1) (oi := { dst := some 57, op := Op.move (Operand.tmp 8), type := 4, pos := "law.go:118", after := #[], guard := none }) (v := ?_) rfl (by kernel_rfl) (by kernel_rfl) (by kernel_rfl) (fun _ _ _ h => h) (Or.inl ⟨by rfl, ?_⟩) hHeld ?_
      rotate_left
      · intro w hSw; (try dsimp only at hSw); go_simp; (try with_reducible rfl)
      simp only [Act.put, List.setIfInBounds_toArray, List.set_cons_zero, List.set_cons_succ]
      refine wpAnyH_take (i := 2) (oi := { dst := some 58, op := Op.move (Operand.tmp 57), type := 4, pos := "law.go:118", after := #[{ on := 1, ground := Ground.data }], guard := none }) (v := ?_) rfl (by kernel_rfl) (by kernel_rfl) (by kernel_rfl) (fun _ _ _ h => h) (Or.inl ⟨by rfl, ?_⟩) hHeld ?_
      rotate_left
      · intro w hSw; (try dsimp only at hSw); go_simp; (try with_reducible rfl)
      simp only [Act.put, List.setIfInBounds_toArray, List.set_cons_zero, List.set_cons_succ]
      refine wpAnyH_take (i := 3) (oi := { dst := some 59, op := Op.move (Operand.tmp 10), type := 4, pos := "law.go:118", after := #[{ on := 2, ground := Ground.guard }], guard := some (2, false) }) (v := ?_) rfl (by kernel_rfl) (by kernel_rfl) (by kernel_rfl) (fun _ _ _ h => h) (Or.inl ⟨by rfl, ?_⟩) hHeld ?_
      rotate_left
      · intro w hSw; (try dsimp only at hSw); go_simp; (try with_reducible rfl)
      simp only [Act.put, List.setIfInBounds_toArray, List.set_cons_zero, List.set_cons_succ]
      refine wpAnyH_take (i := 4) (oi := { dst := some 60, op := Op.pick (Operand.tmp 58) (Operand.const (Value.bool true)) (Operand.tmp 59), type := 4, pos := "law.go:118", after := #[{ on := 2, ground := Ground.data }, { on := 3, ground := Ground.data }], guard := none }) (v := ?_) rfl (by kernel_rfl) (by kernel_rfl) (by kernel_rfl) (fun _ _ _ h => h) (Or.inl ⟨by rfl, ?_⟩) hHeld ?_
      rotate_left
      · intro w hSw; (try dsimp only at hSw); go_simp; (try with_reducible rfl)
      simp only [Act.put, List.setIfInBounds_toArray, List.set_cons_zero, List.set_cons_succ]
      refine wpAnyH_take (i := 5) (oi := { dst := some 61, op := Op.binOp BinOp.eql 4 (Operand.tmp 56) (Operand.tmp 60) 4, type := 4, pos := "law.go:118", after := #[{ on := 0, ground := Ground.data }, { on := 4, ground := Ground.data }], guard := none }) (v := ?_) rfl (by kernel_rfl) (by kernel_rfl) (by kernel_rfl) (fun _ _ _ h => h) (Or.inl ⟨by rfl, ?_⟩) hHeld ?_
      rotate_left
      · intro w hSw; (try dsimp only at hSw); go_simp; (try with_reducible rfl)
      simp only [Act.put, List.setIfInBounds_toArray, List.set_cons_zero, List.set_cons_succ]
      refine wpAnyH_take (i := 6) (oi := { dst := some 62, op := Op.move (Operand.tmp 61), type := 4, pos := "law.go:118", after := #[{ on := 5, ground := Ground.data }, { on := 2, ground := Ground.chain }], guard := none }) (v := ?_) rfl (by kernel_rfl) (by kernel_rfl) (by kernel_rfl) (fun _ _ _ h => h) (Or.inl ⟨by rfl, ?_⟩) hHeld ?_
      rotate_left
      · intro w hSw; (try dsimp only at hSw); go_simp; (try with_reducible rfl)
      simp only [Act.put, List.setIfInBounds_toArray, List.set_cons_zero, List.set_cons_succ]
      refine wpAnyH_take (i := 7) (oi := { dst := some 63, op := Op.fieldAddr 29 (Operand.tmp 11) 1, type := 0, pos := "law.go:118", after := #[{ on := 6, ground := Ground.guard }], guard := some (6, true) }) (v := ?_) rfl (by kernel_rfl) (by kernel_rfl) (by kernel_rfl) (fun _ _ _ h => h) (Or.inl ⟨by rfl, ?_⟩) hHeld ?_
      rotate_left
      · intro w hSw; (try dsimp only at hSw); go_simp; (try with_reducible rfl)
      simp only [Act.put, List.setIfInBounds_toArray, List.set_cons_zero, List.set_cons_succ]
      refine wpAnyH_take (i := 8) (oi := { dst := some 64, op := Op.load 4 (Operand.tmp 63), type := 4, pos := "law.go:118", after := #[{ on := 7, ground := Ground.data }, { on := 6, ground := Ground.guard }], guard := some (6, true) }) (v := ?_) rfl (by kernel_rfl) (by kernel_rfl) (by kernel_rfl) (fun _ _ _ h => h) (Or.inl ⟨by rfl, ?_⟩) hHeld ?_
      rotate_left
      · intro w hSw; (try dsimp only at hSw); go_simp; (try with_reducible rfl)
      simp only [Act.put, List.setIfInBounds_toArray, List.set_cons_zero, List.set_cons_succ]
      refine wpAnyH_take (i := 9) (oi := { dst := some 65, op := Op.move (Operand.tmp 8), type := 4, pos := "law.go:118", after := #[{ on := 6, ground := Ground.guard }], guard := some (6, true) }) (v := ?_) rfl (by kernel_rfl) (by kernel_rfl) (by kernel_rfl) (fun _ _ _ h => h) (Or.inl ⟨by rfl, ?_⟩) hHeld ?_
      rotate_left
      · intro w hSw; (try dsimp only at hSw); go_simp; (try with_reducible rfl)
      simp only [Act.put, List.setIfInBounds_toArray, List.set_cons_zero, List.set_cons_succ]
      refine wpAnyH_take (i := 10) (oi := { dst := some 66, op := Op.move (Operand.tmp 65), type := 4, pos := "law.go:118", after := #[{ on := 9, ground := Ground.data }, { on := 6, ground := Ground.chain }, { on := 6, ground := Ground.guard }], guard := some (6, true) }) (v := ?_) rfl (by kernel_rfl) (by kernel_rfl) (by kernel_rfl) (fun _ _ _ h => h) (Or.inl ⟨by rfl, ?_⟩) hHeld ?_
      rotate_left
      · intro w hSw; (try dsimp only at hSw); go_simp; (try with_reducible rfl)
      simp only [Act.put, List.setIfInBounds_toArray, List.set_cons_zero, List.set_cons_succ]
      refine wpAnyH_take (i := 11) (oi := { dst := some 67, op := Op.move (Operand.tmp 10), type := 4, pos := "law.go:118", after := #[{ on := 10, ground := Ground.guard }], guard := some (10, true) }) (v := undef) rfl (by kernel_rfl) (by kernel_rfl) (by kernel_rfl) (fun _ _ _ h => h) (Or.inr ⟨by rfl, rfl⟩) hHeld ?_
      simp only [Act.put, List.setIfInBounds_toArray, List.set_cons_zero, List.set_cons_succ]
      refine wpAnyH_take (i := 12) (oi := { dst := some 68, op := Op.pick (Operand.tmp 66) (Operand.tmp 67) (Operand.const (Value.bool false)), type := 4, pos := "law.go:118", after := #[{ on := 10, ground := Ground.data }, { on := 11, ground := Ground.data }, { on := 6, ground := Ground.guard }], guard := some (6, true) }) (v := ?_) rfl (by kernel_rfl) (by kernel_rfl) (by kernel_rfl) (fun _ _ _ h => h) (Or.inl ⟨by rfl, ?_⟩) hHeld ?_
      rotate_left
      · intro w hSw; (try dsimp only at hSw); go_simp; (try with_reducible rfl)
      simp only [Act.put, List.setIfInBounds_toArray, List.set_cons_zero, List.set_cons_succ]
      refine wpAnyH_take (i := 13) (oi := { dst := some 69, op := Op.move (Operand.tmp 68), type := 4, pos := "law.go:118", after := #[{ on := 12, ground := Ground.data }, { on := 10, ground := Ground.chain }, { on := 6, ground := Ground.guard }], guard := some (6, true) }) (v := ?_) rfl (by kernel_rfl) (by kernel_rfl) (by kernel_rfl) (fun _ _ _ h => h) (Or.inl ⟨by rfl, ?_⟩) hHeld ?_
      rotate_left
      · intro w hSw; (try dsimp only at hSw); go_simp; (try with_reducible rfl)
      simp only [Act.put, List.setIfInBounds_toArray, List.set_cons_zero, List.set_cons_succ]
      refine wpAnyH_take (i := 14) (oi := { dst := some 70, op := Op.fieldAddr 29 (Operand.tmp 7) 1, type := 0, pos := "law.go:118", after := #[{ on := 13, ground := Ground.guard }], guard := some (13, true) }) (v := undef) rfl (by kernel_rfl) (by kernel_rfl) (by kernel_rfl) (fun _ _ _ h => h) (Or.inr ⟨by rfl, rfl⟩) hHeld ?_
      simp only [Act.put, List.setIfInBounds_toArray, List.set_cons_zero, List.set_cons_succ]
      refine wpAnyH_take (i := 15) (oi := { dst := some 71, op := Op.load 4 (Operand.tmp 70), type := 4, pos := "law.go:118", after := #[{ on := 14, ground := Ground.data }, { on := 13, ground := Ground.guard }], guard := some (13, true) }) (v := undef) rfl (by kernel_rfl) (by kernel_rfl) (by kernel_rfl) (fun _ _ _ h => h) (Or.inr ⟨by rfl, rfl⟩) hHeld ?_
      simp only [Act.put, List.setIfInBounds_toArray, List.set_cons_zero, List.set_cons_succ]
      refine wpAnyH_take (i := 16) (oi := { dst := some 72, op := Op.pick (Operand.tmp 69) (Operand.tmp 71) (Operand.const (Value.bool false)), type := 4, pos := "law.go:118", after := #[{ on := 13, ground := Ground.data }, { on := 15, ground := Ground.data }, { on := 6, ground := Ground.guard }], guard := some (6, true) }) (v := ?_) rfl (by kernel_rfl) (by kernel_rfl) (by kernel_rfl) (fun _ _ _ h => h) (Or.inl ⟨by rfl, ?_⟩) hHeld ?_
      rotate_left
      · intro w hSw; (try dsimp only at hSw); go_simp; (try with_reducible rfl)
      simp only [Act.put, List.setIfInBounds_toArray, List.set_cons_zero, List.set_cons_succ]
      refine wpAnyH_take (i := 17) (oi := { dst := some 73, op := Op.move (Operand.tmp 72), type := 4, pos := "law.go:118", after := #[{ on := 16, ground := Ground.data }, { on := 13, ground := Ground.chain }, { on := 6, ground := Ground.guard }], guard := some (6, true) }) (v := ?_) rfl (by kernel_rfl) (by kernel_rfl) (by kernel_rfl) (fun _ _ _ h => h) (Or.inl ⟨by rfl, ?_⟩) hHeld ?_
      rotate_left
      · intro w hSw; (try dsimp only at hSw); go_simp; (try with_reducible rfl)
      simp only [Act.put, List.setIfInBounds_toArray, List.set_cons_zero, List.set_cons_succ]
      refine wpAnyH_take (i := 18) (oi := { dst := some 74, op := Op.fieldAddr 29 (Operand.tmp 9) 1, type := 0, pos := "law.go:118", after := #[{ on := 17, ground := Ground.guard }], guard := some (17, true) }) (v := undef) rfl (by kernel_rfl) (by kernel_rfl) (by kernel_rfl) (fun _ _ _ h => h) (Or.inr ⟨by rfl, rfl⟩) hHeld ?_
      simp only [Act.put, List.setIfInBounds_toArray, List.set_cons_zero, List.set_cons_succ]
      refine wpAnyH_take (i := 19) (oi := { dst := some 75, op := Op.load 4 (Operand.tmp 74), type := 4, pos := "law.go:118", after := #[{ on := 18, ground := Ground.data }, { on := 17, ground := Ground.guard }], guard := some (17, true) }) (v := undef) rfl (by kernel_rfl) (by kernel_rfl) (by kernel_rfl) (fun _ _ _ h => h) (Or.inr ⟨by rfl, rfl⟩) hHeld ?_
      simp only [Act.put, List.setIfInBounds_toArray, List.set_cons_zero, List.set_cons_succ]
      refine wpAnyH_take (i := 20) (oi := { dst := some 76, op := Op.pick (Operand.tmp 73) (Operand.tmp 75) (Operand.const (Value.bool false)), type := 4, pos := "law.go:118", after := #[{ on := 17, ground := Ground.data }, { on := 19, ground := Ground.data }, { on := 6, ground := Ground.guard }], guard := some (6, true) }) (v := ?_) rfl (by kernel_rfl) (by kernel_rfl) (by kernel_rfl) (fun _ _ _ h => h) (Or.inl ⟨by rfl, ?_⟩) hHeld ?_
      rotate_left
      · intro w hSw; (try dsimp only at hSw); go_simp; (try with_reducible rfl)
      simp only [Act.put, List.setIfInBounds_toArray, List.set_cons_zero, List.set_cons_succ]
      refine wpAnyH_take (i := 21) (oi := { dst := some 77, op := Op.binOp BinOp.eql 4 (Operand.tmp 64) (Operand.tmp 76) 4, type := 4, pos := "law.go:118", after := #[{ on := 8, ground := Ground.data }, { on := 20, ground := Ground.data }, { on := 6, ground := Ground.guard }], guard := some (6, true) }) (v := ?_) rfl (by kernel_rfl) (by kernel_rfl) (by kernel_rfl) (fun _ _ _ h => h) (Or.inl ⟨by rfl, ?_⟩) hHeld ?_
      rotate_left
      · intro w hSw; (try dsimp only at hSw); go_simp; (try with_reducible rfl)
      simp only [Act.put, List.setIfInBounds_toArray, List.set_cons_zero, List.set_cons_succ]
      refine wpAnyH_take (i := 22) (oi := { dst := some 78, op := Op.pick (Operand.tmp 62) (Operand.tmp 77) (Operand.const (Value.bool false)), type := 4, pos := "law.go:118", after := #[{ on := 6, ground := Ground.data }, { on := 21, ground := Ground.data }], guard := none }) (v := ?_) rfl (by kernel_rfl) (by kernel_rfl) (by kernel_rfl) (fun _ _ _ h => h) (Or.inl ⟨by rfl, ?_⟩) hHeld ?_
      rotate_left
      · intro w hSw; (try dsimp only at hSw); go_simp; (try with_reducible rfl)
      simp only [Act.put, List.setIfInBounds_toArray, List.set_cons_zero, List.set_cons_succ]
      refine wpAnyH_take (i := 23) (oi := { dst := some 79, op := Op.move (Operand.tmp 78), type := 4, pos := "law.go:118", after := #[{ on := 22, ground := Ground.data }, { on := 17, ground := Ground.chain }], guard := none }) (v := ?_) rfl (by kernel_rfl) (by kernel_rfl) (by kernel_rfl) (fun _ _ _ h => h) (Or.inl ⟨by rfl, ?_⟩) hHeld ?_
      rotate_left
      · intro w hSw; (try dsimp only at hSw); go_simp; (try with_reducible rfl)
      simp only [Act.put, List.setIfInBounds_toArray, List.set_cons_zero, List.set_cons_succ]
      refine wpAnyH_take (i := 24) (oi := { dst := some 80, op := Op.fieldAddr 29 (Operand.tmp 11) 2, type := 0, pos := "law.go:118", after := #[{ on := 23, ground := Ground.guard }], guard := some (23, true) }) (v := ?_) rfl (by kernel_rfl) (by kernel_rfl) (by kernel_rfl) (fun _ _ _ h => h) (Or.inl ⟨by rfl, ?_⟩) hHeld ?_
      rotate_left
      · intro w hSw; (try dsimp only at hSw); go_simp; (try with_reducible rfl)
      simp only [Act.put, List.setIfInBounds_toArray, List.set_cons_zero, List.set_cons_succ]
      refine wpAnyH_take (i := 25) (oi := { dst := some 81, op := Op.load 23 (Operand.tmp 80), type := 23, pos := "law.go:118", after := #[{ on := 24, ground := Ground.data }, { on := 23, ground := Ground.guard }], guard := some (23, true) }) (v := ?_) rfl (by kernel_rfl) (by kernel_rfl) (by kernel_rfl) (fun _ _ _ h => h) (Or.inl ⟨by rfl, ?_⟩) hHeld ?_
      rotate_left
      · intro w hSw; (try dsimp only at hSw); go_simp; (try with_reducible rfl)
      simp only [Act.put, List.setIfInBounds_toArray, List.set_cons_zero, List.set_cons_succ]
      refine wpAnyH_take (i := 26) (oi := { dst := some 82, op := Op.fieldAddr 29 (Operand.tmp 7) 2, type := 0, pos := "law.go:118", after := #[{ on := 23, ground := Ground.guard }], guard := some (23, true) }) (v := ?_) rfl (by kernel_rfl) (by kernel_rfl) (by kernel_rfl) (fun _ _ _ h => h) (Or.inl ⟨by rfl, ?_⟩) hHeld ?_
      rotate_left
      · intro w hSw; (try dsimp only at hSw); go_simp; (try with_reducible rfl)
      simp only [Act.put, List.setIfInBounds_toArray, List.set_cons_zero, List.set_cons_succ]
      refine wpAnyH_take (i := 27) (oi := { dst := some 83, op := Op.load 23 (Operand.tmp 82), type := 23, pos := "law.go:118", after := #[{ on := 26, ground := Ground.data }, { on := 23, ground := Ground.guard }], guard := some (23, true) }) (v := ?_) rfl (by kernel_rfl) (by kernel_rfl) (by kernel_rfl) (fun _ _ _ h => h) (Or.inl ⟨by rfl, ?_⟩) hHeld ?_
      rotate_left
      · intro w hSw; (try dsimp only at hSw); go_simp; (try with_reducible rfl)
      simp only [Act.put, List.setIfInBounds_toArray, List.set_cons_zero, List.set_cons_succ]
      refine wpAnyH_take (i := 28) (oi := { dst := some 84, op := Op.fieldAddr 29 (Operand.tmp 9) 2, type := 0, pos := "law.go:118", after := #[{ on := 23, ground := Ground.guard }], guard := some (23, true) }) (v := ?_) rfl (by kernel_rfl) (by kernel_rfl) (by kernel_rfl) (fun _ _ _ h => h) (Or.inl ⟨by rfl, ?_⟩) hHeld ?_
      rotate_left
      · intro w hSw; (try dsimp only at hSw); go_simp; (try with_reducible rfl)
      simp only [Act.put, List.setIfInBounds_toArray, List.set_cons_zero, List.set_cons_succ]
      refine wpAnyH_take (i := 29) (oi := { dst := some 85, op := Op.load 23 (Operand.tmp 84), type := 23, pos := "law.go:118", after := #[{ on := 28, ground := Ground.data }, { on := 23, ground := Ground.guard }], guard := some (23, true) }) (v := ?_) rfl (by kernel_rfl) (by kernel_rfl) (by kernel_rfl) (fun _ _ _ h => h) (Or.inl ⟨by rfl, ?_⟩) hHeld ?_
      rotate_left
      · intro w hSw; (try dsimp only at hSw); go_simp; (try with_reducible rfl)
      simp only [Act.put, List.setIfInBounds_toArray, List.set_cons_zero, List.set_cons_succ]
      refine wpAnyH_ready (rs := [30]) (by kernel_rfl) (by simp) ?_
      refine AllReadyH.cons (o := { dst := some 86, op := Op.call { callee := Callee.value (Operand.func 30), args := #[Operand.tmp 83, Operand.tmp 85], argTypes := #[23, 23] }, type := 23, pos := "law.go:118", after := #[{ on := 27, ground := Ground.data }, { on := 29, ground := Ground.data }, { on := 23, ground := Ground.chain }, { on := 23, ground := Ground.guard }], guard := some (23, true) }) rfl (fun K hK => ?_) AllReadyH.nil
      go_simp
      refine (runion_any V18.drew _ _ vsf vsg Ff20.out Fg20.out Lf.out Lg.out).mono ?_
      rintro e z21 ⟨v21, rfl, hA, hb⟩
      have B21 := hid (B20.out.trans (hb.mono B20.out.size))
      have Ff21 := hid (Ff20.out.bel hb)
      have Fbf21 := hid (bx_bel Fbf20.out hb)
      have Fg21 := hid (Fg20.out.bel hb)
      have Fbg21 := hid (bx_bel Fbg20.out hb)
      have Fh21 := hid (Fh20.out.bel hb)
      have Fbh21 := hid (bx_bel Fbh20.out hb)
      have RB21 := hid (RB0.out.trans (hb.mono RB0.out.size))
      clear B20 Ff20 Fbf20 Fg20 Fbg20 Fh20 Fbh20 RB0
      have Fu21 := hid hA
      clear hA
      clear hb
      refine hK.out _ _ (KH.out _ RB21.out) (fun hHeld => ?_)
      refine wpAnyH_ready (rs := [31]) (by kernel_rfl) (by simp) ?_
      refine AllReadyH.cons (o := { dst := some 87, op := Op.call { callee := Callee.value (Operand.func 15), args := #[Operand.tmp 81, Operand.tmp 86], argTypes := #[23, 23] }, type := 4, pos := "law.go:118", after := #[{ on := 25, ground := Ground.data }, { on := 30, ground := Ground.data }, { on := 30, ground := Ground.chain }, { on := 23, ground := Ground.guard }], guard := some (23, true) }) rfl (fun K hK => ?_) AllReadyH.nil
      go_simp
      refine (same_any z21 _ _ vsh _ Fh21.out Fu21.out (Nat.le_trans Lh.out (by decide))).mono ?_
      rw [H3.out]
      rintro e z22 ⟨rfl, hb⟩
      have B22 := hid (B21.out.trans (hb.mono B21.out.size))
      have Ff22 := hid (Ff21.out.bel hb)
      have Fbf22 := hid (bx_bel Fbf21.out hb)
      have Fg22 := hid (Fg21.out.bel hb)
      have Fbg22 := hid (bx_bel Fbg21.out hb)
      have Fh22 := hid (Fh21.out.bel hb)
      have Fbh22 := hid (bx_bel Fbh21.out hb)
      have Fu22 := hid (Fu21.out.bel hb)
      have RB22 := hid (RB21.out.trans (hb.mono RB21.out.size))
      clear B21 Ff21 Fbf21 Fg21 Fbg21 Fh21 Fbh21 Fu21 RB21
      clear hb
      refine hK.out _ _ (KH.out _ RB22.out) (fun hHeld => ?_)
      refine wpAnyH_take (i := 32) (oi := { dst := some 88, op := Op.pick (Operand.tmp 79) (Operand.tmp 87) (Operand.const (Value.bool false)), type := 4, pos := "law.go:118", after := #[{ on := 23, ground := Ground.data }, { on := 31, ground := Ground.data }], guard := none }) (v := ?_) rfl (by kernel_rfl) (by kernel_rfl) (by kernel_rfl) (fun _ _ _ h => h) (Or.inl ⟨by rfl, ?_⟩) hHeld ?_
      rotate_left
      · intro w hSw; (try dsimp only at hSw); go_simp; (try with_reducible rfl)
      simp only [Act.put, List.setIfInBounds_toArray, List.set_cons_zero, List.set_cons_succ]
      refine wpAnyH_take (i := 33) (oi := { dst := some 6, op := Op.assign (Operand.tmp 88), type := 4, pos := "law.go:118", after := #[{ on := 32, ground := Ground.data }, { on := 31, ground := Ground.chain }, { on := 0, ground := Ground.phase }, { on := 1, ground := Ground.phase }, { on := 2, ground := Ground.phase }, { on := 3, ground := Ground.phase }, { on := 4, ground := Ground.phase }, { on := 5, ground := Ground.phase }, { on := 6, ground := Ground.phase }, { on := 7, ground := Ground.phase }, { on := 8, ground := Ground.phase }, { on := 9, ground := Ground.phase }, { on := 10, ground := Ground.phase }, { on := 11, ground := Ground.phase }, { on := 12, ground := Ground.phase }, { on := 13, ground := Ground.phase }, { on := 14, ground := Ground.phase }, { on := 15, ground := Ground.phase }, { on := 16, ground := Ground.phase }, { on := 17, ground := Ground.phase }, { on := 18, ground := Ground.phase }, { on := 19, ground := Ground.phase }, { on := 20, ground := Ground.phase }, { on := 21, ground := Ground.phase }, { on := 22, ground := Ground.phase }, { on := 23, ground := Ground.phase }, { on := 24, ground := Ground.phase }, { on := 25, ground := Ground.phase }, { on := 26, ground := Ground.phase }, { on := 27, ground := Ground.phase }, { on := 28, ground := Ground.phase }, { on := 29, ground := Ground.phase }, { on := 30, ground := Ground.phase }, { on := 31, ground := Ground.phase }, { on := 32, ground := Ground.phase }], guard := none }) (v := ?_) rfl (by kernel_rfl) (by kernel_rfl) (by kernel_rfl) (fun _ _ _ h => h) (Or.inl ⟨by rfl, ?_⟩) hHeld ?_
      rotate_left
      · intro w hSw; (try dsimp only at hSw); go_simp; (try with_reducible rfl)
      simp only [Act.put, List.setIfInBounds_toArray, List.set_cons_zero, List.set_cons_succ]
      refine wpAnyH_done (by kernel_rfl) ?_ _
      clear hHeld KH
      clear RB22
      go_wp2
      go_ret
      exact ⟨rfl, B22.out⟩
    · obtain ⟨h1, h2, h3⟩ := HJ.out
      simp only [Bool.and_true, Bool.true_and, Bool.and_false, Bool.false_and, Bool.or_true, Bool.true_or, Bool.or_false, Bool.false_or, Bool.and_self, Bool.or_self] at h1 h2
      subst h1
      have h4 := h2.symm
      subst h4
      have H3 := hid h3
      clear HJ h3
      obtain ⟨xbf0, xbf1, xbf2, _⟩ := cells3 Fbf19.out
      obtain ⟨xbg0, xbg1, xbg2, _⟩ := cells3 Fbg19.out
      obtain ⟨xbh0, xbh1, xbh2, _⟩ := cells3 Nbh.out
      go_wp2_with fail
      have KH : Hid (∀ W, Below V18.heap.size V18 W → (W.cell? ⟨w10.heap.size, 0, none⟩ = some (.string nmf) ∧ W.cell? ⟨w10.heap.size, 1, none⟩ = some (.bool suf) ∧ W.cell? ⟨w10.heap.size, 2, none⟩ = some (.slice yaf vsf.length ycf) ∧ W.cell? ⟨w13.heap.size, 0, none⟩ = some (.string nmg) ∧ W.cell? ⟨w13.heap.size, 1, none⟩ = some (.bool sug) ∧ W.cell? ⟨w13.heap.size, 2, none⟩ = some (.slice yag vsg.length ycg) ∧ W.cell? ⟨w17.heap.size, 0, none⟩ = some (.string nmh) ∧ W.cell? ⟨w17.heap.size, 1, none⟩ = some (.bool false) ∧ W.cell? ⟨w17.heap.size, 2, none⟩ = some (.slice yah vsh.length ych))) := fun W hb => by
        obtain ⟨ybf0, ybf1, ybf2, _⟩ := cells3 (bx_bel Fbf19.out hb)
        obtain ⟨ybg0, ybg1, ybg2, _⟩ := cells3 (bx_bel Fbg19.out hb)
        obtain ⟨ybh0, ybh1, ybh2, _⟩ := cells3 (bx_bel Nbh.out hb)
        exact ⟨ybf0, ybf1, ybf2, ybg0, ybg1, ybg2, ybh0, ybh1, ybh2⟩
      clear xbf0 xbf1 xbf2 xbg0 xbg1 xbg2 xbh0 xbh1 xbh2
      clear hV18
      refine wp_region_held_drew (S := fun W => W.cell? ⟨w10.heap.size, 0, none⟩ = some (.string nmf) ∧ W.cell? ⟨w10.heap.size, 1, none⟩ = some (.bool suf) ∧ W.cell? ⟨w10.heap.size, 2, none⟩ = some (.slice yaf vsf.length ycf) ∧ W.cell? ⟨w13.heap.size, 0, none⟩ = some (.string nmg) ∧ W.cell? ⟨w13.heap.size, 1, none⟩ = some (.bool sug) ∧ W.cell? ⟨w13.heap.size, 2, none⟩ = some (.slice yag vsg.length ycg) ∧ W.cell? ⟨w17.heap.size, 0, none⟩ = some (.string nmh) ∧ W.cell? ⟨w17.heap.size, 1, none⟩ = some (.bool false) ∧ W.cell? ⟨w17.heap.size, 2, none⟩ = some (.slice yah vsh.length ych)) (by kernel_rfl) (KH.out _ (Below.refl _ _).drew) (fun hHeld => ?_)
      have hbd : Below V18.heap.size V18 V18.drew := (Gr.refl _).drew.below
      have RB0 := hid hbd
      have B20 := hid (B19.out.trans (hbd.mono B19.out.size))
      have Ff20 := hid (Ff19.out.bel hbd)
      have Fbf20 := hid (bx_bel Fbf19.out hbd)
      have Fg20 := hid (Fg19.out.bel hbd)
      have Fbg20 := hid (bx_bel Fbg19.out hbd)
      have Fh20 := hid (Fh19.out.bel hbd)
      have Fbh20 := hid (bx_bel Nbh.out hbd)
      clear B19 Ff19 Fbf19 Fg19 Fbg19 Fh19 Nbh
      clear hbd
      refine wpAnyH_take (i := 0) (oi := { dst := some 56, op := Op.move (Operand.tmp 12), type := 4, pos := "law.go:118", after := #[], guard := none }) (v := ?_) rfl (by kernel_rfl) (by kernel_rfl) (by kernel_rfl) (fun _ _ _ h => h) (Or.inl ⟨by rfl, ?_⟩) hHeld ?_
      rotate_left
      · intro w hSw; (try dsimp only at hSw); go_simp; (try with_reducible rfl)
      simp only [Act.put, List.setIfInBounds_toArray, List.set_cons_zero, List.set_cons_succ]
      refine wpAnyH_take (i := 1) (oi := { dst := some 57, op := Op.move (Operand.tmp 8), type := 4, pos := "law.go:118", after := #[], guard := none }) (v := ?_) rfl (by kernel_rfl) (by kernel_rfl) (by kernel_rfl) (fun _ _ _ h => h) (Or.inl ⟨by rfl, ?_⟩) hHeld ?_
      rotate_left
      · intro w hSw; (try dsimp only at hSw); go_simp; (try with_reducible rfl)
      simp only [Act.put, List.setIfInBounds_toArray, List.set_cons_zero, List.set_cons_succ]
      refine wpAnyH_take (i := 2) (oi := { dst := some 58, op := Op.move (Operand.tmp 57), type := 4, pos := "law.go:118", after := #[{ on := 1, ground := Ground.data }], guard := none }) (v := ?_) rfl (by kernel_rfl) (by kernel_rfl) (by kernel_rfl) (fun _ _ _ h => h) (Or.inl ⟨by rfl, ?_⟩) hHeld ?_
      rotate_left
      · intro w hSw; (try dsimp only at hSw); go_simp; (try with_reducible rfl)
      simp only [Act.put, List.setIfInBounds_toArray, List.set_cons_zero, List.set_cons_succ]
      refine wpAnyH_take (i := 3) (oi := { dst := some 59, op := Op.move (Operand.tmp 10), type := 4, pos := "law.go:118", after := #[{ on := 2, ground := Ground.guard }], guard := some (2, false) }) (v := ?_) rfl (by kernel_rfl) (by kernel_rfl) (by kernel_rfl) (fun _ _ _ h => h) (Or.inl ⟨by rfl, ?_⟩) hHeld ?_
      rotate_left
      · intro w hSw; (try dsimp only at hSw); go_simp; (try with_reducible rfl)
      simp only [Act.put, List.setIfInBounds_toArray, List.set_cons_zero, List.set_cons_succ]
      refine wpAnyH_take (i := 4) (oi := { dst := some 60, op := Op.pick (Operand.tmp 58) (Operand.const (Value.bool true)) (Operand.tmp 59), type := 4, pos := "law.go:118", after := #[{ on := 2, ground := Ground.data }, { on := 3, ground := Ground.data }], guard := none }) (v := ?_) rfl (by kernel_rfl) (by kernel_rfl) (by kernel_rfl) (fun _ _ _ h => h) (Or.inl ⟨by rfl, ?_⟩) hHeld ?_
      rotate_left
      · intro w hSw; (try dsimp only at hSw); go_simp; (try with_reducible rfl)
      simp only [Act.put, List.setIfInBounds_toArray, List.set_cons_zero, List.set_cons_succ]
      refine wpAnyH_take (i := 5) (oi := { dst := some 61, op := Op.binOp BinOp.eql 4 (Operand.tmp 56) (Operand.tmp 60) 4, type := 4, pos := "law.go:118", after := #[{ on := 0, ground := Ground.data }, { on := 4, ground := Ground.data }], guard := none }) (v := ?_) rfl (by kernel_rfl) (by kernel_rfl) (by kernel_rfl) (fun _ _ _ h => h) (Or.inl ⟨by rfl, ?_⟩) hHeld ?_
      rotate_left
      · intro w hSw; (try dsimp only at hSw); go_simp; (try with_reducible rfl)
      simp only [Act.put, List.setIfInBounds_toArray, List.set_cons_zero, List.set_cons_succ]
      refine wpAnyH_take (i := 6) (oi := { dst := some 62, op := Op.move (Operand.tmp 61), type := 4, pos := "law.go:118", after := #[{ on := 5, ground := Ground.data }, { on := 2, ground := Ground.chain }], guard := none }) (v := ?_) rfl (by kernel_rfl) (by kernel_rfl) (by kernel_rfl) (fun _ _ _ h => h) (Or.inl ⟨by rfl, ?_⟩) hHeld ?_
      rotate_left
      · intro w hSw; (try dsimp only at hSw); go_simp; (try with_reducible rfl)
      simp only [Act.put, List.setIfInBounds_toArray, List.set_cons_zero, List.set_cons_succ]
      refine wpAnyH_take (i := 7) (oi := { dst := some 63, op := Op.fieldAddr 29 (Operand.tmp 11) 1, type := 0, pos := "law.go:118", after := #[{ on := 6, ground := Ground.guard }], guard := some (6, true) }) (v := ?_) rfl (by kernel_rfl) (by kernel_rfl) (by kernel_rfl) (fun _ _ _ h => h) (Or.inl ⟨by rfl, ?_⟩) hHeld ?_
      rotate_left
      · intro w hSw; (try dsimp only at hSw); go_simp; (try with_reducible rfl)
      simp only [Act.put, List.setIfInBounds_toArray, List.set_cons_zero, List.set_cons_succ]
      refine wpAnyH_take (i := 8) (oi := { dst := some 64, op := Op.load 4 (Operand.tmp 63), type := 4, pos := "law.go:118", after := #[{ on := 7, ground := Ground.data }, { on := 6, ground := Ground.guard }], guard := some (6, true) }) (v := ?_) rfl (by kernel_rfl) (by kernel_rfl) (by kernel_rfl) (fun _ _ _ h => h) (Or.inl ⟨by rfl, ?_⟩) hHeld ?_
      rotate_left
      · intro w hSw; (try dsimp only at hSw); go_simp; (try with_reducible rfl)
      simp only [Act.put, List.setIfInBounds_toArray, List.set_cons_zero, List.set_cons_succ]
      refine wpAnyH_take (i := 9) (oi := { dst := some 65, op := Op.move (Operand.tmp 8), type := 4, pos := "law.go:118", after := #[{ on := 6, ground := Ground.guard }], guard := some (6, true) }) (v := ?_) rfl (by kernel_rfl) (by kernel_rfl) (by kernel_rfl) (fun _ _ _ h => h) (Or.inl ⟨by rfl, ?_⟩) hHeld ?_
      rotate_left
      · intro w hSw; (try dsimp only at hSw); go_simp; (try with_reducible rfl)
      simp only [Act.put, List.setIfInBounds_toArray, List.set_cons_zero, List.set_cons_succ]
      refine wpAnyH_take (i := 10) (oi := { dst := some 66, op := Op.move (Operand.tmp 65), type := 4, pos := "law.go:118", after := #[{ on := 9, ground := Ground.data }, { on := 6, ground := Ground.chain }, { on := 6, ground := Ground.guard }], guard := some (6, true) }) (v := ?_) rfl (by kernel_rfl) (by kernel_rfl) (by kernel_rfl) (fun _ _ _ h => h) (Or.inl ⟨by rfl, ?_⟩) hHeld ?_
      rotate_left
      · intro w hSw; (try dsimp only at hSw); go_simp; (try with_reducible rfl)
      simp only [Act.put, List.setIfInBounds_toArray, List.set_cons_zero, List.set_cons_succ]
      refine wpAnyH_take (i := 11) (oi := { dst := some 67, op := Op.move (Operand.tmp 10), type := 4, pos := "law.go:118", after := #[{ on := 10, ground := Ground.guard }], guard := some (10, true) }) (v := undef) rfl (by kernel_rfl) (by kernel_rfl) (by kernel_rfl) (fun _ _ _ h => h) (Or.inr ⟨by rfl, rfl⟩) hHeld ?_
      simp only [Act.put, List.setIfInBounds_toArray, List.set_cons_zero, List.set_cons_succ]
      refine wpAnyH_take (i := 12) (oi := { dst := some 68, op := Op.pick (Operand.tmp 66) (Operand.tmp 67) (Operand.const (Value.bool false)), type := 4, pos := "law.go:118", after := #[{ on := 10, ground := Ground.data }, { on := 11, ground := Ground.data }, { on := 6, ground := Ground.guard }], guard := some (6, true) }) (v := ?_) rfl (by kernel_rfl) (by kernel_rfl) (by kernel_rfl) (fun _ _ _ h => h) (Or.inl ⟨by rfl, ?_⟩) hHeld ?_
      rotate_left
      · intro w hSw; (try dsimp only at hSw); go_simp; (try with_reducible rfl)
      simp only [Act.put, List.setIfInBounds_toArray, List.set_cons_zero, List.set_cons_succ]
      refine wpAnyH_take (i := 13) (oi := { dst := some 69, op := Op.move (Operand.tmp 68), type := 4, pos := "law.go:118", after := #[{ on := 12, ground := Ground.data }, { on := 10, ground := Ground.chain }, { on := 6, ground := Ground.guard }], guard := some (6, true) }) (v := ?_) rfl (by kernel_rfl) (by kernel_rfl) (by kernel_rfl) (fun _ _ _ h => h) (Or.inl ⟨by rfl, ?_⟩) hHeld ?_
      rotate_left
      · intro w hSw; (try dsimp only at hSw); go_simp; (try with_reducible rfl)
      simp only [Act.put, List.setIfInBounds_toArray, List.set_cons_zero, List.set_cons_succ]
      refine wpAnyH_take (i := 14) (oi := { dst := some 70, op := Op.fieldAddr 29 (Operand.tmp 7) 1, type := 0, pos := "law.go:118", after := #[{ on := 13, ground := Ground.guard }], guard := some (13, true) }) (v := undef) rfl (by kernel_rfl) (by kernel_rfl) (by kernel_rfl) (fun _ _ _ h => h) (Or.inr ⟨by rfl, rfl⟩) hHeld ?_
      simp only [Act.put, List.setIfInBounds_toArray, List.set_cons_zero, List.set_cons_succ]
      refine wpAnyH_take (i := 15) (oi := { dst := some 71, op := Op.load 4 (Operand.tmp 70), type := 4, pos := "law.go:118", after := #[{ on := 14, ground := Ground.data }, { on := 13, ground := Ground.guard }], guard := some (13, true) }) (v := undef) rfl (by kernel_rfl) (by kernel_rfl) (by kernel_rfl) (fun _ _ _ h => h) (Or.inr ⟨by rfl, rfl⟩) hHeld ?_
      simp only [Act.put, List.setIfInBounds_toArray, List.set_cons_zero, List.set_cons_succ]
      refine wpAnyH_take (i := 16) (oi := { dst := some 72, op := Op.pick (Operand.tmp 69) (Operand.tmp 71) (Operand.const (Value.bool false)), type := 4, pos := "law.go:118", after := #[{ on := 13, ground := Ground.data }, { on := 15, ground := Ground.data }, { on := 6, ground := Ground.guard }], guard := some (6, true) }) (v := ?_) rfl (by kernel_rfl) (by kernel_rfl) (by kernel_rfl) (fun _ _ _ h => h) (Or.inl ⟨by rfl, ?_⟩) hHeld ?_
      rotate_left
      · intro w hSw; (try dsimp only at hSw); go_simp; (try with_reducible rfl)
      simp only [Act.put, List.setIfInBounds_toArray, List.set_cons_zero, List.set_cons_succ]
      refine wpAnyH_take (i := 17) (oi := { dst := some 73, op := Op.move (Operand.tmp 72), type := 4, pos := "law.go:118", after := #[{ on := 16, ground := Ground.data }, { on := 13, ground := Ground.chain }, { on := 6, ground := Ground.guard }], guard := some (6, true) }) (v := ?_) rfl (by kernel_rfl) (by kernel_rfl) (by kernel_rfl) (fun _ _ _ h => h) (Or.inl ⟨by rfl, ?_⟩) hHeld ?_
      rotate_left
      · intro w hSw; (try dsimp only at hSw); go_simp; (try with_reducible rfl)
      simp only [Act.put, List.setIfInBounds_toArray, List.set_cons_zero, List.set_cons_succ]
      refine wpAnyH_take (i := 18) (oi := { dst := some 74, op := Op.fieldAddr 29 (Operand.tmp 9) 1, type := 0, pos := "law.go:118", after := #[{ on := 17, ground := Ground.guard }], guard := some (17, true) }) (v := undef) rfl (by kernel_rfl) (by kernel_rfl) (by kernel_rfl) (fun _ _ _ h => h) (Or.inr ⟨by rfl, rfl⟩) hHeld ?_
      simp only [Act.put, List.setIfInBounds_toArray, List.set_cons_zero, List.set_cons_succ]
      refine wpAnyH_take (i := 19) (oi := { dst := some 75, op := Op.load 4 (Operand.tmp 74), type := 4, pos := "law.go:118", after := #[{ on := 18, ground := Ground.data }, { on := 17, ground := Ground.guard }], guard := some (17, true) }) (v := undef) rfl (by kernel_rfl) (by kernel_rfl) (by kernel_rfl) (fun _ _ _ h => h) (Or.inr ⟨by rfl, rfl⟩) hHeld ?_
      simp only [Act.put, List.setIfInBounds_toArray, List.set_cons_zero, List.set_cons_succ]
      refine wpAnyH_take (i := 20) (oi := { dst := some 76, op := Op.pick (Operand.tmp 73) (Operand.tmp 75) (Operand.const (Value.bool false)), type := 4, pos := "law.go:118", after := #[{ on := 17, ground := Ground.data }, { on := 19, ground := Ground.data }, { on := 6, ground := Ground.guard }], guard := some (6, true) }) (v := ?_) rfl (by kernel_rfl) (by kernel_rfl) (by kernel_rfl) (fun _ _ _ h => h) (Or.inl ⟨by rfl, ?_⟩) hHeld ?_
      rotate_left
      · intro w hSw; (try dsimp only at hSw); go_simp; (try with_reducible rfl)
      simp only [Act.put, List.setIfInBounds_toArray, List.set_cons_zero, List.set_cons_succ]
      refine wpAnyH_take (i := 21) (oi := { dst := some 77, op := Op.binOp BinOp.eql 4 (Operand.tmp 64) (Operand.tmp 76) 4, type := 4, pos := "law.go:118", after := #[{ on := 8, ground := Ground.data }, { on := 20, ground := Ground.data }, { on := 6, ground := Ground.guard }], guard := some (6, true) }) (v := ?_) rfl (by kernel_rfl) (by kernel_rfl) (by kernel_rfl) (fun _ _ _ h => h) (Or.inl ⟨by rfl, ?_⟩) hHeld ?_
      rotate_left
      · intro w hSw; (try dsimp only at hSw); go_simp; (try with_reducible rfl)
      simp only [Act.put, List.setIfInBounds_toArray, List.set_cons_zero, List.set_cons_succ]
      refine wpAnyH_take (i := 22) (oi := { dst := some 78, op := Op.pick (Operand.tmp 62) (Operand.tmp 77) (Operand.const (Value.bool false)), type := 4, pos := "law.go:118", after := #[{ on := 6, ground := Ground.data }, { on := 21, ground := Ground.data }], guard := none }) (v := ?_) rfl (by kernel_rfl) (by kernel_rfl) (by kernel_rfl) (fun _ _ _ h => h) (Or.inl ⟨by rfl, ?_⟩) hHeld ?_
      rotate_left
      · intro w hSw; (try dsimp only at hSw); go_simp; (try with_reducible rfl)
      simp only [Act.put, List.setIfInBounds_toArray, List.set_cons_zero, List.set_cons_succ]
      refine wpAnyH_take (i := 23) (oi := { dst := some 79, op := Op.move (Operand.tmp 78), type := 4, pos := "law.go:118", after := #[{ on := 22, ground := Ground.data }, { on := 17, ground := Ground.chain }], guard := none }) (v := ?_) rfl (by kernel_rfl) (by kernel_rfl) (by kernel_rfl) (fun _ _ _ h => h) (Or.inl ⟨by rfl, ?_⟩) hHeld ?_
      rotate_left
      · intro w hSw; (try dsimp only at hSw); go_simp; (try with_reducible rfl)
      simp only [Act.put, List.setIfInBounds_toArray, List.set_cons_zero, List.set_cons_succ]
      refine wpAnyH_take (i := 24) (oi := { dst := some 80, op := Op.fieldAddr 29 (Operand.tmp 11) 2, type := 0, pos := "law.go:118", after := #[{ on := 23, ground := Ground.guard }], guard := some (23, true) }) (v := ?_) rfl (by kernel_rfl) (by kernel_rfl) (by kernel_rfl) (fun _ _ _ h => h) (Or.inl ⟨by rfl, ?_⟩) hHeld ?_
      rotate_left
      · intro w hSw; (try dsimp only at hSw); go_simp; (try with_reducible rfl)
      simp only [Act.put, List.setIfInBounds_toArray, List.set_cons_zero, List.set_cons_succ]
      refine wpAnyH_take (i := 25) (oi := { dst := some 81, op := Op.load 23 (Operand.tmp 80), type := 23, pos := "law.go:118", after := #[{ on := 24, ground := Ground.data }, { on := 23, ground := Ground.guard }], guard := some (23, true) }) (v := ?_) rfl (by kernel_rfl) (by kernel_rfl) (by kernel_rfl) (fun _ _ _ h => h) (Or.inl ⟨by rfl, ?_⟩) hHeld ?_
      rotate_left
      · intro w hSw; (try dsimp only at hSw); go_simp; (try with_reducible rfl)
      simp only [Act.put, List.setIfInBounds_toArray, List.set_cons_zero, List.set_cons_succ]
      refine wpAnyH_take (i := 26) (oi := { dst := some 82, op := Op.fieldAddr 29 (Operand.tmp 7) 2, type := 0, pos := "law.go:118", after := #[{ on := 23, ground := Ground.guard }], guard := some (23, true) }) (v := ?_) rfl (by kernel_rfl) (by kernel_rfl) (by kernel_rfl) (fun _ _ _ h => h) (Or.inl ⟨by rfl, ?_⟩) hHeld ?_
      rotate_left
      · intro w hSw; (try dsimp only at hSw); go_simp; (try with_reducible rfl)
      simp only [Act.put, List.setIfInBounds_toArray, List.set_cons_zero, List.set_cons_succ]
      refine wpAnyH_take (i := 27) (oi := { dst := some 83, op := Op.load 23 (Operand.tmp 82), type := 23, pos := "law.go:118", after := #[{ on := 26, ground := Ground.data }, { on := 23, ground := Ground.guard }], guard := some (23, true) }) (v := ?_) rfl (by kernel_rfl) (by kernel_rfl) (by kernel_rfl) (fun _ _ _ h => h) (Or.inl ⟨by rfl, ?_⟩) hHeld ?_
      rotate_left
      · intro w hSw; (try dsimp only at hSw); go_simp; (try with_reducible rfl)
      simp only [Act.put, List.setIfInBounds_toArray, List.set_cons_zero, List.set_cons_succ]
      refine wpAnyH_take (i := 28) (oi := { dst := some 84, op := Op.fieldAddr 29 (Operand.tmp 9) 2, type := 0, pos := "law.go:118", after := #[{ on := 23, ground := Ground.guard }], guard := some (23, true) }) (v := ?_) rfl (by kernel_rfl) (by kernel_rfl) (by kernel_rfl) (fun _ _ _ h => h) (Or.inl ⟨by rfl, ?_⟩) hHeld ?_
      rotate_left
      · intro w hSw; (try dsimp only at hSw); go_simp; (try with_reducible rfl)
      simp only [Act.put, List.setIfInBounds_toArray, List.set_cons_zero, List.set_cons_succ]
      refine wpAnyH_take (i := 29) (oi := { dst := some 85, op := Op.load 23 (Operand.tmp 84), type := 23, pos := "law.go:118", after := #[{ on := 28, ground := Ground.data }, { on := 23, ground := Ground.guard }], guard := some (23, true) }) (v := ?_) rfl (by kernel_rfl) (by kernel_rfl) (by kernel_rfl) (fun _ _ _ h => h) (Or.inl ⟨by rfl, ?_⟩) hHeld ?_
      rotate_left
      · intro w hSw; (try dsimp only at hSw); go_simp; (try with_reducible rfl)
      simp only [Act.put, List.setIfInBounds_toArray, List.set_cons_zero, List.set_cons_succ]
      refine wpAnyH_ready (rs := [30]) (by kernel_rfl) (by simp) ?_
      refine AllReadyH.cons (o := { dst := some 86, op := Op.call { callee := Callee.value (Operand.func 30), args := #[Operand.tmp 83, Operand.tmp 85], argTypes := #[23, 23] }, type := 23, pos := "law.go:118", after := #[{ on := 27, ground := Ground.data }, { on := 29, ground := Ground.data }, { on := 23, ground := Ground.chain }, { on := 23, ground := Ground.guard }], guard := some (23, true) }) rfl (fun K hK => ?_) AllReadyH.nil
      go_simp
      refine (runion_any V18.drew _ _ vsf vsg Ff20.out Fg20.out Lf.out Lg.out).mono ?_
      rintro e z21 ⟨v21, rfl, hA, hb⟩
      have B21 := hid (B20.out.trans (hb.mono B20.out.size))
      have Ff21 := hid (Ff20.out.bel hb)
      have Fbf21 := hid (bx_bel Fbf20.out hb)
      have Fg21 := hid (Fg20.out.bel hb)
      have Fbg21 := hid (bx_bel Fbg20.out hb)
      have Fh21 := hid (Fh20.out.bel hb)
      have Fbh21 := hid (bx_bel Fbh20.out hb)
      have RB21 := hid (RB0.out.trans (hb.mono RB0.out.size))
      clear B20 Ff20 Fbf20 Fg20 Fbg20 Fh20 Fbh20 RB0
      have Fu21 := hid hA
      clear hA
      clear hb
      refine hK.out _ _ (KH.out _ RB21.out) (fun hHeld => ?_)
      refine wpAnyH_ready (rs := [31]) (by kernel_rfl) (by simp) ?_
      refine AllReadyH.cons (o := { dst := some 87, op := Op.call { callee := Callee.value (Operand.func 15), args := #[Operand.tmp 81, Operand.tmp 86], argTypes := #[23, 23] }, type := 4, pos := "law.go:118", after := #[{ on := 25, ground := Ground.data }, { on := 30, ground := Ground.data }, { on := 30, ground := Ground.chain }, { on := 23, ground := Ground.guard }], guard := some (23, true) }) rfl (fun K hK => ?_) AllReadyH.nil
      go_simp
      refine (same_any z21 _ _ vsh _ Fh21.out Fu21.out (Nat.le_trans Lh.out (by decide))).mono ?_
      rw [H3.out]
      rintro e z22 ⟨rfl, hb⟩
      have B22 := hid (B21.out.trans (hb.mono B21.out.size))
      have Ff22 := hid (Ff21.out.bel hb)
      have Fbf22 := hid (bx_bel Fbf21.out hb)
      have Fg22 := hid (Fg21.out.bel hb)
      have Fbg22 := hid (bx_bel Fbg21.out hb)
      have Fh22 := hid (Fh21.out.bel hb)
      have Fbh22 := hid (bx_bel Fbh21.out hb)
      have Fu22 := hid (Fu21.out.bel hb)
      have RB22 := hid (RB21.out.trans (hb.mono RB21.out.size))
      clear B21 Ff21 Fbf21 Fg21 Fbg21 Fh21 Fbh21 Fu21 RB21
      clear hb
      refine hK.out _ _ (KH.out _ RB22.out) (fun hHeld => ?_)
      refine wpAnyH_take (i := 32) (oi := { dst := some 88, op := Op.pick (Operand.tmp 79) (Operand.tmp 87) (Operand.const (Value.bool false)), type := 4, pos := "law.go:118", after := #[{ on := 23, ground := Ground.data }, { on := 31, ground := Ground.data }], guard := none }) (v := ?_) rfl (by kernel_rfl) (by kernel_rfl) (by kernel_rfl) (fun _ _ _ h => h) (Or.inl ⟨by rfl, ?_⟩) hHeld ?_
      rotate_left
      · intro w hSw; (try dsimp only at hSw); go_simp; (try with_reducible rfl)
      simp only [Act.put, List.setIfInBounds_toArray, List.set_cons_zero, List.set_cons_succ]
      refine wpAnyH_take (i := 33) (oi := { dst := some 6, op := Op.assign (Operand.tmp 88), type := 4, pos := "law.go:118", after := #[{ on := 32, ground := Ground.data }, { on := 31, ground := Ground.chain }, { on := 0, ground := Ground.phase }, { on := 1, ground := Ground.phase }, { on := 2, ground := Ground.phase }, { on := 3, ground := Ground.phase }, { on := 4, ground := Ground.phase }, { on := 5, ground := Ground.phase }, { on := 6, ground := Ground.phase }, { on := 7, ground := Ground.phase }, { on := 8, ground := Ground.phase }, { on := 9, ground := Ground.phase }, { on := 10, ground := Ground.phase }, { on := 11, ground := Ground.phase }, { on := 12, ground := Ground.phase }, { on := 13, ground := Ground.phase }, { on := 14, ground := Ground.phase }, { on := 15, ground := Ground.phase }, { on := 16, ground := Ground.phase }, { on := 17, ground := Ground.phase }, { on := 18, ground := Ground.phase }, { on := 19, ground := Ground.phase }, { on := 20, ground := Ground.phase }, { on := 21, ground := Ground.phase }, { on := 22, ground := Ground.phase }, { on := 23, ground := Ground.phase }, { on := 24, ground := Ground.phase }, { on := 25, ground := Ground.phase }, { on := 26, ground := Ground.phase }, { on := 27, ground := Ground.phase }, { on := 28, ground := Ground.phase }, { on := 29, ground := Ground.phase }, { on := 30, ground := Ground.phase }, { on := 31, ground := Ground.phase }, { on := 32, ground := Ground.phase }], guard := none }) (v := ?_) rfl (by kernel_rfl) (by kernel_rfl) (by kernel_rfl) (fun _ _ _ h => h) (Or.inl ⟨by rfl, ?_⟩) hHeld ?_
      rotate_left
      · intro w hSw; (try dsimp only at hSw); go_simp; (try with_reducible rfl)
      simp only [Act.put, List.setIfInBounds_toArray, List.set_cons_zero, List.set_cons_succ]
      refine wpAnyH_done (by kernel_rfl) ?_ _
      clear hHeld KH
      clear RB22
      go_wp2
      go_ret
      exact ⟨rfl, B22.out⟩
  · rcases q with _ | _
    · obtain ⟨h1, h2, h3⟩ := HJ.out
      simp only [Bool.and_true, Bool.true_and, Bool.and_false, Bool.false_and, Bool.or_true, Bool.true_or, Bool.or_false, Bool.false_or, Bool.and_self, Bool.or_self] at h1 h2
      subst h1
      have h4 := h2.symm
      subst h4
      have H3 := hid h3
      clear HJ h3
      obtain ⟨xbf0, xbf1, xbf2, _⟩ := cells3 Fbf19.out
      obtain ⟨xbg0, xbg1, xbg2, _⟩ := cells3 Fbg19.out
      obtain ⟨xbh0, xbh1, xbh2, _⟩ := cells3 Nbh.out
      go_wp2_with fail
      have KH : Hid (∀ W, Below V18.heap.size V18 W → (W.cell? ⟨w10.heap.size, 0, none⟩ = some (.string nmf) ∧ W.cell? ⟨w10.heap.size, 1, none⟩ = some (.bool suf) ∧ W.cell? ⟨w10.heap.size, 2, none⟩ = some (.slice yaf vsf.length ycf) ∧ W.cell? ⟨w13.heap.size, 0, none⟩ = some (.string nmg) ∧ W.cell? ⟨w13.heap.size, 1, none⟩ = some (.bool sug) ∧ W.cell? ⟨w13.heap.size, 2, none⟩ = some (.slice yag vsg.length ycg) ∧ W.cell? ⟨w17.heap.size, 0, none⟩ = some (.string nmh) ∧ W.cell? ⟨w17.heap.size, 1, none⟩ = some (.bool false) ∧ W.cell? ⟨w17.heap.size, 2, none⟩ = some (.slice yah vsh.length ych))) := fun W hb => by
        obtain ⟨ybf0, ybf1, ybf2, _⟩ := cells3 (bx_bel Fbf19.out hb)
        obtain ⟨ybg0, ybg1, ybg2, _⟩ := cells3 (bx_bel Fbg19.out hb)
        obtain ⟨ybh0, ybh1, ybh2, _⟩ := cells3 (bx_bel Nbh.out hb)
        exact ⟨ybf0, ybf1, ybf2, ybg0, ybg1, ybg2, ybh0, ybh1, ybh2⟩
      clear xbf0 xbf1 xbf2 xbg0 xbg1 xbg2 xbh0 xbh1 xbh2
      clear hV18
      refine wp_region_held_drew (S := fun W => W.cell? ⟨w10.heap.size, 0, none⟩ = some (.string nmf) ∧ W.cell? ⟨w10.heap.size, 1, none⟩ = some (.bool suf) ∧ W.cell? ⟨w10.heap.size, 2, none⟩ = some (.slice yaf vsf.length ycf) ∧ W.cell? ⟨w13.heap.size, 0, none⟩ = some (.string nmg) ∧ W.cell? ⟨w13.heap.size, 1, none⟩ = some (.bool sug) ∧ W.cell? ⟨w13.heap.size, 2, none⟩ = some (.slice yag vsg.length ycg) ∧ W.cell? ⟨w17.heap.size, 0, none⟩ = some (.string nmh) ∧ W.cell? ⟨w17.heap.size, 1, none⟩ = some (.bool false) ∧ W.cell? ⟨w17.heap.size, 2, none⟩ = some (.slice yah vsh.length ych)) (by kernel_rfl) (KH.out _ (Below.refl _ _).drew) (fun hHeld => ?_)
      have hbd : Below V18.heap.size V18 V18.drew := (Gr.refl _).drew.below
      have RB0 := hid hbd
      have B20 := hid (B19.out.trans (hbd.mono B19.out.size))
      have Ff20 := hid (Ff19.out.bel hbd)
      have Fbf20 := hid (bx_bel Fbf19.out hbd)
      have Fg20 := hid (Fg19.out.bel hbd)
      have Fbg20 := hid (bx_bel Fbg19.out hbd)
      have Fh20 := hid (Fh19.out.bel hbd)
      have Fbh20 := hid (bx_bel Nbh.out hbd)
      clear B19 Ff19 Fbf19 Fg19 Fbg19 Fh19 Nbh
      clear hbd
      refine wpAnyH_take (i := 0) (oi := { dst := some 56, op := Op.move (Operand.tmp 12), type := 4, pos := "law.go:118", after := #[], guard := none }) (v := ?_) rfl (by kernel_rfl) (by kernel_rfl) (by kernel_rfl) (fun _ _ _ h => h) (Or.inl ⟨by rfl, ?_⟩) hHeld ?_
      rotate_left
      · intro w hSw; (try dsimp only at hSw); go_simp; (try with_reducible rfl)
      simp only [Act.put, List.setIfInBounds_toArray, List.set_cons_zero, List.set_cons_succ]
      refine wpAnyH_take (i := 1) (oi := { dst := some 57, op := Op.move (Operand.tmp 8), type := 4, pos := "law.go:118", after := #[], guard := none }) (v := ?_) rfl (by kernel_rfl) (by kernel_rfl) (by kernel_rfl) (fun _ _ _ h => h) (Or.inl ⟨by rfl, ?_⟩) hHeld ?_
      rotate_left
      · intro w hSw; (try dsimp only at hSw); go_simp; (try with_reducible rfl)
      simp only [Act.put, List.setIfInBounds_toArray, List.set_cons_zero, List.set_cons_succ]
      refine wpAnyH_take (i := 2) (oi := { dst := some 58, op := Op.move (Operand.tmp 57), type := 4, pos := "law.go:118", after := #[{ on := 1, ground := Ground.data }], guard := none }) (v := ?_) rfl (by kernel_rfl) (by kernel_rfl) (by kernel_rfl) (fun _ _ _ h => h) (Or.inl ⟨by rfl, ?_⟩) hHeld ?_
      rotate_left
      · intro w hSw; (try dsimp only at hSw); go_simp; (try with_reducible rfl)
      simp only [Act.put, List.setIfInBounds_toArray, List.set_cons_zero, List.set_cons_succ]
      refine wpAnyH_take (i := 3) (oi := { dst := some 59, op := Op.move (Operand.tmp 10), type := 4, pos := "law.go:118", after := #[{ on := 2, ground := Ground.guard }], guard := some (2, false) }) (v := undef) rfl (by kernel_rfl) (by kernel_rfl) (by kernel_rfl) (fun _ _ _ h => h) (Or.inr ⟨by rfl, rfl⟩) hHeld ?_
      simp only [Act.put, List.setIfInBounds_toArray, List.set_cons_zero, List.set_cons_succ]
      refine wpAnyH_take (i := 4) (oi := { dst := some 60, op := Op.pick (Operand.tmp 58) (Operand.const (Value.bool true)) (Operand.tmp 59), type := 4, pos := "law.go:118", after := #[{ on := 2, ground := Ground.data }, { on := 3, ground := Ground.data }], guard := none }) (v := ?_) rfl (by kernel_rfl) (by kernel_rfl) (by kernel_rfl) (fun _ _ _ h => h) (Or.inl ⟨by rfl, ?_⟩) hHeld ?_
      rotate_left
      · intro w hSw; (try dsimp only at hSw); go_simp; (try with_reducible rfl)
      simp only [Act.put, List.setIfInBounds_toArray, List.set_cons_zero, List.set_cons_succ]
      refine wpAnyH_take (i := 5) (oi := { dst := some 61, op := Op.binOp BinOp.eql 4 (Operand.tmp 56) (Operand.tmp 60) 4, type := 4, pos := "law.go:118", after := #[{ on := 0, ground := Ground.data }, { on := 4, ground := Ground.data }], guard := none }) (v := ?_) rfl (by kernel_rfl) (by kernel_rfl) (by kernel_rfl) (fun _ _ _ h => h) (Or.inl ⟨by rfl, ?_⟩) hHeld ?_
      rotate_left
      · intro w hSw; (try dsimp only at hSw); go_simp; (try with_reducible rfl)
      simp only [Act.put, List.setIfInBounds_toArray, List.set_cons_zero, List.set_cons_succ]
      refine wpAnyH_take (i := 6) (oi := { dst := some 62, op := Op.move (Operand.tmp 61), type := 4, pos := "law.go:118", after := #[{ on := 5, ground := Ground.data }, { on := 2, ground := Ground.chain }], guard := none }) (v := ?_) rfl (by kernel_rfl) (by kernel_rfl) (by kernel_rfl) (fun _ _ _ h => h) (Or.inl ⟨by rfl, ?_⟩) hHeld ?_
      rotate_left
      · intro w hSw; (try dsimp only at hSw); go_simp; (try with_reducible rfl)
      simp only [Act.put, List.setIfInBounds_toArray, List.set_cons_zero, List.set_cons_succ]
      refine wpAnyH_take (i := 7) (oi := { dst := some 63, op := Op.fieldAddr 29 (Operand.tmp 11) 1, type := 0, pos := "law.go:118", after := #[{ on := 6, ground := Ground.guard }], guard := some (6, true) }) (v := ?_) rfl (by kernel_rfl) (by kernel_rfl) (by kernel_rfl) (fun _ _ _ h => h) (Or.inl ⟨by rfl, ?_⟩) hHeld ?_
      rotate_left
      · intro w hSw; (try dsimp only at hSw); go_simp; (try with_reducible rfl)
      simp only [Act.put, List.setIfInBounds_toArray, List.set_cons_zero, List.set_cons_succ]
      refine wpAnyH_take (i := 8) (oi := { dst := some 64, op := Op.load 4 (Operand.tmp 63), type := 4, pos := "law.go:118", after := #[{ on := 7, ground := Ground.data }, { on := 6, ground := Ground.guard }], guard := some (6, true) }) (v := ?_) rfl (by kernel_rfl) (by kernel_rfl) (by kernel_rfl) (fun _ _ _ h => h) (Or.inl ⟨by rfl, ?_⟩) hHeld ?_
      rotate_left
      · intro w hSw; (try dsimp only at hSw); go_simp; (try with_reducible rfl)
      simp only [Act.put, List.setIfInBounds_toArray, List.set_cons_zero, List.set_cons_succ]
      refine wpAnyH_take (i := 9) (oi := { dst := some 65, op := Op.move (Operand.tmp 8), type := 4, pos := "law.go:118", after := #[{ on := 6, ground := Ground.guard }], guard := some (6, true) }) (v := ?_) rfl (by kernel_rfl) (by kernel_rfl) (by kernel_rfl) (fun _ _ _ h => h) (Or.inl ⟨by rfl, ?_⟩) hHeld ?_
      rotate_left
      · intro w hSw; (try dsimp only at hSw); go_simp; (try with_reducible rfl)
      simp only [Act.put, List.setIfInBounds_toArray, List.set_cons_zero, List.set_cons_succ]
      refine wpAnyH_take (i := 10) (oi := { dst := some 66, op := Op.move (Operand.tmp 65), type := 4, pos := "law.go:118", after := #[{ on := 9, ground := Ground.data }, { on := 6, ground := Ground.chain }, { on := 6, ground := Ground.guard }], guard := some (6, true) }) (v := ?_) rfl (by kernel_rfl) (by kernel_rfl) (by kernel_rfl) (fun _ _ _ h => h) (Or.inl ⟨by rfl, ?_⟩) hHeld ?_
      rotate_left
      · intro w hSw; (try dsimp only at hSw); go_simp; (try with_reducible rfl)
      simp only [Act.put, List.setIfInBounds_toArray, List.set_cons_zero, List.set_cons_succ]
      refine wpAnyH_take (i := 11) (oi := { dst := some 67, op := Op.move (Operand.tmp 10), type := 4, pos := "law.go:118", after := #[{ on := 10, ground := Ground.guard }], guard := some (10, true) }) (v := ?_) rfl (by kernel_rfl) (by kernel_rfl) (by kernel_rfl) (fun _ _ _ h => h) (Or.inl ⟨by rfl, ?_⟩) hHeld ?_
      rotate_left
      · intro w hSw; (try dsimp only at hSw); go_simp; (try with_reducible rfl)
      simp only [Act.put, List.setIfInBounds_toArray, List.set_cons_zero, List.set_cons_succ]
      refine wpAnyH_take (i := 12) (oi := { dst := some 68, op := Op.pick (Operand.tmp 66) (Operand.tmp 67) (Operand.const (Value.bool false)), type := 4, pos := "law.go:118", after := #[{ on := 10, ground := Ground.data }, { on := 11, ground := Ground.data }, { on := 6, ground := Ground.guard }], guard := some (6, true) }) (v := ?_) rfl (by kernel_rfl) (by kernel_rfl) (by kernel_rfl) (fun _ _ _ h => h) (Or.inl ⟨by rfl, ?_⟩) hHeld ?_
      rotate_left
      · intro w hSw; (try dsimp only at hSw); go_simp; (try with_reducible rfl)
      simp only [Act.put, List.setIfInBounds_toArray, List.set_cons_zero, List.set_cons_succ]
      refine wpAnyH_take (i := 13) (oi := { dst := some 69, op := Op.move (Operand.tmp 68), type := 4, pos := "law.go:118", after := #[{ on := 12, ground := Ground.data }, { on := 10, ground := Ground.chain }, { on := 6, ground := Ground.guard }], guard := some (6, true) }) (v := ?_) rfl (by kernel_rfl) (by kernel_rfl) (by kernel_rfl) (fun _ _ _ h => h) (Or.inl ⟨by rfl, ?_⟩) hHeld ?_
      rotate_left
      · intro w hSw; (try dsimp only at hSw); go_simp; (try with_reducible rfl)
      simp only [Act.put, List.setIfInBounds_toArray, List.set_cons_zero, List.set_cons_succ]
      refine wpAnyH_take (i := 14) (oi := { dst := some 70, op := Op.fieldAddr 29 (Operand.tmp 7) 1, type := 0, pos := "law.go:118", after := #[{ on := 13, ground := Ground.guard }], guard := some (13, true) }) (v := undef) rfl (by kernel_rfl) (by kernel_rfl) (by kernel_rfl) (fun _ _ _ h => h) (Or.inr ⟨by rfl, rfl⟩) hHeld ?_
      simp only [Act.put, List.setIfInBounds_toArray, List.set_cons_zero, List.set_cons_succ]
      refine wpAnyH_take (i := 15) (oi := { dst := some 71, op := Op.load 4 (Operand.tmp 70), type := 4, pos := "law.go:118", after := #[{ on := 14, ground := Ground.data }, { on := 13, ground := Ground.guard }], guard := some (13, true) }) (v := undef) rfl (by kernel_rfl) (by kernel_rfl) (by kernel_rfl) (fun _ _ _ h => h) (Or.inr ⟨by rfl, rfl⟩) hHeld ?_
      simp only [Act.put, List.setIfInBounds_toArray, List.set_cons_zero, List.set_cons_succ]
      refine wpAnyH_take (i := 16) (oi := { dst := some 72, op := Op.pick (Operand.tmp 69) (Operand.tmp 71) (Operand.const (Value.bool false)), type := 4, pos := "law.go:118", after := #[{ on := 13, ground := Ground.data }, { on := 15, ground := Ground.data }, { on := 6, ground := Ground.guard }], guard := some (6, true) }) (v := ?_) rfl (by kernel_rfl) (by kernel_rfl) (by kernel_rfl) (fun _ _ _ h => h) (Or.inl ⟨by rfl, ?_⟩) hHeld ?_
      rotate_left
      · intro w hSw; (try dsimp only at hSw); go_simp; (try with_reducible rfl)
      simp only [Act.put, List.setIfInBounds_toArray, List.set_cons_zero, List.set_cons_succ]
      refine wpAnyH_take (i := 17) (oi := { dst := some 73, op := Op.move (Operand.tmp 72), type := 4, pos := "law.go:118", after := #[{ on := 16, ground := Ground.data }, { on := 13, ground := Ground.chain }, { on := 6, ground := Ground.guard }], guard := some (6, true) }) (v := ?_) rfl (by kernel_rfl) (by kernel_rfl) (by kernel_rfl) (fun _ _ _ h => h) (Or.inl ⟨by rfl, ?_⟩) hHeld ?_
      rotate_left
      · intro w hSw; (try dsimp only at hSw); go_simp; (try with_reducible rfl)
      simp only [Act.put, List.setIfInBounds_toArray, List.set_cons_zero, List.set_cons_succ]
      refine wpAnyH_take (i := 18) (oi := { dst := some 74, op := Op.fieldAddr 29 (Operand.tmp 9) 1, type := 0, pos := "law.go:118", after := #[{ on := 17, ground := Ground.guard }], guard := some (17, true) }) (v := undef) rfl (by kernel_rfl) (by kernel_rfl) (by kernel_rfl) (fun _ _ _ h => h) (Or.inr ⟨by rfl, rfl⟩) hHeld ?_
      simp only [Act.put, List.setIfInBounds_toArray, List.set_cons_zero, List.set_cons_succ]
      refine wpAnyH_take (i := 19) (oi := { dst := some 75, op := Op.load 4 (Operand.tmp 74), type := 4, pos := "law.go:118", after := #[{ on := 18, ground := Ground.data }, { on := 17, ground := Ground.guard }], guard := some (17, true) }) (v := undef) rfl (by kernel_rfl) (by kernel_rfl) (by kernel_rfl) (fun _ _ _ h => h) (Or.inr ⟨by rfl, rfl⟩) hHeld ?_
      simp only [Act.put, List.setIfInBounds_toArray, List.set_cons_zero, List.set_cons_succ]
      refine wpAnyH_take (i := 20) (oi := { dst := some 76, op := Op.pick (Operand.tmp 73) (Operand.tmp 75) (Operand.const (Value.bool false)), type := 4, pos := "law.go:118", after := #[{ on := 17, ground := Ground.data }, { on := 19, ground := Ground.data }, { on := 6, ground := Ground.guard }], guard := some (6, true) }) (v := ?_) rfl (by kernel_rfl) (by kernel_rfl) (by kernel_rfl) (fun _ _ _ h => h) (Or.inl ⟨by rfl, ?_⟩) hHeld ?_
      rotate_left
      · intro w hSw; (try dsimp only at hSw); go_simp; (try with_reducible rfl)
      simp only [Act.put, List.setIfInBounds_toArray, List.set_cons_zero, List.set_cons_succ]
      refine wpAnyH_take (i := 21) (oi := { dst := some 77, op := Op.binOp BinOp.eql 4 (Operand.tmp 64) (Operand.tmp 76) 4, type := 4, pos := "law.go:118", after := #[{ on := 8, ground := Ground.data }, { on := 20, ground := Ground.data }, { on := 6, ground := Ground.guard }], guard := some (6, true) }) (v := ?_) rfl (by kernel_rfl) (by kernel_rfl) (by kernel_rfl) (fun _ _ _ h => h) (Or.inl ⟨by rfl, ?_⟩) hHeld ?_
      rotate_left
      · intro w hSw; (try dsimp only at hSw); go_simp; (try with_reducible rfl)
      simp only [Act.put, List.setIfInBounds_toArray, List.set_cons_zero, List.set_cons_succ]
      refine wpAnyH_take (i := 22) (oi := { dst := some 78, op := Op.pick (Operand.tmp 62) (Operand.tmp 77) (Operand.const (Value.bool false)), type := 4, pos := "law.go:118", after := #[{ on := 6, ground := Ground.data }, { on := 21, ground := Ground.data }], guard := none }) (v := ?_) rfl (by kernel_rfl) (by kernel_rfl) (by kernel_rfl) (fun _ _ _ h => h) (Or.inl ⟨by rfl, ?_⟩) hHeld ?_
      rotate_left
      · intro w hSw; (try dsimp only at hSw); go_simp; (try with_reducible rfl)
      simp only [Act.put, List.setIfInBounds_toArray, List.set_cons_zero, List.set_cons_succ]
      refine wpAnyH_take (i := 23) (oi := { dst := some 79, op := Op.move (Operand.tmp 78), type := 4, pos := "law.go:118", after := #[{ on := 22, ground := Ground.data }, { on := 17, ground := Ground.chain }], guard := none }) (v := ?_) rfl (by kernel_rfl) (by kernel_rfl) (by kernel_rfl) (fun _ _ _ h => h) (Or.inl ⟨by rfl, ?_⟩) hHeld ?_
      rotate_left
      · intro w hSw; (try dsimp only at hSw); go_simp; (try with_reducible rfl)
      simp only [Act.put, List.setIfInBounds_toArray, List.set_cons_zero, List.set_cons_succ]
      refine wpAnyH_take (i := 24) (oi := { dst := some 80, op := Op.fieldAddr 29 (Operand.tmp 11) 2, type := 0, pos := "law.go:118", after := #[{ on := 23, ground := Ground.guard }], guard := some (23, true) }) (v := ?_) rfl (by kernel_rfl) (by kernel_rfl) (by kernel_rfl) (fun _ _ _ h => h) (Or.inl ⟨by rfl, ?_⟩) hHeld ?_
      rotate_left
      · intro w hSw; (try dsimp only at hSw); go_simp; (try with_reducible rfl)
      simp only [Act.put, List.setIfInBounds_toArray, List.set_cons_zero, List.set_cons_succ]
      refine wpAnyH_take (i := 25) (oi := { dst := some 81, op := Op.load 23 (Operand.tmp 80), type := 23, pos := "law.go:118", after := #[{ on := 24, ground := Ground.data }, { on := 23, ground := Ground.guard }], guard := some (23, true) }) (v := ?_) rfl (by kernel_rfl) (by kernel_rfl) (by kernel_rfl) (fun _ _ _ h => h) (Or.inl ⟨by rfl, ?_⟩) hHeld ?_
      rotate_left
      · intro w hSw; (try dsimp only at hSw); go_simp; (try with_reducible rfl)
      simp only [Act.put, List.setIfInBounds_toArray, List.set_cons_zero, List.set_cons_succ]
      refine wpAnyH_take (i := 26) (oi := { dst := some 82, op := Op.fieldAddr 29 (Operand.tmp 7) 2, type := 0, pos := "law.go:118", after := #[{ on := 23, ground := Ground.guard }], guard := some (23, true) }) (v := ?_) rfl (by kernel_rfl) (by kernel_rfl) (by kernel_rfl) (fun _ _ _ h => h) (Or.inl ⟨by rfl, ?_⟩) hHeld ?_
      rotate_left
      · intro w hSw; (try dsimp only at hSw); go_simp; (try with_reducible rfl)
      simp only [Act.put, List.setIfInBounds_toArray, List.set_cons_zero, List.set_cons_succ]
      refine wpAnyH_take (i := 27) (oi := { dst := some 83, op := Op.load 23 (Operand.tmp 82), type := 23, pos := "law.go:118", after := #[{ on := 26, ground := Ground.data }, { on := 23, ground := Ground.guard }], guard := some (23, true) }) (v := ?_) rfl (by kernel_rfl) (by kernel_rfl) (by kernel_rfl) (fun _ _ _ h => h) (Or.inl ⟨by rfl, ?_⟩) hHeld ?_
      rotate_left
      · intro w hSw; (try dsimp only at hSw); go_simp; (try with_reducible rfl)
      simp only [Act.put, List.setIfInBounds_toArray, List.set_cons_zero, List.set_cons_succ]
      refine wpAnyH_take (i := 28) (oi := { dst := some 84, op := Op.fieldAddr 29 (Operand.tmp 9) 2, type := 0, pos := "law.go:118", after := #[{ on := 23, ground := Ground.guard }], guard := some (23, true) }) (v := ?_) rfl (by kernel_rfl) (by kernel_rfl) (by kernel_rfl) (fun _ _ _ h => h) (Or.inl ⟨by rfl, ?_⟩) hHeld ?_
      rotate_left
      · intro w hSw; (try dsimp only at hSw); go_simp; (try with_reducible rfl)
      simp only [Act.put, List.setIfInBounds_toArray, List.set_cons_zero, List.set_cons_succ]
      refine wpAnyH_take (i := 29) (oi := { dst := some 85, op := Op.load 23 (Operand.tmp 84), type := 23, pos := "law.go:118", after := #[{ on := 28, ground := Ground.data }, { on := 23, ground := Ground.guard }], guard := some (23, true) }) (v := ?_) rfl (by kernel_rfl) (by kernel_rfl) (by kernel_rfl) (fun _ _ _ h => h) (Or.inl ⟨by rfl, ?_⟩) hHeld ?_
      rotate_left
      · intro w hSw; (try dsimp only at hSw); go_simp; (try with_reducible rfl)
      simp only [Act.put, List.setIfInBounds_toArray, List.set_cons_zero, List.set_cons_succ]
      refine wpAnyH_ready (rs := [30]) (by kernel_rfl) (by simp) ?_
      refine AllReadyH.cons (o := { dst := some 86, op := Op.call { callee := Callee.value (Operand.func 30), args := #[Operand.tmp 83, Operand.tmp 85], argTypes := #[23, 23] }, type := 23, pos := "law.go:118", after := #[{ on := 27, ground := Ground.data }, { on := 29, ground := Ground.data }, { on := 23, ground := Ground.chain }, { on := 23, ground := Ground.guard }], guard := some (23, true) }) rfl (fun K hK => ?_) AllReadyH.nil
      go_simp
      refine (runion_any V18.drew _ _ vsf vsg Ff20.out Fg20.out Lf.out Lg.out).mono ?_
      rintro e z21 ⟨v21, rfl, hA, hb⟩
      have B21 := hid (B20.out.trans (hb.mono B20.out.size))
      have Ff21 := hid (Ff20.out.bel hb)
      have Fbf21 := hid (bx_bel Fbf20.out hb)
      have Fg21 := hid (Fg20.out.bel hb)
      have Fbg21 := hid (bx_bel Fbg20.out hb)
      have Fh21 := hid (Fh20.out.bel hb)
      have Fbh21 := hid (bx_bel Fbh20.out hb)
      have RB21 := hid (RB0.out.trans (hb.mono RB0.out.size))
      clear B20 Ff20 Fbf20 Fg20 Fbg20 Fh20 Fbh20 RB0
      have Fu21 := hid hA
      clear hA
      clear hb
      refine hK.out _ _ (KH.out _ RB21.out) (fun hHeld => ?_)
      refine wpAnyH_ready (rs := [31]) (by kernel_rfl) (by simp) ?_
      refine AllReadyH.cons (o := { dst := some 87, op := Op.call { callee := Callee.value (Operand.func 15), args := #[Operand.tmp 81, Operand.tmp 86], argTypes := #[23, 23] }, type := 4, pos := "law.go:118", after := #[{ on := 25, ground := Ground.data }, { on := 30, ground := Ground.data }, { on := 30, ground := Ground.chain }, { on := 23, ground := Ground.guard }], guard := some (23, true) }) rfl (fun K hK => ?_) AllReadyH.nil
      go_simp
      refine (same_any z21 _ _ vsh _ Fh21.out Fu21.out (Nat.le_trans Lh.out (by decide))).mono ?_
      rw [H3.out]
      rintro e z22 ⟨rfl, hb⟩
      have B22 := hid (B21.out.trans (hb.mono B21.out.size))
      have Ff22 := hid (Ff21.out.bel hb)
      have Fbf22 := hid (bx_bel Fbf21.out hb)
      have Fg22 := hid (Fg21.out.bel hb)
      have Fbg22 := hid (bx_bel Fbg21.out hb)
      have Fh22 := hid (Fh21.out.bel hb)
      have Fbh22 := hid (bx_bel Fbh21.out hb)
      have Fu22 := hid (Fu21.out.bel hb)
      have RB22 := hid (RB21.out.trans (hb.mono RB21.out.size))
      clear B21 Ff21 Fbf21 Fg21 Fbg21 Fh21 Fbh21 Fu21 RB21
      clear hb
      refine hK.out _ _ (KH.out _ RB22.out) (fun hHeld => ?_)
      refine wpAnyH_take (i := 32) (oi := { dst := some 88, op := Op.pick (Operand.tmp 79) (Operand.tmp 87) (Operand.const (Value.bool false)), type := 4, pos := "law.go:118", after := #[{ on := 23, ground := Ground.data }, { on := 31, ground := Ground.data }], guard := none }) (v := ?_) rfl (by kernel_rfl) (by kernel_rfl) (by kernel_rfl) (fun _ _ _ h => h) (Or.inl ⟨by rfl, ?_⟩) hHeld ?_
      rotate_left
      · intro w hSw; (try dsimp only at hSw); go_simp; (try with_reducible rfl)
      simp only [Act.put, List.setIfInBounds_toArray, List.set_cons_zero, List.set_cons_succ]
      refine wpAnyH_take (i := 33) (oi := { dst := some 6, op := Op.assign (Operand.tmp 88), type := 4, pos := "law.go:118", after := #[{ on := 32, ground := Ground.data }, { on := 31, ground := Ground.chain }, { on := 0, ground := Ground.phase }, { on := 1, ground := Ground.phase }, { on := 2, ground := Ground.phase }, { on := 3, ground := Ground.phase }, { on := 4, ground := Ground.phase }, { on := 5, ground := Ground.phase }, { on := 6, ground := Ground.phase }, { on := 7, ground := Ground.phase }, { on := 8, ground := Ground.phase }, { on := 9, ground := Ground.phase }, { on := 10, ground := Ground.phase }, { on := 11, ground := Ground.phase }, { on := 12, ground := Ground.phase }, { on := 13, ground := Ground.phase }, { on := 14, ground := Ground.phase }, { on := 15, ground := Ground.phase }, { on := 16, ground := Ground.phase }, { on := 17, ground := Ground.phase }, { on := 18, ground := Ground.phase }, { on := 19, ground := Ground.phase }, { on := 20, ground := Ground.phase }, { on := 21, ground := Ground.phase }, { on := 22, ground := Ground.phase }, { on := 23, ground := Ground.phase }, { on := 24, ground := Ground.phase }, { on := 25, ground := Ground.phase }, { on := 26, ground := Ground.phase }, { on := 27, ground := Ground.phase }, { on := 28, ground := Ground.phase }, { on := 29, ground := Ground.phase }, { on := 30, ground := Ground.phase }, { on := 31, ground := Ground.phase }, { on := 32, ground := Ground.phase }], guard := none }) (v := ?_) rfl (by kernel_rfl) (by kernel_rfl) (by kernel_rfl) (fun _ _ _ h => h) (Or.inl ⟨by rfl, ?_⟩) hHeld ?_
      rotate_left
      · intro w hSw; (try dsimp only at hSw); go_simp; (try with_reducible rfl)
      simp only [Act.put, List.setIfInBounds_toArray, List.set_cons_zero, List.set_cons_succ]
      refine wpAnyH_done (by kernel_rfl) ?_ _
      clear hHeld KH
      clear RB22
      go_wp2
      go_ret
      exact ⟨rfl, B22.out⟩
    · rcases suf with _ | _
      · obtain ⟨h1, h2, h3⟩ := HJ.out
        simp only [Bool.and_true, Bool.true_and, Bool.and_false, Bool.false_and, Bool.or_true, Bool.true_or, Bool.or_false, Bool.false_or, Bool.and_self, Bool.or_self] at h1 h2
        subst h1
        have h4 := h2.symm
        subst h4
        have H3 := hid h3
        clear HJ h3
        obtain ⟨xbf0, xbf1, xbf2, _⟩ := cells3 Fbf19.out
        obtain ⟨xbg0, xbg1, xbg2, _⟩ := cells3 Fbg19.out
        obtain ⟨xbh0, xbh1, xbh2, _⟩ := cells3 Nbh.out
        go_wp2_with fail
        have KH : Hid (∀ W, Below V18.heap.size V18 W → (W.cell? ⟨w10.heap.size, 0, none⟩ = some (.string nmf) ∧ W.cell? ⟨w10.heap.size, 1, none⟩ = some (.bool false) ∧ W.cell? ⟨w10.heap.size, 2, none⟩ = some (.slice yaf vsf.length ycf) ∧ W.cell? ⟨w13.heap.size, 0, none⟩ = some (.string nmg) ∧ W.cell? ⟨w13.heap.size, 1, none⟩ = some (.bool sug) ∧ W.cell? ⟨w13.heap.size, 2, none⟩ = some (.slice yag vsg.length ycg) ∧ W.cell? ⟨w17.heap.size, 0, none⟩ = some (.string nmh) ∧ W.cell? ⟨w17.heap.size, 1, none⟩ = some (.bool false) ∧ W.cell? ⟨w17.heap.size, 2, none⟩ = some (.slice yah vsh.length ych))) := fun W hb => by
          obtain ⟨ybf0, ybf1, ybf2, _⟩ := cells3 (bx_bel Fbf19.out hb)
          obtain ⟨ybg0, ybg1, ybg2, _⟩ := cells3 (bx_bel Fbg19.out hb)
          obtain ⟨ybh0, ybh1, ybh2, _⟩ := cells3 (bx_bel Nbh.out hb)
          exact ⟨ybf0, ybf1, ybf2, ybg0, ybg1, ybg2, ybh0, ybh1, ybh2⟩
        clear xbf0 xbf1 xbf2 xbg0 xbg1 xbg2 xbh0 xbh1 xbh2
        clear hV18
        refine wp_region_held_drew (S := fun W => W.cell? ⟨w10.heap.size, 0, none⟩ = some (.string nmf) ∧ W.cell? ⟨w10.heap.size, 1, none⟩ = some (.bool false) ∧ W.cell? ⟨w10.heap.size, 2, none⟩ = some (.slice yaf vsf.length ycf) ∧ W.cell? ⟨w13.heap.size, 0, none⟩ = some (.string nmg) ∧ W.cell? ⟨w13.heap.size, 1, none⟩ = some (.bool sug) ∧ W.cell? ⟨w13.heap.size, 2, none⟩ = some (.slice yag vsg.length ycg) ∧ W.cell? ⟨w17.heap.size, 0, none⟩ = some (.string nmh) ∧ W.cell? ⟨w17.heap.size, 1, none⟩ = some (.bool false) ∧ W.cell? ⟨w17.heap.size, 2, none⟩ = some (.slice yah vsh.length ych)) (by kernel_rfl) (KH.out _ (Below.refl _ _).drew) (fun hHeld => ?_)
        have hbd : Below V18.heap.size V18 V18.drew := (Gr.refl _).drew.below
        have RB0 := hid hbd
        have B20 := hid (B19.out.trans (hbd.mono B19.out.size))
        have Ff20 := hid (Ff19.out.bel hbd)
        have Fbf20 := hid (bx_bel Fbf19.out hbd)
        have Fg20 := hid (Fg19.out.bel hbd)
        have Fbg20 := hid (bx_bel Fbg19.out hbd)
        have Fh20 := hid (Fh19.out.bel hbd)
        have Fbh20 := hid (bx_bel Nbh.out hbd)
        clear B19 Ff19 Fbf19 Fg19 Fbg19 Fh19 Nbh
        clear hbd
        refine wpAnyH_take (i := 0) (oi := { dst := some 56, op := Op.move (Operand.tmp 12), type := 4, pos := "law.go:118", after := #[], guard := none }) (v := ?_) rfl (by kernel_rfl) (by kernel_rfl) (by kernel_rfl) (fun _ _ _ h => h) (Or.inl ⟨by rfl, ?_⟩) hHeld ?_
        rotate_left
        · intro w hSw; (try dsimp only at hSw); go_simp; (try with_reducible rfl)
        simp only [Act.put, List.setIfInBounds_toArray, List.set_cons_zero, List.set_cons_succ]
        refine wpAnyH_take (i := 1) (oi := { dst := some 57, op := Op.move (Operand.tmp 8), type := 4, pos := "law.go:118", after := #[], guard := none }) (v := ?_) rfl (by kernel_rfl) (by kernel_rfl) (by kernel_rfl) (fun _ _ _ h => h) (Or.inl ⟨by rfl, ?_⟩) hHeld ?_
        rotate_left
        · intro w hSw; (try dsimp only at hSw); go_simp; (try with_reducible rfl)
        simp only [Act.put, List.setIfInBounds_toArray, List.set_cons_zero, List.set_cons_succ]
        refine wpAnyH_take (i := 2) (oi := { dst := some 58, op := Op.move (Operand.tmp 57), type := 4, pos := "law.go:118", after := #[{ on := 1, ground := Ground.data }], guard := none }) (v := ?_) rfl (by kernel_rfl) (by kernel_rfl) (by kernel_rfl) (fun _ _ _ h => h) (Or.inl ⟨by rfl, ?_⟩) hHeld ?_
        rotate_left
        · intro w hSw; (try dsimp only at hSw); go_simp; (try with_reducible rfl)
        simp only [Act.put, List.setIfInBounds_toArray, List.set_cons_zero, List.set_cons_succ]
        refine wpAnyH_take (i := 3) (oi := { dst := some 59, op := Op.move (Operand.tmp 10), type := 4, pos := "law.go:118", after := #[{ on := 2, ground := Ground.guard }], guard := some (2, false) }) (v := undef) rfl (by kernel_rfl) (by kernel_rfl) (by kernel_rfl) (fun _ _ _ h => h) (Or.inr ⟨by rfl, rfl⟩) hHeld ?_
        simp only [Act.put, List.setIfInBounds_toArray, List.set_cons_zero, List.set_cons_succ]
        refine wpAnyH_take (i := 4) (oi := { dst := some 60, op := Op.pick (Operand.tmp 58) (Operand.const (Value.bool true)) (Operand.tmp 59), type := 4, pos := "law.go:118", after := #[{ on := 2, ground := Ground.data }, { on := 3, ground := Ground.data }], guard := none }) (v := ?_) rfl (by kernel_rfl) (by kernel_rfl) (by kernel_rfl) (fun _ _ _ h => h) (Or.inl ⟨by rfl, ?_⟩) hHeld ?_
        rotate_left
        · intro w hSw; (try dsimp only at hSw); go_simp; (try with_reducible rfl)
        simp only [Act.put, List.setIfInBounds_toArray, List.set_cons_zero, List.set_cons_succ]
        refine wpAnyH_take (i := 5) (oi := { dst := some 61, op := Op.binOp BinOp.eql 4 (Operand.tmp 56) (Operand.tmp 60) 4, type := 4, pos := "law.go:118", after := #[{ on := 0, ground := Ground.data }, { on := 4, ground := Ground.data }], guard := none }) (v := ?_) rfl (by kernel_rfl) (by kernel_rfl) (by kernel_rfl) (fun _ _ _ h => h) (Or.inl ⟨by rfl, ?_⟩) hHeld ?_
        rotate_left
        · intro w hSw; (try dsimp only at hSw); go_simp; (try with_reducible rfl)
        simp only [Act.put, List.setIfInBounds_toArray, List.set_cons_zero, List.set_cons_succ]
        refine wpAnyH_take (i := 6) (oi := { dst := some 62, op := Op.move (Operand.tmp 61), type := 4, pos := "law.go:118", after := #[{ on := 5, ground := Ground.data }, { on := 2, ground := Ground.chain }], guard := none }) (v := ?_) rfl (by kernel_rfl) (by kernel_rfl) (by kernel_rfl) (fun _ _ _ h => h) (Or.inl ⟨by rfl, ?_⟩) hHeld ?_
        rotate_left
        · intro w hSw; (try dsimp only at hSw); go_simp; (try with_reducible rfl)
        simp only [Act.put, List.setIfInBounds_toArray, List.set_cons_zero, List.set_cons_succ]
        refine wpAnyH_take (i := 7) (oi := { dst := some 63, op := Op.fieldAddr 29 (Operand.tmp 11) 1, type := 0, pos := "law.go:118", after := #[{ on := 6, ground := Ground.guard }], guard := some (6, true) }) (v := ?_) rfl (by kernel_rfl) (by kernel_rfl) (by kernel_rfl) (fun _ _ _ h => h) (Or.inl ⟨by rfl, ?_⟩) hHeld ?_
        rotate_left
        · intro w hSw; (try dsimp only at hSw); go_simp; (try with_reducible rfl)
        simp only [Act.put, List.setIfInBounds_toArray, List.set_cons_zero, List.set_cons_succ]
        refine wpAnyH_take (i := 8) (oi := { dst := some 64, op := Op.load 4 (Operand.tmp 63), type := 4, pos := "law.go:118", after := #[{ on := 7, ground := Ground.data }, { on := 6, ground := Ground.guard }], guard := some (6, true) }) (v := ?_) rfl (by kernel_rfl) (by kernel_rfl) (by kernel_rfl) (fun _ _ _ h => h) (Or.inl ⟨by rfl, ?_⟩) hHeld ?_
        rotate_left
        · intro w hSw; (try dsimp only at hSw); go_simp; (try with_reducible rfl)
        simp only [Act.put, List.setIfInBounds_toArray, List.set_cons_zero, List.set_cons_succ]
        refine wpAnyH_take (i := 9) (oi := { dst := some 65, op := Op.move (Operand.tmp 8), type := 4, pos := "law.go:118", after := #[{ on := 6, ground := Ground.guard }], guard := some (6, true) }) (v := ?_) rfl (by kernel_rfl) (by kernel_rfl) (by kernel_rfl) (fun _ _ _ h => h) (Or.inl ⟨by rfl, ?_⟩) hHeld ?_
        rotate_left
        · intro w hSw; (try dsimp only at hSw); go_simp; (try with_reducible rfl)
        simp only [Act.put, List.setIfInBounds_toArray, List.set_cons_zero, List.set_cons_succ]
        refine wpAnyH_take (i := 10) (oi := { dst := some 66, op := Op.move (Operand.tmp 65), type := 4, pos := "law.go:118", after := #[{ on := 9, ground := Ground.data }, { on := 6, ground := Ground.chain }, { on := 6, ground := Ground.guard }], guard := some (6, true) }) (v := ?_) rfl (by kernel_rfl) (by kernel_rfl) (by kernel_rfl) (fun _ _ _ h => h) (Or.inl ⟨by rfl, ?_⟩) hHeld ?_
        rotate_left
        · intro w hSw; (try dsimp only at hSw); go_simp; (try with_reducible rfl)
        simp only [Act.put, List.setIfInBounds_toArray, List.set_cons_zero, List.set_cons_succ]
        refine wpAnyH_take (i := 11) (oi := { dst := some 67, op := Op.move (Operand.tmp 10), type := 4, pos := "law.go:118", after := #[{ on := 10, ground := Ground.guard }], guard := some (10, true) }) (v := ?_) rfl (by kernel_rfl) (by kernel_rfl) (by kernel_rfl) (fun _ _ _ h => h) (Or.inl ⟨by rfl, ?_⟩) hHeld ?_
        rotate_left
        · intro w hSw; (try dsimp only at hSw); go_simp; (try with_reducible rfl)
        simp only [Act.put, List.setIfInBounds_toArray, List.set_cons_zero, List.set_cons_succ]
        refine wpAnyH_take (i := 12) (oi := { dst := some 68, op := Op.pick (Operand.tmp 66) (Operand.tmp 67) (Operand.const (Value.bool false)), type := 4, pos := "law.go:118", after := #[{ on := 10, ground := Ground.data }, { on := 11, ground := Ground.data }, { on := 6, ground := Ground.guard }], guard := some (6, true) }) (v := ?_) rfl (by kernel_rfl) (by kernel_rfl) (by kernel_rfl) (fun _ _ _ h => h) (Or.inl ⟨by rfl, ?_⟩) hHeld ?_
        rotate_left
        · intro w hSw; (try dsimp only at hSw); go_simp; (try with_reducible rfl)
        simp only [Act.put, List.setIfInBounds_toArray, List.set_cons_zero, List.set_cons_succ]
        refine wpAnyH_take (i := 13) (oi := { dst := some 69, op := Op.move (Operand.tmp 68), type := 4, pos := "law.go:118", after := #[{ on := 12, ground := Ground.data }, { on := 10, ground := Ground.chain }, { on := 6, ground := Ground.guard }], guard := some (6, true) }) (v := ?_) rfl (by kernel_rfl) (by kernel_rfl) (by kernel_rfl) (fun _ _ _ h => h) (Or.inl ⟨by rfl, ?_⟩) hHeld ?_
        rotate_left
        · intro w hSw; (try dsimp only at hSw); go_simp; (try with_reducible rfl)
        simp only [Act.put, List.setIfInBounds_toArray, List.set_cons_zero, List.set_cons_succ]
        refine wpAnyH_take (i := 14) (oi := { dst := some 70, op := Op.fieldAddr 29 (Operand.tmp 7) 1, type := 0, pos := "law.go:118", after := #[{ on := 13, ground := Ground.guard }], guard := some (13, true) }) (v := ?_) rfl (by kernel_rfl) (by kernel_rfl) (by kernel_rfl) (fun _ _ _ h => h) (Or.inl ⟨by rfl, ?_⟩) hHeld ?_
        rotate_left
        · intro w hSw; (try dsimp only at hSw); go_simp; (try with_reducible rfl)
        simp only [Act.put, List.setIfInBounds_toArray, List.set_cons_zero, List.set_cons_succ]
        refine wpAnyH_take (i := 15) (oi := { dst := some 71, op := Op.load 4 (Operand.tmp 70), type := 4, pos := "law.go:118", after := #[{ on := 14, ground := Ground.data }, { on := 13, ground := Ground.guard }], guard := some (13, true) }) (v := ?_) rfl (by kernel_rfl) (by kernel_rfl) (by kernel_rfl) (fun _ _ _ h => h) (Or.inl ⟨by rfl, ?_⟩) hHeld ?_
        rotate_left
        · intro w hSw; (try dsimp only at hSw); go_simp; (try with_reducible rfl)
        simp only [Act.put, List.setIfInBounds_toArray, List.set_cons_zero, List.set_cons_succ]
        refine wpAnyH_take (i := 16) (oi := { dst := some 72, op := Op.pick (Operand.tmp 69) (Operand.tmp 71) (Operand.const (Value.bool false)), type := 4, pos := "law.go:118", after := #[{ on := 13, ground := Ground.data }, { on := 15, ground := Ground.data }, { on := 6, ground := Ground.guard }], guard := some (6, true) }) (v := ?_) rfl (by kernel_rfl) (by kernel_rfl) (by kernel_rfl) (fun _ _ _ h => h) (Or.inl ⟨by rfl, ?_⟩) hHeld ?_
        rotate_left
        · intro w hSw; (try dsimp only at hSw); go_simp; (try with_reducible rfl)
        simp only [Act.put, List.setIfInBounds_toArray, List.set_cons_zero, List.set_cons_succ]
        refine wpAnyH_take (i := 17) (oi := { dst := some 73, op := Op.move (Operand.tmp 72), type := 4, pos := "law.go:118", after := #[{ on := 16, ground := Ground.data }, { on := 13, ground := Ground.chain }, { on := 6, ground := Ground.guard }], guard := some (6, true) }) (v := ?_) rfl (by kernel_rfl) (by kernel_rfl) (by kernel_rfl) (fun _ _ _ h => h) (Or.inl ⟨by rfl, ?_⟩) hHeld ?_
        rotate_left
        · intro w hSw; (try dsimp only at hSw); go_simp; (try with_reducible rfl)
        simp only [Act.put, List.setIfInBounds_toArray, List.set_cons_zero, List.set_cons_succ]
        refine wpAnyH_take (i := 18) (oi := { dst := some 74, op := Op.fieldAddr 29 (Operand.tmp 9) 1, type := 0, pos := "law.go:118", after := #[{ on := 17, ground := Ground.guard }], guard := some (17, true) }) (v := undef) rfl (by kernel_rfl) (by kernel_rfl) (by kernel_rfl) (fun _ _ _ h => h) (Or.inr ⟨by rfl, rfl⟩) hHeld ?_
        simp only [Act.put, List.setIfInBounds_toArray, List.set_cons_zero, List.set_cons_succ]
        refine wpAnyH_take (i := 19) (oi := { dst := some 75, op := Op.load 4 (Operand.tmp 74), type := 4, pos := "law.go:118", after := #[{ on := 18, ground := Ground.data }, { on := 17, ground := Ground.guard }], guard := some (17, true) }) (v := undef) rfl (by kernel_rfl) (by kernel_rfl) (by kernel_rfl) (fun _ _ _ h => h) (Or.inr ⟨by rfl, rfl⟩) hHeld ?_
        simp only [Act.put, List.setIfInBounds_toArray, List.set_cons_zero, List.set_cons_succ]
        refine wpAnyH_take (i := 20) (oi := { dst := some 76, op := Op.pick (Operand.tmp 73) (Operand.tmp 75) (Operand.const (Value.bool false)), type := 4, pos := "law.go:118", after := #[{ on := 17, ground := Ground.data }, { on := 19, ground := Ground.data }, { on := 6, ground := Ground.guard }], guard := some (6, true) }) (v := ?_) rfl (by kernel_rfl) (by kernel_rfl) (by kernel_rfl) (fun _ _ _ h => h) (Or.inl ⟨by rfl, ?_⟩) hHeld ?_
        rotate_left
        · intro w hSw; (try dsimp only at hSw); go_simp; (try with_reducible rfl)
        simp only [Act.put, List.setIfInBounds_toArray, List.set_cons_zero, List.set_cons_succ]
        refine wpAnyH_take (i := 21) (oi := { dst := some 77, op := Op.binOp BinOp.eql 4 (Operand.tmp 64) (Operand.tmp 76) 4, type := 4, pos := "law.go:118", after := #[{ on := 8, ground := Ground.data }, { on := 20, ground := Ground.data }, { on := 6, ground := Ground.guard }], guard := some (6, true) }) (v := ?_) rfl (by kernel_rfl) (by kernel_rfl) (by kernel_rfl) (fun _ _ _ h => h) (Or.inl ⟨by rfl, ?_⟩) hHeld ?_
        rotate_left
        · intro w hSw; (try dsimp only at hSw); go_simp; (try with_reducible rfl)
        simp only [Act.put, List.setIfInBounds_toArray, List.set_cons_zero, List.set_cons_succ]
        refine wpAnyH_take (i := 22) (oi := { dst := some 78, op := Op.pick (Operand.tmp 62) (Operand.tmp 77) (Operand.const (Value.bool false)), type := 4, pos := "law.go:118", after := #[{ on := 6, ground := Ground.data }, { on := 21, ground := Ground.data }], guard := none }) (v := ?_) rfl (by kernel_rfl) (by kernel_rfl) (by kernel_rfl) (fun _ _ _ h => h) (Or.inl ⟨by rfl, ?_⟩) hHeld ?_
        rotate_left
        · intro w hSw; (try dsimp only at hSw); go_simp; (try with_reducible rfl)
        simp only [Act.put, List.setIfInBounds_toArray, List.set_cons_zero, List.set_cons_succ]
        refine wpAnyH_take (i := 23) (oi := { dst := some 79, op := Op.move (Operand.tmp 78), type := 4, pos := "law.go:118", after := #[{ on := 22, ground := Ground.data }, { on := 17, ground := Ground.chain }], guard := none }) (v := ?_) rfl (by kernel_rfl) (by kernel_rfl) (by kernel_rfl) (fun _ _ _ h => h) (Or.inl ⟨by rfl, ?_⟩) hHeld ?_
        rotate_left
        · intro w hSw; (try dsimp only at hSw); go_simp; (try with_reducible rfl)
        simp only [Act.put, List.setIfInBounds_toArray, List.set_cons_zero, List.set_cons_succ]
        refine wpAnyH_take (i := 24) (oi := { dst := some 80, op := Op.fieldAddr 29 (Operand.tmp 11) 2, type := 0, pos := "law.go:118", after := #[{ on := 23, ground := Ground.guard }], guard := some (23, true) }) (v := ?_) rfl (by kernel_rfl) (by kernel_rfl) (by kernel_rfl) (fun _ _ _ h => h) (Or.inl ⟨by rfl, ?_⟩) hHeld ?_
        rotate_left
        · intro w hSw; (try dsimp only at hSw); go_simp; (try with_reducible rfl)
        simp only [Act.put, List.setIfInBounds_toArray, List.set_cons_zero, List.set_cons_succ]
        refine wpAnyH_take (i := 25) (oi := { dst := some 81, op := Op.load 23 (Operand.tmp 80), type := 23, pos := "law.go:118", after := #[{ on := 24, ground := Ground.data }, { on := 23, ground := Ground.guard }], guard := some (23, true) }) (v := ?_) rfl (by kernel_rfl) (by kernel_rfl) (by kernel_rfl) (fun _ _ _ h => h) (Or.inl ⟨by rfl, ?_⟩) hHeld ?_
        rotate_left
        · intro w hSw; (try dsimp only at hSw); go_simp; (try with_reducible rfl)
        simp only [Act.put, List.setIfInBounds_toArray, List.set_cons_zero, List.set_cons_succ]
        refine wpAnyH_take (i := 26) (oi := { dst := some 82, op := Op.fieldAddr 29 (Operand.tmp 7) 2, type := 0, pos := "law.go:118", after := #[{ on := 23, ground := Ground.guard }], guard := some (23, true) }) (v := ?_) rfl (by kernel_rfl) (by kernel_rfl) (by kernel_rfl) (fun _ _ _ h => h) (Or.inl ⟨by rfl, ?_⟩) hHeld ?_
        rotate_left
        · intro w hSw; (try dsimp only at hSw); go_simp; (try with_reducible rfl)
        simp only [Act.put, List.setIfInBounds_toArray, List.set_cons_zero, List.set_cons_succ]
        refine wpAnyH_take (i := 27) (oi := { dst := some 83, op := Op.load 23 (Operand.tmp 82), type := 23, pos := "law.go:118", after := #[{ on := 26, ground := Ground.data }, { on := 23, ground := Ground.guard }], guard := some (23, true) }) (v := ?_) rfl (by kernel_rfl) (by kernel_rfl) (by kernel_rfl) (fun _ _ _ h => h) (Or.inl ⟨by rfl, ?_⟩) hHeld ?_
        rotate_left
        · intro w hSw; (try dsimp only at hSw); go_simp; (try with_reducible rfl)
        simp only [Act.put, List.setIfInBounds_toArray, List.set_cons_zero, List.set_cons_succ]
        refine wpAnyH_take (i := 28) (oi := { dst := some 84, op := Op.fieldAddr 29 (Operand.tmp 9) 2, type := 0, pos := "law.go:118", after := #[{ on := 23, ground := Ground.guard }], guard := some (23, true) }) (v := ?_) rfl (by kernel_rfl) (by kernel_rfl) (by kernel_rfl) (fun _ _ _ h => h) (Or.inl ⟨by rfl, ?_⟩) hHeld ?_
        rotate_left
        · intro w hSw; (try dsimp only at hSw); go_simp; (try with_reducible rfl)
        simp only [Act.put, List.setIfInBounds_toArray, List.set_cons_zero, List.set_cons_succ]
        refine wpAnyH_take (i := 29) (oi := { dst := some 85, op := Op.load 23 (Operand.tmp 84), type := 23, pos := "law.go:118", after := #[{ on := 28, ground := Ground.data }, { on := 23, ground := Ground.guard }], guard := some (23, true) }) (v := ?_) rfl (by kernel_rfl) (by kernel_rfl) (by kernel_rfl) (fun _ _ _ h => h) (Or.inl ⟨by rfl, ?_⟩) hHeld ?_
        rotate_left
        · intro w hSw; (try dsimp only at hSw); go_simp; (try with_reducible rfl)
        simp only [Act.put, List.setIfInBounds_toArray, List.set_cons_zero, List.set_cons_succ]
        refine wpAnyH_ready (rs := [30]) (by kernel_rfl) (by simp) ?_
        refine AllReadyH.cons (o := { dst := some 86, op := Op.call { callee := Callee.value (Operand.func 30), args := #[Operand.tmp 83, Operand.tmp 85], argTypes := #[23, 23] }, type := 23, pos := "law.go:118", after := #[{ on := 27, ground := Ground.data }, { on := 29, ground := Ground.data }, { on := 23, ground := Ground.chain }, { on := 23, ground := Ground.guard }], guard := some (23, true) }) rfl (fun K hK => ?_) AllReadyH.nil
        go_simp
        refine (runion_any V18.drew _ _ vsf vsg Ff20.out Fg20.out Lf.out Lg.out).mono ?_
        rintro e z21 ⟨v21, rfl, hA, hb⟩
        have B21 := hid (B20.out.trans (hb.mono B20.out.size))
        have Ff21 := hid (Ff20.out.bel hb)
        have Fbf21 := hid (bx_bel Fbf20.out hb)
        have Fg21 := hid (Fg20.out.bel hb)
        have Fbg21 := hid (bx_bel Fbg20.out hb)
        have Fh21 := hid (Fh20.out.bel hb)
        have Fbh21 := hid (bx_bel Fbh20.out hb)
        have RB21 := hid (RB0.out.trans (hb.mono RB0.out.size))
        clear B20 Ff20 Fbf20 Fg20 Fbg20 Fh20 Fbh20 RB0
        have Fu21 := hid hA
        clear hA
        clear hb
        refine hK.out _ _ (KH.out _ RB21.out) (fun hHeld => ?_)
        refine wpAnyH_ready (rs := [31]) (by kernel_rfl) (by simp) ?_
        refine AllReadyH.cons (o := { dst := some 87, op := Op.call { callee := Callee.value (Operand.func 15), args := #[Operand.tmp 81, Operand.tmp 86], argTypes := #[23, 23] }, type := 4, pos := "law.go:118", after := #[{ on := 25, ground := Ground.data }, { on := 30, ground := Ground.data }, { on := 30, ground := Ground.chain }, { on := 23, ground := Ground.guard }], guard := some (23, true) }) rfl (fun K hK => ?_) AllReadyH.nil
        go_simp
        refine (same_any z21 _ _ vsh _ Fh21.out Fu21.out (Nat.le_trans Lh.out (by decide))).mono ?_
        rw [H3.out]
        rintro e z22 ⟨rfl, hb⟩
        have B22 := hid (B21.out.trans (hb.mono B21.out.size))
        have Ff22 := hid (Ff21.out.bel hb)
        have Fbf22 := hid (bx_bel Fbf21.out hb)
        have Fg22 := hid (Fg21.out.bel hb)
        have Fbg22 := hid (bx_bel Fbg21.out hb)
        have Fh22 := hid (Fh21.out.bel hb)
        have Fbh22 := hid (bx_bel Fbh21.out hb)
        have Fu22 := hid (Fu21.out.bel hb)
        have RB22 := hid (RB21.out.trans (hb.mono RB21.out.size))
        clear B21 Ff21 Fbf21 Fg21 Fbg21 Fh21 Fbh21 Fu21 RB21
        clear hb
        refine hK.out _ _ (KH.out _ RB22.out) (fun hHeld => ?_)
        refine wpAnyH_take (i := 32) (oi := { dst := some 88, op := Op.pick (Operand.tmp 79) (Operand.tmp 87) (Operand.const (Value.bool false)), type := 4, pos := "law.go:118", after := #[{ on := 23, ground := Ground.data }, { on := 31, ground := Ground.data }], guard := none }) (v := ?_) rfl (by kernel_rfl) (by kernel_rfl) (by kernel_rfl) (fun _ _ _ h => h) (Or.inl ⟨by rfl, ?_⟩) hHeld ?_
        rotate_left
        · intro w hSw; (try dsimp only at hSw); go_simp; (try with_reducible rfl)
        simp only [Act.put, List.setIfInBounds_toArray, List.set_cons_zero, List.set_cons_succ]
        refine wpAnyH_take (i := 33) (oi := { dst := some 6, op := Op.assign (Operand.tmp 88), type := 4, pos := "law.go:118", after := #[{ on := 32, ground := Ground.data }, { on := 31, ground := Ground.chain }, { on := 0, ground := Ground.phase }, { on := 1, ground := Ground.phase }, { on := 2, ground := Ground.phase }, { on := 3, ground := Ground.phase }, { on := 4, ground := Ground.phase }, { on := 5, ground := Ground.phase }, { on := 6, ground := Ground.phase }, { on := 7, ground := Ground.phase }, { on := 8, ground := Ground.phase }, { on := 9, ground := Ground.phase }, { on := 10, ground := Ground.phase }, { on := 11, ground := Ground.phase }, { on := 12, ground := Ground.phase }, { on := 13, ground := Ground.phase }, { on := 14, ground := Ground.phase }, { on := 15, ground := Ground.phase }, { on := 16, ground := Ground.phase }, { on := 17, ground := Ground.phase }, { on := 18, ground := Ground.phase }, { on := 19, ground := Ground.phase }, { on := 20, ground := Ground.phase }, { on := 21, ground := Ground.phase }, { on := 22, ground := Ground.phase }, { on := 23, ground := Ground.phase }, { on := 24, ground := Ground.phase }, { on := 25, ground := Ground.phase }, { on := 26, ground := Ground.phase }, { on := 27, ground := Ground.phase }, { on := 28, ground := Ground.phase }, { on := 29, ground := Ground.phase }, { on := 30, ground := Ground.phase }, { on := 31, ground := Ground.phase }, { on := 32, ground := Ground.phase }], guard := none }) (v := ?_) rfl (by kernel_rfl) (by kernel_rfl) (by kernel_rfl) (fun _ _ _ h => h) (Or.inl ⟨by rfl, ?_⟩) hHeld ?_
        rotate_left
        · intro w hSw; (try dsimp only at hSw); go_simp; (try with_reducible rfl)
        simp only [Act.put, List.setIfInBounds_toArray, List.set_cons_zero, List.set_cons_succ]
        refine wpAnyH_done (by kernel_rfl) ?_ _
        clear hHeld KH
        clear RB22
        go_wp2
        go_ret
        exact ⟨rfl, B22.out⟩
      · obtain ⟨h1, h2, h3⟩ := HJ.out
        simp only [Bool.and_true, Bool.true_and, Bool.and_false, Bool.false_and, Bool.or_true, Bool.true_or, Bool.or_false, Bool.false_or, Bool.and_self, Bool.or_self] at h1 h2
        subst h1
        have h4 := h2.symm
        subst h4
        have H3 := hid h3
        clear HJ h3
        obtain ⟨xbf0, xbf1, xbf2, _⟩ := cells3 Fbf19.out
        obtain ⟨xbg0, xbg1, xbg2, _⟩ := cells3 Fbg19.out
        obtain ⟨xbh0, xbh1, xbh2, _⟩ := cells3 Nbh.out
        go_wp2_with fail
        have KH : Hid (∀ W, Below V18.heap.size V18 W → (W.cell? ⟨w10.heap.size, 0, none⟩ = some (.string nmf) ∧ W.cell? ⟨w10.heap.size, 1, none⟩ = some (.bool true) ∧ W.cell? ⟨w10.heap.size, 2, none⟩ = some (.slice yaf vsf.length ycf) ∧ W.cell? ⟨w13.heap.size, 0, none⟩ = some (.string nmg) ∧ W.cell? ⟨w13.heap.size, 1, none⟩ = some (.bool sug) ∧ W.cell? ⟨w13.heap.size, 2, none⟩ = some (.slice yag vsg.length ycg) ∧ W.cell? ⟨w17.heap.size, 0, none⟩ = some (.string nmh) ∧ W.cell? ⟨w17.heap.size, 1, none⟩ = some (.bool sug) ∧ W.cell? ⟨w17.heap.size, 2, none⟩ = some (.slice yah vsh.length ych))) := fun W hb => by
          obtain ⟨ybf0, ybf1, ybf2, _⟩ := cells3 (bx_bel Fbf19.out hb)
          obtain ⟨ybg0, ybg1, ybg2, _⟩ := cells3 (bx_bel Fbg19.out hb)
          obtain ⟨ybh0, ybh1, ybh2, _⟩ := cells3 (bx_bel Nbh.out hb)
          exact ⟨ybf0, ybf1, ybf2, ybg0, ybg1, ybg2, ybh0, ybh1, ybh2⟩
        clear xbf0 xbf1 xbf2 xbg0 xbg1 xbg2 xbh0 xbh1 xbh2
        clear hV18
        refine wp_region_held_drew (S := fun W => W.cell? ⟨w10.heap.size, 0, none⟩ = some (.string nmf) ∧ W.cell? ⟨w10.heap.size, 1, none⟩ = some (.bool true) ∧ W.cell? ⟨w10.heap.size, 2, none⟩ = some (.slice yaf vsf.length ycf) ∧ W.cell? ⟨w13.heap.size, 0, none⟩ = some (.string nmg) ∧ W.cell? ⟨w13.heap.size, 1, none⟩ = some (.bool sug) ∧ W.cell? ⟨w13.heap.size, 2, none⟩ = some (.slice yag vsg.length ycg) ∧ W.cell? ⟨w17.heap.size, 0, none⟩ = some (.string nmh) ∧ W.cell? ⟨w17.heap.size, 1, none⟩ = some (.bool sug) ∧ W.cell? ⟨w17.heap.size, 2, none⟩ = some (.slice yah vsh.length ych)) (by kernel_rfl) (KH.out _ (Below.refl _ _).drew) (fun hHeld => ?_)
        have hbd : Below V18.heap.size V18 V18.drew := (Gr.refl _).drew.below
        have RB0 := hid hbd
        have B20 := hid (B19.out.trans (hbd.mono B19.out.size))
        have Ff20 := hid (Ff19.out.bel hbd)
        have Fbf20 := hid (bx_bel Fbf19.out hbd)
        have Fg20 := hid (Fg19.out.bel hbd)
        have Fbg20 := hid (bx_bel Fbg19.out hbd)
        have Fh20 := hid (Fh19.out.bel hbd)
        have Fbh20 := hid (bx_bel Nbh.out hbd)
        clear B19 Ff19 Fbf19 Fg19 Fbg19 Fh19 Nbh
        clear hbd
        refine wpAnyH_take (i := 0) (oi := { dst := some 56, op := Op.move (Operand.tmp 12), type := 4, pos := "law.go:118", after := #[], guard := none }) (v := ?_) rfl (by kernel_rfl) (by kernel_rfl) (by kernel_rfl) (fun _ _ _ h => h) (Or.inl ⟨by rfl, ?_⟩) hHeld ?_
        rotate_left
        · intro w hSw; (try dsimp only at hSw); go_simp; (try with_reducible rfl)
        simp only [Act.put, List.setIfInBounds_toArray, List.set_cons_zero, List.set_cons_succ]
        refine wpAnyH_take (i := 1) (oi := { dst := some 57, op := Op.move (Operand.tmp 8), type := 4, pos := "law.go:118", after := #[], guard := none }) (v := ?_) rfl (by kernel_rfl) (by kernel_rfl) (by kernel_rfl) (fun _ _ _ h => h) (Or.inl ⟨by rfl, ?_⟩) hHeld ?_
        rotate_left
        · intro w hSw; (try dsimp only at hSw); go_simp; (try with_reducible rfl)
        simp only [Act.put, List.setIfInBounds_toArray, List.set_cons_zero, List.set_cons_succ]
        refine wpAnyH_take (i := 2) (oi := { dst := some 58, op := Op.move (Operand.tmp 57), type := 4, pos := "law.go:118", after := #[{ on := 1, ground := Ground.data }], guard := none }) (v := ?_) rfl (by kernel_rfl) (by kernel_rfl) (by kernel_rfl) (fun _ _ _ h => h) (Or.inl ⟨by rfl, ?_⟩) hHeld ?_
        rotate_left
        · intro w hSw; (try dsimp only at hSw); go_simp; (try with_reducible rfl)
        simp only [Act.put, List.setIfInBounds_toArray, List.set_cons_zero, List.set_cons_succ]
        refine wpAnyH_take (i := 3) (oi := { dst := some 59, op := Op.move (Operand.tmp 10), type := 4, pos := "law.go:118", after := #[{ on := 2, ground := Ground.guard }], guard := some (2, false) }) (v := undef) rfl (by kernel_rfl) (by kernel_rfl) (by kernel_rfl) (fun _ _ _ h => h) (Or.inr ⟨by rfl, rfl⟩) hHeld ?_
        simp only [Act.put, List.setIfInBounds_toArray, List.set_cons_zero, List.set_cons_succ]
        refine wpAnyH_take (i := 4) (oi := { dst := some 60, op := Op.pick (Operand.tmp 58) (Operand.const (Value.bool true)) (Operand.tmp 59), type := 4, pos := "law.go:118", after := #[{ on := 2, ground := Ground.data }, { on := 3, ground := Ground.data }], guard := none }) (v := ?_) rfl (by kernel_rfl) (by kernel_rfl) (by kernel_rfl) (fun _ _ _ h => h) (Or.inl ⟨by rfl, ?_⟩) hHeld ?_
        rotate_left
        · intro w hSw; (try dsimp only at hSw); go_simp; (try with_reducible rfl)
        simp only [Act.put, List.setIfInBounds_toArray, List.set_cons_zero, List.set_cons_succ]
        refine wpAnyH_take (i := 5) (oi := { dst := some 61, op := Op.binOp BinOp.eql 4 (Operand.tmp 56) (Operand.tmp 60) 4, type := 4, pos := "law.go:118", after := #[{ on := 0, ground := Ground.data }, { on := 4, ground := Ground.data }], guard := none }) (v := ?_) rfl (by kernel_rfl) (by kernel_rfl) (by kernel_rfl) (fun _ _ _ h => h) (Or.inl ⟨by rfl, ?_⟩) hHeld ?_
        rotate_left
        · intro w hSw; (try dsimp only at hSw); go_simp; (try with_reducible rfl)
        simp only [Act.put, List.setIfInBounds_toArray, List.set_cons_zero, List.set_cons_succ]
        refine wpAnyH_take (i := 6) (oi := { dst := some 62, op := Op.move (Operand.tmp 61), type := 4, pos := "law.go:118", after := #[{ on := 5, ground := Ground.data }, { on := 2, ground := Ground.chain }], guard := none }) (v := ?_) rfl (by kernel_rfl) (by kernel_rfl) (by kernel_rfl) (fun _ _ _ h => h) (Or.inl ⟨by rfl, ?_⟩) hHeld ?_
        rotate_left
        · intro w hSw; (try dsimp only at hSw); go_simp; (try with_reducible rfl)
        simp only [Act.put, List.setIfInBounds_toArray, List.set_cons_zero, List.set_cons_succ]
        refine wpAnyH_take (i := 7) (oi := { dst := some 63, op := Op.fieldAddr 29 (Operand.tmp 11) 1, type := 0, pos := "law.go:118", after := #[{ on := 6, ground := Ground.guard }], guard := some (6, true) }) (v := ?_) rfl (by kernel_rfl) (by kernel_rfl) (by kernel_rfl) (fun _ _ _ h => h) (Or.inl ⟨by rfl, ?_⟩) hHeld ?_
        rotate_left
        · intro w hSw; (try dsimp only at hSw); go_simp; (try with_reducible rfl)
        simp only [Act.put, List.setIfInBounds_toArray, List.set_cons_zero, List.set_cons_succ]
        refine wpAnyH_take (i := 8) (oi := { dst := some 64, op := Op.load 4 (Operand.tmp 63), type := 4, pos := "law.go:118", after := #[{ on := 7, ground := Ground.data }, { on := 6, ground := Ground.guard }], guard := some (6, true) }) (v := ?_) rfl (by kernel_rfl) (by kernel_rfl) (by kernel_rfl) (fun _ _ _ h => h) (Or.inl ⟨by rfl, ?_⟩) hHeld ?_
        rotate_left
        · intro w hSw; (try dsimp only at hSw); go_simp; (try with_reducible rfl)
        simp only [Act.put, List.setIfInBounds_toArray, List.set_cons_zero, List.set_cons_succ]
        refine wpAnyH_take (i := 9) (oi := { dst := some 65, op := Op.move (Operand.tmp 8), type := 4, pos := "law.go:118", after := #[{ on := 6, ground := Ground.guard }], guard := some (6, true) }) (v := ?_) rfl (by kernel_rfl) (by kernel_rfl) (by kernel_rfl) (fun _ _ _ h => h) (Or.inl ⟨by rfl, ?_⟩) hHeld ?_
        rotate_left
        · intro w hSw; (try dsimp only at hSw); go_simp; (try with_reducible rfl)
        simp only [Act.put, List.setIfInBounds_toArray, List.set_cons_zero, List.set_cons_succ]
        refine wpAnyH_take (i := 10) (oi := { dst := some 66, op := Op.move (Operand.tmp 65), type := 4, pos := "law.go:118", after := #[{ on := 9, ground := Ground.data }, { on := 6, ground := Ground.chain }, { on := 6, ground := Ground.guard }], guard := some (6, true) }) (v := ?_) rfl (by kernel_rfl) (by kernel_rfl) (by kernel_rfl) (fun _ _ _ h => h) (Or.inl ⟨by rfl, ?_⟩) hHeld ?_
        rotate_left
        · intro w hSw; (try dsimp only at hSw); go_simp; (try with_reducible rfl)
        simp only [Act.put, List.setIfInBounds_toArray, List.set_cons_zero, List.set_cons_succ]
        refine wpAnyH_take (i := 11) (oi := { dst := some 67, op := Op.move (Operand.tmp 10), type := 4, pos := "law.go:118", after := #[{ on := 10, ground := Ground.guard }], guard := some (10, true) }) (v := ?_) rfl (by kernel_rfl) (by kernel_rfl) (by kernel_rfl) (fun _ _ _ h => h) (Or.inl ⟨by rfl, ?_⟩) hHeld ?_
        rotate_left
        · intro w hSw; (try dsimp only at hSw); go_simp; (try with_reducible rfl)
        simp only [Act.put, List.setIfInBounds_toArray, List.set_cons_zero, List.set_cons_succ]
        refine wpAnyH_take (i := 12) (oi := { dst := some 68, op := Op.pick (Operand.tmp 66) (Operand.tmp 67) (Operand.const (Value.bool false)), type := 4, pos := "law.go:118", after := #[{ on := 10, ground := Ground.data }, { on := 11, ground := Ground.data }, { on := 6, ground := Ground.guard }], guard := some (6, true) }) (v := ?_) rfl (by kernel_rfl) (by kernel_rfl) (by kernel_rfl) (fun _ _ _ h => h) (Or.inl ⟨by rfl, ?_⟩) hHeld ?_
        rotate_left
        · intro w hSw; (try dsimp only at hSw); go_simp; (try with_reducible rfl)
        simp only [Act.put, List.setIfInBounds_toArray, List.set_cons_zero, List.set_cons_succ]
        refine wpAnyH_take (i := 13) (oi := { dst := some 69, op := Op.move (Operand.tmp 68), type := 4, pos := "law.go:118", after := #[{ on := 12, ground := Ground.data }, { on := 10, ground := Ground.chain }, { on := 6, ground := Ground.guard }], guard := some (6, true) }) (v := ?_) rfl (by kernel_rfl) (by kernel_rfl) (by kernel_rfl) (fun _ _ _ h => h) (Or.inl ⟨by rfl, ?_⟩) hHeld ?_
        rotate_left
        · intro w hSw; (try dsimp only at hSw); go_simp; (try with_reducible rfl)
        simp only [Act.put, List.setIfInBounds_toArray, List.set_cons_zero, List.set_cons_succ]
        refine wpAnyH_take (i := 14) (oi := { dst := some 70, op := Op.fieldAddr 29 (Operand.tmp 7) 1, type := 0, pos := "law.go:118", after := #[{ on := 13, ground := Ground.guard }], guard := some (13, true) }) (v := ?_) rfl (by kernel_rfl) (by kernel_rfl) (by kernel_rfl) (fun _ _ _ h => h) (Or.inl ⟨by rfl, ?_⟩) hHeld ?_
        rotate_left
        · intro w hSw; (try dsimp only at hSw); go_simp; (try with_reducible rfl)
        simp only [Act.put, List.setIfInBounds_toArray, List.set_cons_zero, List.set_cons_succ]
        refine wpAnyH_take (i := 15) (oi := { dst := some 71, op := Op.load 4 (Operand.tmp 70), type := 4, pos := "law.go:118", after := #[{ on := 14, ground := Ground.data }, { on := 13, ground := Ground.guard }], guard := some (13, true) }) (v := ?_) rfl (by kernel_rfl) (by kernel_rfl) (by kernel_rfl) (fun _ _ _ h => h) (Or.inl ⟨by rfl, ?_⟩) hHeld ?_
        rotate_left
        · intro w hSw; (try dsimp only at hSw); go_simp; (try with_reducible rfl)
        simp only [Act.put, List.setIfInBounds_toArray, List.set_cons_zero, List.set_cons_succ]
        refine wpAnyH_take (i := 16) (oi := { dst := some 72, op := Op.pick (Operand.tmp 69) (Operand.tmp 71) (Operand.const (Value.bool false)), type := 4, pos := "law.go:118", after := #[{ on := 13, ground := Ground.data }, { on := 15, ground := Ground.data }, { on := 6, ground := Ground.guard }], guard := some (6, true) }) (v := ?_) rfl (by kernel_rfl) (by kernel_rfl) (by kernel_rfl) (fun _ _ _ h => h) (Or.inl ⟨by rfl, ?_⟩) hHeld ?_
        rotate_left
        · intro w hSw; (try dsimp only at hSw); go_simp; (try with_reducible rfl)
        simp only [Act.put, List.setIfInBounds_toArray, List.set_cons_zero, List.set_cons_succ]
        refine wpAnyH_take (i := 17) (oi := { dst := some 73, op := Op.move (Operand.tmp 72), type := 4, pos := "law.go:118", after := #[{ on := 16, ground := Ground.data }, { on := 13, ground := Ground.chain }, { on := 6, ground := Ground.guard }], guard := some (6, true) }) (v := ?_) rfl (by kernel_rfl) (by kernel_rfl) (by kernel_rfl) (fun _ _ _ h => h) (Or.inl ⟨by rfl, ?_⟩) hHeld ?_
        rotate_left
        · intro w hSw; (try dsimp only at hSw); go_simp; (try with_reducible rfl)
        simp only [Act.put, List.setIfInBounds_toArray, List.set_cons_zero, List.set_cons_succ]
        refine wpAnyH_take (i := 18) (oi := { dst := some 74, op := Op.fieldAddr 29 (Operand.tmp 9) 1, type := 0, pos := "law.go:118", after := #[{ on := 17, ground := Ground.guard }], guard := some (17, true) }) (v := ?_) rfl (by kernel_rfl) (by kernel_rfl) (by kernel_rfl) (fun _ _ _ h => h) (Or.inl ⟨by rfl, ?_⟩) hHeld ?_
        rotate_left
        · intro w hSw; (try dsimp only at hSw); go_simp; (try with_reducible rfl)
        simp only [Act.put, List.setIfInBounds_toArray, List.set_cons_zero, List.set_cons_succ]
        refine wpAnyH_take (i := 19) (oi := { dst := some 75, op := Op.load 4 (Operand.tmp 74), type := 4, pos := "law.go:118", after := #[{ on := 18, ground := Ground.data }, { on := 17, ground := Ground.guard }], guard := some (17, true) }) (v := ?_) rfl (by kernel_rfl) (by kernel_rfl) (by kernel_rfl) (fun _ _ _ h => h) (Or.inl ⟨by rfl, ?_⟩) hHeld ?_
        rotate_left
        · intro w hSw; (try dsimp only at hSw); go_simp; (try with_reducible rfl)
        simp only [Act.put, List.setIfInBounds_toArray, List.set_cons_zero, List.set_cons_succ]
        refine wpAnyH_take (i := 20) (oi := { dst := some 76, op := Op.pick (Operand.tmp 73) (Operand.tmp 75) (Operand.const (Value.bool false)), type := 4, pos := "law.go:118", after := #[{ on := 17, ground := Ground.data }, { on := 19, ground := Ground.data }, { on := 6, ground := Ground.guard }], guard := some (6, true) }) (v := ?_) rfl (by kernel_rfl) (by kernel_rfl) (by kernel_rfl) (fun _ _ _ h => h) (Or.inl ⟨by rfl, ?_⟩) hHeld ?_
        rotate_left
        · intro w hSw; (try dsimp only at hSw); go_simp; (try with_reducible rfl)
        simp only [Act.put, List.setIfInBounds_toArray, List.set_cons_zero, List.set_cons_succ]
        refine wpAnyH_take (i := 21) (oi := { dst := some 77, op := Op.binOp BinOp.eql 4 (Operand.tmp 64) (Operand.tmp 76) 4, type := 4, pos := "law.go:118", after := #[{ on := 8, ground := Ground.data }, { on := 20, ground := Ground.data }, { on := 6, ground := Ground.guard }], guard := some (6, true) }) (v := ?_) rfl (by kernel_rfl) (by kernel_rfl) (by kernel_rfl) (fun _ _ _ h => h) (Or.inl ⟨by rfl, ?_⟩) hHeld ?_
        rotate_left
        · intro w hSw; (try dsimp only at hSw); go_simp; (try with_reducible rfl)
        simp only [Act.put, List.setIfInBounds_toArray, List.set_cons_zero, List.set_cons_succ]
        refine wpAnyH_take (i := 22) (oi := { dst := some 78, op := Op.pick (Operand.tmp 62) (Operand.tmp 77) (Operand.const (Value.bool false)), type := 4, pos := "law.go:118", after := #[{ on := 6, ground := Ground.data }, { on := 21, ground := Ground.data }], guard := none }) (v := ?_) rfl (by kernel_rfl) (by kernel_rfl) (by kernel_rfl) (fun _ _ _ h => h) (Or.inl ⟨by rfl, ?_⟩) hHeld ?_
        rotate_left
        · intro w hSw; (try dsimp only at hSw); go_simp; (try with_reducible rfl)
        simp only [Act.put, List.setIfInBounds_toArray, List.set_cons_zero, List.set_cons_succ]
        refine wpAnyH_take (i := 23) (oi := { dst := some 79, op := Op.move (Operand.tmp 78), type := 4, pos := "law.go:118", after := #[{ on := 22, ground := Ground.data }, { on := 17, ground := Ground.chain }], guard := none }) (v := ?_) rfl (by kernel_rfl) (by kernel_rfl) (by kernel_rfl) (fun _ _ _ h => h) (Or.inl ⟨by rfl, ?_⟩) hHeld ?_
        rotate_left
        · intro w hSw; (try dsimp only at hSw); go_simp; (try with_reducible rfl)
        simp only [Act.put, List.setIfInBounds_toArray, List.set_cons_zero, List.set_cons_succ]
        refine wpAnyH_take (i := 24) (oi := { dst := some 80, op := Op.fieldAddr 29 (Operand.tmp 11) 2, type := 0, pos := "law.go:118", after := #[{ on := 23, ground := Ground.guard }], guard := some (23, true) }) (v := ?_) rfl (by kernel_rfl) (by kernel_rfl) (by kernel_rfl) (fun _ _ _ h => h) (Or.inl ⟨by rfl, ?_⟩) hHeld ?_
        rotate_left
        · intro w hSw; (try dsimp only at hSw); go_simp; (try with_reducible rfl)
        simp only [Act.put, List.setIfInBounds_toArray, List.set_cons_zero, List.set_cons_succ]
        refine wpAnyH_take (i := 25) (oi := { dst := some 81, op := Op.load 23 (Operand.tmp 80), type := 23, pos := "law.go:118", after := #[{ on := 24, ground := Ground.data }, { on := 23, ground := Ground.guard }], guard := some (23, true) }) (v := ?_) rfl (by kernel_rfl) (by kernel_rfl) (by kernel_rfl) (fun _ _ _ h => h) (Or.inl ⟨by rfl, ?_⟩) hHeld ?_
        rotate_left
        · intro w hSw; (try dsimp only at hSw); go_simp; (try with_reducible rfl)
        simp only [Act.put, List.setIfInBounds_toArray, List.set_cons_zero, List.set_cons_succ]
        refine wpAnyH_take (i := 26) (oi := { dst := some 82, op := Op.fieldAddr 29 (Operand.tmp 7) 2, type := 0, pos := "law.go:118", after := #[{ on := 23, ground := Ground.guard }], guard := some (23, true) }) (v := ?_) rfl (by kernel_rfl) (by kernel_rfl) (by kernel_rfl) (fun _ _ _ h => h) (Or.inl ⟨by rfl, ?_⟩) hHeld ?_
        rotate_left
        · intro w hSw; (try dsimp only at hSw); go_simp; (try with_reducible rfl)
        simp only [Act.put, List.setIfInBounds_toArray, List.set_cons_zero, List.set_cons_succ]
        refine wpAnyH_take (i := 27) (oi := { dst := some 83, op := Op.load 23 (Operand.tmp 82), type := 23, pos := "law.go:118", after := #[{ on := 26, ground := Ground.data }, { on := 23, ground := Ground.guard }], guard := some (23, true) }) (v := ?_) rfl (by kernel_rfl) (by kernel_rfl) (by kernel_rfl) (fun _ _ _ h => h) (Or.inl ⟨by rfl, ?_⟩) hHeld ?_
        rotate_left
        · intro w hSw; (try dsimp only at hSw); go_simp; (try with_reducible rfl)
        simp only [Act.put, List.setIfInBounds_toArray, List.set_cons_zero, List.set_cons_succ]
        refine wpAnyH_take (i := 28) (oi := { dst := some 84, op := Op.fieldAddr 29 (Operand.tmp 9) 2, type := 0, pos := "law.go:118", after := #[{ on := 23, ground := Ground.guard }], guard := some (23, true) }) (v := ?_) rfl (by kernel_rfl) (by kernel_rfl) (by kernel_rfl) (fun _ _ _ h => h) (Or.inl ⟨by rfl, ?_⟩) hHeld ?_
        rotate_left
        · intro w hSw; (try dsimp only at hSw); go_simp; (try with_reducible rfl)
        simp only [Act.put, List.setIfInBounds_toArray, List.set_cons_zero, List.set_cons_succ]
        refine wpAnyH_take (i := 29) (oi := { dst := some 85, op := Op.load 23 (Operand.tmp 84), type := 23, pos := "law.go:118", after := #[{ on := 28, ground := Ground.data }, { on := 23, ground := Ground.guard }], guard := some (23, true) }) (v := ?_) rfl (by kernel_rfl) (by kernel_rfl) (by kernel_rfl) (fun _ _ _ h => h) (Or.inl ⟨by rfl, ?_⟩) hHeld ?_
        rotate_left
        · intro w hSw; (try dsimp only at hSw); go_simp; (try with_reducible rfl)
        simp only [Act.put, List.setIfInBounds_toArray, List.set_cons_zero, List.set_cons_succ]
        refine wpAnyH_ready (rs := [30]) (by kernel_rfl) (by simp) ?_
        refine AllReadyH.cons (o := { dst := some 86, op := Op.call { callee := Callee.value (Operand.func 30), args := #[Operand.tmp 83, Operand.tmp 85], argTypes := #[23, 23] }, type := 23, pos := "law.go:118", after := #[{ on := 27, ground := Ground.data }, { on := 29, ground := Ground.data }, { on := 23, ground := Ground.chain }, { on := 23, ground := Ground.guard }], guard := some (23, true) }) rfl (fun K hK => ?_) AllReadyH.nil
        go_simp
        refine (runion_any V18.drew _ _ vsf vsg Ff20.out Fg20.out Lf.out Lg.out).mono ?_
        rintro e z21 ⟨v21, rfl, hA, hb⟩
        have B21 := hid (B20.out.trans (hb.mono B20.out.size))
        have Ff21 := hid (Ff20.out.bel hb)
        have Fbf21 := hid (bx_bel Fbf20.out hb)
        have Fg21 := hid (Fg20.out.bel hb)
        have Fbg21 := hid (bx_bel Fbg20.out hb)
        have Fh21 := hid (Fh20.out.bel hb)
        have Fbh21 := hid (bx_bel Fbh20.out hb)
        have RB21 := hid (RB0.out.trans (hb.mono RB0.out.size))
        clear B20 Ff20 Fbf20 Fg20 Fbg20 Fh20 Fbh20 RB0
        have Fu21 := hid hA
        clear hA
        clear hb
        refine hK.out _ _ (KH.out _ RB21.out) (fun hHeld => ?_)
        refine wpAnyH_ready (rs := [31]) (by kernel_rfl) (by simp) ?_
        refine AllReadyH.cons (o := { dst := some 87, op := Op.call { callee := Callee.value (Operand.func 15), args := #[Operand.tmp 81, Operand.tmp 86], argTypes := #[23, 23] }, type := 4, pos := "law.go:118", after := #[{ on := 25, ground := Ground.data }, { on := 30, ground := Ground.data }, { on := 30, ground := Ground.chain }, { on := 23, ground := Ground.guard }], guard := some (23, true) }) rfl (fun K hK => ?_) AllReadyH.nil
        go_simp
        refine (same_any z21 _ _ vsh _ Fh21.out Fu21.out (Nat.le_trans Lh.out (by decide))).mono ?_
        rw [H3.out]
        rintro e z22 ⟨rfl, hb⟩
        have B22 := hid (B21.out.trans (hb.mono B21.out.size))
        have Ff22 := hid (Ff21.out.bel hb)
        have Fbf22 := hid (bx_bel Fbf21.out hb)
        have Fg22 := hid (Fg21.out.bel hb)
        have Fbg22 := hid (bx_bel Fbg21.out hb)
        have Fh22 := hid (Fh21.out.bel hb)
        have Fbh22 := hid (bx_bel Fbh21.out hb)
        have Fu22 := hid (Fu21.out.bel hb)
        have RB22 := hid (RB21.out.trans (hb.mono RB21.out.size))
        clear B21 Ff21 Fbf21 Fg21 Fbg21 Fh21 Fbh21 Fu21 RB21
        clear hb
        refine hK.out _ _ (KH.out _ RB22.out) (fun hHeld => ?_)
        refine wpAnyH_take (i := 32) (oi := { dst := some 88, op := Op.pick (Operand.tmp 79) (Operand.tmp 87) (Operand.const (Value.bool false)), type := 4, pos := "law.go:118", after := #[{ on := 23, ground := Ground.data }, { on := 31, ground := Ground.data }], guard := none }) (v := ?_) rfl (by kernel_rfl) (by kernel_rfl) (by kernel_rfl) (fun _ _ _ h => h) (Or.inl ⟨by rfl, ?_⟩) hHeld ?_
        rotate_left
        · intro w hSw; (try dsimp only at hSw); go_simp; (try with_reducible rfl)
        simp only [Act.put, List.setIfInBounds_toArray, List.set_cons_zero, List.set_cons_succ]
        refine wpAnyH_take (i := 33) (oi := { dst := some 6, op := Op.assign (Operand.tmp 88), type := 4, pos := "law.go:118", after := #[{ on := 32, ground := Ground.data }, { on := 31, ground := Ground.chain }, { on := 0, ground := Ground.phase }, { on := 1, ground := Ground.phase }, { on := 2, ground := Ground.phase }, { on := 3, ground := Ground.phase }, { on := 4, ground := Ground.phase }, { on := 5, ground := Ground.phase }, { on := 6, ground := Ground.phase }, { on := 7, ground := Ground.phase }, { on := 8, ground := Ground.phase }, { on := 9, ground := Ground.phase }, { on := 10, ground := Ground.phase }, { on := 11, ground := Ground.phase }, { on := 12, ground := Ground.phase }, { on := 13, ground := Ground.phase }, { on := 14, ground := Ground.phase }, { on := 15, ground := Ground.phase }, { on := 16, ground := Ground.phase }, { on := 17, ground := Ground.phase }, { on := 18, ground := Ground.phase }, { on := 19, ground := Ground.phase }, { on := 20, ground := Ground.phase }, { on := 21, ground := Ground.phase }, { on := 22, ground := Ground.phase }, { on := 23, ground := Ground.phase }, { on := 24, ground := Ground.phase }, { on := 25, ground := Ground.phase }, { on := 26, ground := Ground.phase }, { on := 27, ground := Ground.phase }, { on := 28, ground := Ground.phase }, { on := 29, ground := Ground.phase }, { on := 30, ground := Ground.phase }, { on := 31, ground := Ground.phase }, { on := 32, ground := Ground.phase }], guard := none }) (v := ?_) rfl (by kernel_rfl) (by kernel_rfl) (by kernel_rfl) (fun _ _ _ h => h) (Or.inl ⟨by rfl, ?_⟩) hHeld ?_
        rotate_left
        · intro w hSw; (try dsimp only at hSw); go_simp; (try with_reducible rfl)
        simp only [Act.put, List.setIfInBounds_toArray, List.set_cons_zero, List.set_cons_succ]
        refine wpAnyH_done (by kernel_rfl) ?_ _
        clear hHeld KH
        clear RB22
        go_wp2
        go_ret
        exact ⟨rfl, B22.out⟩
end Go.Proofs.Ytnllcfagdcepfaa
