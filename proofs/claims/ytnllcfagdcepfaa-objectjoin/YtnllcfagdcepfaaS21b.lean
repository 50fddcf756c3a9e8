/-
  The law of a join, walked: where it lies in a third shape or not. No conditions.
-/
import Derived.Test.YtnllcfagdcepfaaS21m
set_option linter.unusedVariables false
set_option linter.unusedSimpArgs false
namespace Go.Proofs.Ytnllcfagdcepfaa
open Go.RowKit Go.Sort
set_option maxHeartbeats 4000000 in
set_option maxRecDepth 100000 in
theorem join_law2 (w : World) (va : Value) (sa : M.Shp) (ha : ShAt w va sa) (vb : Value) (sb : M.Shp) (hb : ShAt w vb sb) (vc : Value) (sc : M.Shp) (hc : ShAt w vc sc) (hac : M.withinS sa sc = true) (hbc : M.withinS sb sc = false) : Calls Try.prog 5 #[va, vb, vc] w fun e w' => e = .returned (.bool true) ∧ Below w.heap.size w w' := by
  have mixed := mixedP
  have B0 := hid (Below.refl w.heap.size w)
  obtain ⟨aa, ca, ba, da, rfl⟩ := ha.form
  have Fa := hid ha
  clear ha
  obtain ⟨ab, cb, bb, db, rfl⟩ := hb.form
  have Fb := hid hb
  clear hb
  obtain ⟨ac, cc, bc, dc, rfl⟩ := hc.form
  have Fc := hid hc
  clear hc
  obtain ⟨V1, hV1⟩ : ∃ W, w.alloc (.cells #[.slice aa sa.fs.length ca, .slice ba sa.pr.length da] 25) = W := ⟨_, rfl⟩
  have hbx : Below w.heap.size w V1 := by rw [← hV1]; exact (gr_new _ _).below
  have Nba : Hid (V1.heap[w.heap.size]? = some (.cells #[.slice aa sa.fs.length ca, .slice ba sa.pr.length da] 25 (0, 0))) := by unfold Hid; rw [← hV1]; exact new_at _ _
  have B2 := hid (B0.out.trans (hbx.mono B0.out.size))
  have Fa2 := hid (Fa.out.bel hbx)
  have Fb2 := hid (Fb.out.bel hbx)
  have Fc2 := hid (Fc.out.bel hbx)
  clear B0 Fa Fb Fc
  clear hbx
  obtain ⟨V3, hV3⟩ : ∃ W, V1.alloc (.cells #[.slice ab sb.fs.length cb, .slice bb sb.pr.length db] 25) = W := ⟨_, rfl⟩
  have hbx : Below V1.heap.size V1 V3 := by rw [← hV3]; exact (gr_new _ _).below
  have Nbb : Hid (V3.heap[V1.heap.size]? = some (.cells #[.slice ab sb.fs.length cb, .slice bb sb.pr.length db] 25 (0, 0))) := by unfold Hid; rw [← hV3]; exact new_at _ _
  have B4 := hid (B2.out.trans (hbx.mono B2.out.size))
  have Fa4 := hid (Fa2.out.bel hbx)
  have Fb4 := hid (Fb2.out.bel hbx)
  have Fc4 := hid (Fc2.out.bel hbx)
  have Fba4 := hid (bx_bel Nba.out hbx)
  clear B2 Fa2 Fb2 Fc2 Nba
  clear hbx
  obtain ⟨V5, hV5⟩ : ∃ W, V3.alloc (.cells #[.slice ac sc.fs.length cc, .slice bc sc.pr.length dc] 25) = W := ⟨_, rfl⟩
  have hbx : Below V3.heap.size V3 V5 := by rw [← hV5]; exact (gr_new _ _).below
  have Nbc : Hid (V5.heap[V3.heap.size]? = some (.cells #[.slice ac sc.fs.length cc, .slice bc sc.pr.length dc] 25 (0, 0))) := by unfold Hid; rw [← hV5]; exact new_at _ _
  have B6 := hid (B4.out.trans (hbx.mono B4.out.size))
  have Fa6 := hid (Fa4.out.bel hbx)
  have Fb6 := hid (Fb4.out.bel hbx)
  have Fc6 := hid (Fc4.out.bel hbx)
  have Fba6 := hid (bx_bel Fba4.out hbx)
  have Fbb6 := hid (bx_bel Nbb.out hbx)
  clear B4 Fa4 Fb4 Fc4 Fba4 Nbb
  clear hbx
  go_enter Try.func5, Try.ntmps5
  obtain ⟨xba0, xba1, _⟩ := cells2 Fba6.out
  obtain ⟨xbb0, xbb1, _⟩ := cells2 Fbb6.out
  obtain ⟨xbc0, xbc1, _⟩ := cells2 Nbc.out
  go_wp2_with (first | (go_at_call 10; refine stopHere ?_))
  refine stopAt ?_
  refine (fixed_any V5).mono ?_
  rintro e w7 ⟨rfl, hb⟩
  have B7 := hid (B6.out.trans (hb.mono B6.out.size))
  have Fa7 := hid (Fa6.out.bel hb)
  have Fb7 := hid (Fb6.out.bel hb)
  have Fc7 := hid (Fc6.out.bel hb)
  have Fba7 := hid (bx_bel Fba6.out hb)
  have Fbb7 := hid (bx_bel Fbb6.out hb)
  have Fbc7 := hid (bx_bel Nbc.out hb)
  clear B6 Fa6 Fb6 Fc6 Fba6 Fbb6 Nbc
  clear hb xba0 xba1 xbb0 xbb1 xbc0 xbc1 hV1 hV3 hV5
  rcases (Bool.eq_false_or_eq_true (M.smallB sa)).symm with hsa | hsa
  · obtain ⟨xba0, xba1, _⟩ := cells2 Fba7.out
    obtain ⟨xbb0, xbb1, _⟩ := cells2 Fbb7.out
    obtain ⟨xbc0, xbc1, _⟩ := cells2 Fbc7.out
    go_wp2_with (first | (go_at_call 9; refine stopHere ?_))
    refine stopAt ?_
    refine (small_any w7 _ sa Fa7.out).mono ?_
    rw [hsa]
    rintro e w8 ⟨rfl, hb⟩
    have B8 := hid (B7.out.trans (hb.mono B7.out.size))
    have Fa8 := hid (Fa7.out.bel hb)
    have Fb8 := hid (Fb7.out.bel hb)
    have Fc8 := hid (Fc7.out.bel hb)
    have Fba8 := hid (bx_bel Fba7.out hb)
    have Fbb8 := hid (bx_bel Fbb7.out hb)
    have Fbc8 := hid (bx_bel Fbc7.out hb)
    clear B7 Fa7 Fb7 Fc7 Fba7 Fbb7 Fbc7
    clear hb xba0 xba1 xbb0 xbb1 xbc0 xbc1
    obtain ⟨xba0, xba1, _⟩ := cells2 Fba8.out
    obtain ⟨xbb0, xbb1, _⟩ := cells2 Fbb8.out
    obtain ⟨xbc0, xbc1, _⟩ := cells2 Fbc8.out
    go_wp2_with (first | (go_at_call 10; refine stopHere ?_))
    refine stopAt ?_
    refine (fixed_any w8).mono ?_
    rintro e w9 ⟨rfl, hb⟩
    have B9 := hid (B8.out.trans (hb.mono B8.out.size))
    have Fa9 := hid (Fa8.out.bel hb)
    have Fb9 := hid (Fb8.out.bel hb)
    have Fc9 := hid (Fc8.out.bel hb)
    have Fba9 := hid (bx_bel Fba8.out hb)
    have Fbb9 := hid (bx_bel Fbb8.out hb)
    have Fbc9 := hid (bx_bel Fbc8.out hb)
    clear B8 Fa8 Fb8 Fc8 Fba8 Fbb8 Fbc8
    clear hb xba0 xba1 xbb0 xbb1 xbc0 xbc1
    go_wp2
    go_ret
    exact ⟨rfl, B9.out⟩
  obtain ⟨xba0, xba1, _⟩ := cells2 Fba7.out
  obtain ⟨xbb0, xbb1, _⟩ := cells2 Fbb7.out
  obtain ⟨xbc0, xbc1, _⟩ := cells2 Fbc7.out
  go_wp2_with (first | (go_at_call 9; refine stopHere ?_))
  refine stopAt ?_
  refine (small_any w7 _ sa Fa7.out).mono ?_
  rw [hsa]
  rintro e w8 ⟨rfl, hb⟩
  have B8 := hid (B7.out.trans (hb.mono B7.out.size))
  have Fa8 := hid (Fa7.out.bel hb)
  have Fb8 := hid (Fb7.out.bel hb)
  have Fc8 := hid (Fc7.out.bel hb)
  have Fba8 := hid (bx_bel Fba7.out hb)
  have Fbb8 := hid (bx_bel Fbb7.out hb)
  have Fbc8 := hid (bx_bel Fbc7.out hb)
  clear B7 Fa7 Fb7 Fc7 Fba7 Fbb7 Fbc7
  clear hb xba0 xba1 xbb0 xbb1 xbc0 xbc1
  rcases (Bool.eq_false_or_eq_true (M.smallB sb)).symm with hsb | hsb
  · obtain ⟨xba0, xba1, _⟩ := cells2 Fba8.out
    obtain ⟨xbb0, xbb1, _⟩ := cells2 Fbb8.out
    obtain ⟨xbc0, xbc1, _⟩ := cells2 Fbc8.out
    go_wp2_with (first | (go_at_call 9; refine stopHere ?_))
    refine stopAt ?_
    refine (small_any w8 _ sb Fb8.out).mono ?_
    rw [hsb]
    rintro e w9 ⟨rfl, hb⟩
    have B9 := hid (B8.out.trans (hb.mono B8.out.size))
    have Fa9 := hid (Fa8.out.bel hb)
    have Fb9 := hid (Fb8.out.bel hb)
    have Fc9 := hid (Fc8.out.bel hb)
    have Fba9 := hid (bx_bel Fba8.out hb)
    have Fbb9 := hid (bx_bel Fbb8.out hb)
    have Fbc9 := hid (bx_bel Fbc8.out hb)
    clear B8 Fa8 Fb8 Fc8 Fba8 Fbb8 Fbc8
    clear hb xba0 xba1 xbb0 xbb1 xbc0 xbc1
    obtain ⟨xba0, xba1, _⟩ := cells2 Fba9.out
    obtain ⟨xbb0, xbb1, _⟩ := cells2 Fbb9.out
    obtain ⟨xbc0, xbc1, _⟩ := cells2 Fbc9.out
    go_wp2_with (first | (go_at_call 10; refine stopHere ?_))
    refine stopAt ?_
    refine (fixed_any w9).mono ?_
    rintro e w10 ⟨rfl, hb⟩
    have B10 := hid (B9.out.trans (hb.mono B9.out.size))
    have Fa10 := hid (Fa9.out.bel hb)
    have Fb10 := hid (Fb9.out.bel hb)
    have Fc10 := hid (Fc9.out.bel hb)
    have Fba10 := hid (bx_bel Fba9.out hb)
    have Fbb10 := hid (bx_bel Fbb9.out hb)
    have Fbc10 := hid (bx_bel Fbc9.out hb)
    clear B9 Fa9 Fb9 Fc9 Fba9 Fbb9 Fbc9
    clear hb xba0 xba1 xbb0 xbb1 xbc0 xbc1
    go_wp2
    go_ret
    exact ⟨rfl, B10.out⟩
  obtain ⟨xba0, xba1, _⟩ := cells2 Fba8.out
  obtain ⟨xbb0, xbb1, _⟩ := cells2 Fbb8.out
  obtain ⟨xbc0, xbc1, _⟩ := cells2 Fbc8.out
  go_wp2_with (first | (go_at_call 9; refine stopHere ?_))
  refine stopAt ?_
  refine (small_any w8 _ sb Fb8.out).mono ?_
  rw [hsb]
  rintro e w9 ⟨rfl, hb⟩
  have B9 := hid (B8.out.trans (hb.mono B8.out.size))
  have Fa9 := hid (Fa8.out.bel hb)
  have Fb9 := hid (Fb8.out.bel hb)
  have Fc9 := hid (Fc8.out.bel hb)
  have Fba9 := hid (bx_bel Fba8.out hb)
  have Fbb9 := hid (bx_bel Fbb8.out hb)
  have Fbc9 := hid (bx_bel Fbc8.out hb)
  clear B8 Fa8 Fb8 Fc8 Fba8 Fbb8 Fbc8
  clear hb xba0 xba1 xbb0 xbb1 xbc0 xbc1
  rcases (Bool.eq_false_or_eq_true (M.smallB sc)).symm with hsc | hsc
  · obtain ⟨xba0, xba1, _⟩ := cells2 Fba9.out
    obtain ⟨xbb0, xbb1, _⟩ := cells2 Fbb9.out
    obtain ⟨xbc0, xbc1, _⟩ := cells2 Fbc9.out
    go_wp2_with (first | (go_at_call 9; refine stopHere ?_))
    refine stopAt ?_
    refine (small_any w9 _ sc Fc9.out).mono ?_
    rw [hsc]
    rintro e w10 ⟨rfl, hb⟩
    have B10 := hid (B9.out.trans (hb.mono B9.out.size))
    have Fa10 := hid (Fa9.out.bel hb)
    have Fb10 := hid (Fb9.out.bel hb)
    have Fc10 := hid (Fc9.out.bel hb)
    have Fba10 := hid (bx_bel Fba9.out hb)
    have Fbb10 := hid (bx_bel Fbb9.out hb)
    have Fbc10 := hid (bx_bel Fbc9.out hb)
    clear B9 Fa9 Fb9 Fc9 Fba9 Fbb9 Fbc9
    clear hb xba0 xba1 xbb0 xbb1 xbc0 xbc1
    obtain ⟨xba0, xba1, _⟩ := cells2 Fba10.out
    obtain ⟨xbb0, xbb1, _⟩ := cells2 Fbb10.out
    obtain ⟨xbc0, xbc1, _⟩ := cells2 Fbc10.out
    go_wp2_with (first | (go_at_call 10; refine stopHere ?_))
    refine stopAt ?_
    refine (fixed_any w10).mono ?_
    rintro e w11 ⟨rfl, hb⟩
    have B11 := hid (B10.out.trans (hb.mono B10.out.size))
    have Fa11 := hid (Fa10.out.bel hb)
    have Fb11 := hid (Fb10.out.bel hb)
    have Fc11 := hid (Fc10.out.bel hb)
    have Fba11 := hid (bx_bel Fba10.out hb)
    have Fbb11 := hid (bx_bel Fbb10.out hb)
    have Fbc11 := hid (bx_bel Fbc10.out hb)
    clear B10 Fa10 Fb10 Fc10 Fba10 Fbb10 Fbc10
    clear hb xba0 xba1 xbb0 xbb1 xbc0 xbc1
    go_wp2
    go_ret
    exact ⟨rfl, B11.out⟩
  obtain ⟨xba0, xba1, _⟩ := cells2 Fba9.out
  obtain ⟨xbb0, xbb1, _⟩ := cells2 Fbb9.out
  obtain ⟨xbc0, xbc1, _⟩ := cells2 Fbc9.out
  go_wp2_with (first | (go_at_call 9; refine stopHere ?_))
  refine stopAt ?_
  refine (small_any w9 _ sc Fc9.out).mono ?_
  rw [hsc]
  rintro e w10 ⟨rfl, hb⟩
  have B10 := hid (B9.out.trans (hb.mono B9.out.size))
  have Fa10 := hid (Fa9.out.bel hb)
  have Fb10 := hid (Fb9.out.bel hb)
  have Fc10 := hid (Fc9.out.bel hb)
  have Fba10 := hid (bx_bel Fba9.out hb)
  have Fbb10 := hid (bx_bel Fbb9.out hb)
  have Fbc10 := hid (bx_bel Fbc9.out hb)
  clear B9 Fa9 Fb9 Fc9 Fba9 Fbb9 Fbc9
  clear hb xba0 xba1 xbb0 xbb1 xbc0 xbc1
  have Ka := hid (M.sm_of hsa)
  have Kb := hid (M.sm_of hsb)
  have Kc := hid (M.sm_of hsc)
  rcases (Bool.eq_false_or_eq_true (M.mayS sa)).symm with hma | hma
  · obtain ⟨xba0, xba1, _⟩ := cells2 Fba10.out
    obtain ⟨xbb0, xbb1, _⟩ := cells2 Fbb10.out
    obtain ⟨xbc0, xbc1, _⟩ := cells2 Fbc10.out
    go_wp2_with (first | (go_at_call 13; refine stopHere ?_))
    refine stopAt ?_
    refine (omay_any w10 _ sa Fa10.out Ka.out).mono ?_
    rw [hma]
    rintro e w11 ⟨rfl, hb⟩
    have B11 := hid (B10.out.trans (hb.mono B10.out.size))
    have Fa11 := hid (Fa10.out.bel hb)
    have Fb11 := hid (Fb10.out.bel hb)
    have Fc11 := hid (Fc10.out.bel hb)
    have Fba11 := hid (bx_bel Fba10.out hb)
    have Fbb11 := hid (bx_bel Fbb10.out hb)
    have Fbc11 := hid (bx_bel Fbc10.out hb)
    clear B10 Fa10 Fb10 Fc10 Fba10 Fbb10 Fbc10
    clear hb xba0 xba1 xbb0 xbb1 xbc0 xbc1
    obtain ⟨xba0, xba1, _⟩ := cells2 Fba11.out
    obtain ⟨xbb0, xbb1, _⟩ := cells2 Fbb11.out
    obtain ⟨xbc0, xbc1, _⟩ := cells2 Fbc11.out
    go_wp2_with (first | (go_at_call 10; refine stopHere ?_))
    refine stopAt ?_
    refine (fixed_any w11).mono ?_
    rintro e w12 ⟨rfl, hb⟩
    have B12 := hid (B11.out.trans (hb.mono B11.out.size))
    have Fa12 := hid (Fa11.out.bel hb)
    have Fb12 := hid (Fb11.out.bel hb)
    have Fc12 := hid (Fc11.out.bel hb)
    have Fba12 := hid (bx_bel Fba11.out hb)
    have Fbb12 := hid (bx_bel Fbb11.out hb)
    have Fbc12 := hid (bx_bel Fbc11.out hb)
    clear B11 Fa11 Fb11 Fc11 Fba11 Fbb11 Fbc11
    clear hb xba0 xba1 xbb0 xbb1 xbc0 xbc1
    go_wp2
    go_ret
    exact ⟨rfl, B12.out⟩
  obtain ⟨xba0, xba1, _⟩ := cells2 Fba10.out
  obtain ⟨xbb0, xbb1, _⟩ := cells2 Fbb10.out
  obtain ⟨xbc0, xbc1, _⟩ := cells2 Fbc10.out
  go_wp2_with (first | (go_at_call 13; refine stopHere ?_))
  refine stopAt ?_
  refine (omay_any w10 _ sa Fa10.out Ka.out).mono ?_
  rw [hma]
  rintro e w11 ⟨rfl, hb⟩
  have B11 := hid (B10.out.trans (hb.mono B10.out.size))
  have Fa11 := hid (Fa10.out.bel hb)
  have Fb11 := hid (Fb10.out.bel hb)
  have Fc11 := hid (Fc10.out.bel hb)
  have Fba11 := hid (bx_bel Fba10.out hb)
  have Fbb11 := hid (bx_bel Fbb10.out hb)
  have Fbc11 := hid (bx_bel Fbc10.out hb)
  clear B10 Fa10 Fb10 Fc10 Fba10 Fbb10 Fbc10
  clear hb xba0 xba1 xbb0 xbb1 xbc0 xbc1
  rcases (Bool.eq_false_or_eq_true (M.mayS sb)).symm with hmb | hmb
  · obtain ⟨xba0, xba1, _⟩ := cells2 Fba11.out
    obtain ⟨xbb0, xbb1, _⟩ := cells2 Fbb11.out
    obtain ⟨xbc0, xbc1, _⟩ := cells2 Fbc11.out
    go_wp2_with (first | (go_at_call 13; refine stopHere ?_))
    refine stopAt ?_
    refine (omay_any w11 _ sb Fb11.out Kb.out).mono ?_
    rw [hmb]
    rintro e w12 ⟨rfl, hb⟩
    have B12 := hid (B11.out.trans (hb.mono B11.out.size))
    have Fa12 := hid (Fa11.out.bel hb)
    have Fb12 := hid (Fb11.out.bel hb)
    have Fc12 := hid (Fc11.out.bel hb)
    have Fba12 := hid (bx_bel Fba11.out hb)
    have Fbb12 := hid (bx_bel Fbb11.out hb)
    have Fbc12 := hid (bx_bel Fbc11.out hb)
    clear B11 Fa11 Fb11 Fc11 Fba11 Fbb11 Fbc11
    clear hb xba0 xba1 xbb0 xbb1 xbc0 xbc1
    obtain ⟨xba0, xba1, _⟩ := cells2 Fba12.out
    obtain ⟨xbb0, xbb1, _⟩ := cells2 Fbb12.out
    obtain ⟨xbc0, xbc1, _⟩ := cells2 Fbc12.out
    go_wp2_with (first | (go_at_call 10; refine stopHere ?_))
    refine stopAt ?_
    refine (fixed_any w12).mono ?_
    rintro e w13 ⟨rfl, hb⟩
    have B13 := hid (B12.out.trans (hb.mono B12.out.size))
    have Fa13 := hid (Fa12.out.bel hb)
    have Fb13 := hid (Fb12.out.bel hb)
    have Fc13 := hid (Fc12.out.bel hb)
    have Fba13 := hid (bx_bel Fba12.out hb)
    have Fbb13 := hid (bx_bel Fbb12.out hb)
    have Fbc13 := hid (bx_bel Fbc12.out hb)
    clear B12 Fa12 Fb12 Fc12 Fba12 Fbb12 Fbc12
    clear hb xba0 xba1 xbb0 xbb1 xbc0 xbc1
    go_wp2
    go_ret
    exact ⟨rfl, B13.out⟩
  obtain ⟨xba0, xba1, _⟩ := cells2 Fba11.out
  obtain ⟨xbb0, xbb1, _⟩ := cells2 Fbb11.out
  obtain ⟨xbc0, xbc1, _⟩ := cells2 Fbc11.out
  go_wp2_with (first | (go_at_call 13; refine stopHere ?_))
  refine stopAt ?_
  refine (omay_any w11 _ sb Fb11.out Kb.out).mono ?_
  rw [hmb]
  rintro e w12 ⟨rfl, hb⟩
  have B12 := hid (B11.out.trans (hb.mono B11.out.size))
  have Fa12 := hid (Fa11.out.bel hb)
  have Fb12 := hid (Fb11.out.bel hb)
  have Fc12 := hid (Fc11.out.bel hb)
  have Fba12 := hid (bx_bel Fba11.out hb)
  have Fbb12 := hid (bx_bel Fbb11.out hb)
  have Fbc12 := hid (bx_bel Fbc11.out hb)
  clear B11 Fa11 Fb11 Fc11 Fba11 Fbb11 Fbc11
  clear hb xba0 xba1 xbb0 xbb1 xbc0 xbc1
  rcases (Bool.eq_false_or_eq_true (M.mayS sc)).symm with hmc | hmc
  · obtain ⟨xba0, xba1, _⟩ := cells2 Fba12.out
    obtain ⟨xbb0, xbb1, _⟩ := cells2 Fbb12.out
    obtain ⟨xbc0, xbc1, _⟩ := cells2 Fbc12.out
    go_wp2_with (first | (go_at_call 13; refine stopHere ?_))
    refine stopAt ?_
    refine (omay_any w12 _ sc Fc12.out Kc.out).mono ?_
    rw [hmc]
    rintro e w13 ⟨rfl, hb⟩
    have B13 := hid (B12.out.trans (hb.mono B12.out.size))
    have Fa13 := hid (Fa12.out.bel hb)
    have Fb13 := hid (Fb12.out.bel hb)
    have Fc13 := hid (Fc12.out.bel hb)
    have Fba13 := hid (bx_bel Fba12.out hb)
    have Fbb13 := hid (bx_bel Fbb12.out hb)
    have Fbc13 := hid (bx_bel Fbc12.out hb)
    clear B12 Fa12 Fb12 Fc12 Fba12 Fbb12 Fbc12
    clear hb xba0 xba1 xbb0 xbb1 xbc0 xbc1
    obtain ⟨xba0, xba1, _⟩ := cells2 Fba13.out
    obtain ⟨xbb0, xbb1, _⟩ := cells2 Fbb13.out
    obtain ⟨xbc0, xbc1, _⟩ := cells2 Fbc13.out
    go_wp2_with (first | (go_at_call 10; refine stopHere ?_))
    refine stopAt ?_
    refine (fixed_any w13).mono ?_
    rintro e w14 ⟨rfl, hb⟩
    have B14 := hid (B13.out.trans (hb.mono B13.out.size))
    have Fa14 := hid (Fa13.out.bel hb)
    have Fb14 := hid (Fb13.out.bel hb)
    have Fc14 := hid (Fc13.out.bel hb)
    have Fba14 := hid (bx_bel Fba13.out hb)
    have Fbb14 := hid (bx_bel Fbb13.out hb)
    have Fbc14 := hid (bx_bel Fbc13.out hb)
    clear B13 Fa13 Fb13 Fc13 Fba13 Fbb13 Fbc13
    clear hb xba0 xba1 xbb0 xbb1 xbc0 xbc1
    go_wp2
    go_ret
    exact ⟨rfl, B14.out⟩
  obtain ⟨xba0, xba1, _⟩ := cells2 Fba12.out
  obtain ⟨xbb0, xbb1, _⟩ := cells2 Fbb12.out
  obtain ⟨xbc0, xbc1, _⟩ := cells2 Fbc12.out
  go_wp2_with (first | (go_at_call 13; refine stopHere ?_))
  refine stopAt ?_
  refine (omay_any w12 _ sc Fc12.out Kc.out).mono ?_
  rw [hmc]
  rintro e w13 ⟨rfl, hb⟩
  have B13 := hid (B12.out.trans (hb.mono B12.out.size))
  have Fa13 := hid (Fa12.out.bel hb)
  have Fb13 := hid (Fb12.out.bel hb)
  have Fc13 := hid (Fc12.out.bel hb)
  have Fba13 := hid (bx_bel Fba12.out hb)
  have Fbb13 := hid (bx_bel Fbb12.out hb)
  have Fbc13 := hid (bx_bel Fbc12.out hb)
  clear B12 Fa12 Fb12 Fc12 Fba12 Fbb12 Fbc12
  clear hb xba0 xba1 xbb0 xbb1 xbc0 xbc1
  obtain ⟨sj, hsj⟩ : ∃ j, M.joinS sa sb = j := ⟨_, rfl⟩
  have hmj : M.mayS sj = true := by rw [← hsj]; exact M.may_joinS _ _
  have Z : Hid (M.JoinFacts sa sb sc sj) := M.joinFacts hsj hsa hsb hsc hma hmb hmc
  have Eac : Hid ((M.mayS sa && M.mayS sc && M.withinS sa sc) = true) := by unfold Hid; rw [hma, hmc, hac]; rfl
  have Ebc : Hid ((M.mayS sb && M.mayS sc && M.withinS sb sc) = false) := by unfold Hid; rw [hmb, hmc, hbc]; rfl
  have Hmj := hid hmj
  clear hsj hmj hsa hsb hsc hac hbc
  have Ma := hid hma
  have Mb := hid hmb
  have Mc := hid hmc
  clear hma hmb hmc
  obtain ⟨xba0, xba1, _⟩ := cells2 Fba13.out
  obtain ⟨xbb0, xbb1, _⟩ := cells2 Fbb13.out
  obtain ⟨xbc0, xbc1, _⟩ := cells2 Fbc13.out
  go_wp2_with (first | (go_at_call 17; refine stopHere ?_))
  refine stopAt ?_
  refine (ojoin_any w13 _ _ sa sb Fa13.out Fb13.out Ka.out Kb.out).mono ?_
  rintro e w14 ⟨v14, rfl, hsh, hb⟩
  have B14 := hid (B13.out.trans (hb.mono B13.out.size))
  have Fa14 := hid (Fa13.out.bel hb)
  have Fb14 := hid (Fb13.out.bel hb)
  have Fc14 := hid (Fc13.out.bel hb)
  have Fba14 := hid (bx_bel Fba13.out hb)
  have Fbb14 := hid (bx_bel Fbb13.out hb)
  have Fbc14 := hid (bx_bel Fbc13.out hb)
  clear B13 Fa13 Fb13 Fc13 Fba13 Fbb13 Fbc13
  rw [Z.out.ab] at hsh
  have Fj14 := hid hsh.at
  obtain ⟨aj, cj, bj, dj, rfl⟩ := hsh.at.form
  clear hsh
  clear hb xba0 xba1 xbb0 xbb1 xbc0 xbc1
  obtain ⟨V15, hV15⟩ : ∃ W, w14.alloc (.cells #[.slice aj sj.fs.length cj, .slice bj sj.pr.length dj] 25) = W := ⟨_, rfl⟩
  have hbx : Below w14.heap.size w14 V15 := by rw [← hV15]; exact (gr_new _ _).below
  have Nbj : Hid (V15.heap[w14.heap.size]? = some (.cells #[.slice aj sj.fs.length cj, .slice bj sj.pr.length dj] 25 (0, 0))) := by unfold Hid; rw [← hV15]; exact new_at _ _
  have B16 := hid (B14.out.trans (hbx.mono B14.out.size))
  have Fa16 := hid (Fa14.out.bel hbx)
  have Fb16 := hid (Fb14.out.bel hbx)
  have Fc16 := hid (Fc14.out.bel hbx)
  have Fba16 := hid (bx_bel Fba14.out hbx)
  have Fbb16 := hid (bx_bel Fbb14.out hbx)
  have Fbc16 := hid (bx_bel Fbc14.out hbx)
  have Fj16 := hid (Fj14.out.bel hbx)
  clear B14 Fa14 Fb14 Fc14 Fba14 Fbb14 Fbc14 Fj14
  clear hbx
  obtain ⟨xba0, xba1, _⟩ := cells2 Fba16.out
  obtain ⟨xbb0, xbb1, _⟩ := cells2 Fbb16.out
  obtain ⟨xbc0, xbc1, _⟩ := cells2 Fbc16.out
  obtain ⟨xbj0, xbj1, _⟩ := cells2 Nbj.out
  go_wp2_with fail
  have KH : Hid (∀ W, Below V15.heap.size V15 W → (W.cell? ⟨w.heap.size, 0, none⟩ = some (.slice aa sa.fs.length ca) ∧ W.cell? ⟨w.heap.size, 1, none⟩ = some (.slice ba sa.pr.length da) ∧ W.cell? ⟨V1.heap.size, 0, none⟩ = some (.slice ab sb.fs.length cb) ∧ W.cell? ⟨V1.heap.size, 1, none⟩ = some (.slice bb sb.pr.length db) ∧ W.cell? ⟨V3.heap.size, 0, none⟩ = some (.slice ac sc.fs.length cc) ∧ W.cell? ⟨V3.heap.size, 1, none⟩ = some (.slice bc sc.pr.length dc) ∧ W.cell? ⟨w14.heap.size, 0, none⟩ = some (.slice aj sj.fs.length cj) ∧ W.cell? ⟨w14.heap.size, 1, none⟩ = some (.slice bj sj.pr.length dj))) := fun W hb => by
    obtain ⟨yba0, yba1, _⟩ := cells2 (bx_bel Fba16.out hb)
    obtain ⟨ybb0, ybb1, _⟩ := cells2 (bx_bel Fbb16.out hb)
    obtain ⟨ybc0, ybc1, _⟩ := cells2 (bx_bel Fbc16.out hb)
    obtain ⟨ybj0, ybj1, _⟩ := cells2 (bx_bel Nbj.out hb)
    exact ⟨yba0, yba1, ybb0, ybb1, ybc0, ybc1, ybj0, ybj1⟩
  clear xba0 xba1 xbb0 xbb1 xbc0 xbc1 xbj0 xbj1
  clear hV15
  refine wp_region_held_drew (S := fun W => W.cell? ⟨w.heap.size, 0, none⟩ = some (.slice aa sa.fs.length ca) ∧ W.cell? ⟨w.heap.size, 1, none⟩ = some (.slice ba sa.pr.length da) ∧ W.cell? ⟨V1.heap.size, 0, none⟩ = some (.slice ab sb.fs.length cb) ∧ W.cell? ⟨V1.heap.size, 1, none⟩ = some (.slice bb sb.pr.length db) ∧ W.cell? ⟨V3.heap.size, 0, none⟩ = some (.slice ac sc.fs.length cc) ∧ W.cell? ⟨V3.heap.size, 1, none⟩ = some (.slice bc sc.pr.length dc) ∧ W.cell? ⟨w14.heap.size, 0, none⟩ = some (.slice aj sj.fs.length cj) ∧ W.cell? ⟨w14.heap.size, 1, none⟩ = some (.slice bj sj.pr.length dj)) (by kernel_rfl) (KH.out _ (Below.refl _ _).drew) (fun hHeld => ?_)
  have hbd : Below V15.heap.size V15 V15.drew := (Gr.refl _).drew.below
  have RB0 := hid hbd
  have B17 := hid (B16.out.trans (hbd.mono B16.out.size))
  have Fa17 := hid (Fa16.out.bel hbd)
  have Fb17 := hid (Fb16.out.bel hbd)
  have Fc17 := hid (Fc16.out.bel hbd)
  have Fba17 := hid (bx_bel Fba16.out hbd)
  have Fbb17 := hid (bx_bel Fbb16.out hbd)
  have Fbc17 := hid (bx_bel Fbc16.out hbd)
  have Fj17 := hid (Fj16.out.bel hbd)
  have Fbj17 := hid (bx_bel Nbj.out hbd)
  clear B16 Fa16 Fb16 Fc16 Fba16 Fbb16 Fbc16 Fj16 Nbj
  clear hbd
  refine wpAnyH_take (i := 0) (oi := { dst := some 44, op := Op.load 25 (Operand.tmp 7), type := 25, pos := "law.go:65", after := #[], guard := none }) (v := ?_) rfl (by kernel_rfl) (by kernel_rfl) (by kernel_rfl) (fun _ _ _ h => h) (Or.inl ⟨by rfl, ?_⟩) hHeld ?_
  rotate_left
  · intro w hSw; (try dsimp only at hSw); go_simp; (try with_reducible rfl)
  simp only [Act.put, List.setIfInBounds_toArray, List.set_cons_zero, List.set_cons_succ]
  refine wpAnyH_ready (rs := [1]) (by kernel_rfl) (by simp) ?_
  refine AllReadyH.cons (o := { dst := some 45, op := Op.call { callee := Callee.value (Operand.func 13), args := #[Operand.tmp 44], argTypes := #[25] }, type := 4, pos := "law.go:65", after := #[{ on := 0, ground := Ground.data }], guard := none }) rfl (fun K hK => ?_) AllReadyH.nil
  go_simp
  refine (omay_any V15.drew _ sj Fj17.out Z.out.Kj).mono ?_
  rw [Hmj.out]
  rintro e z18 ⟨rfl, hb⟩
  have B18 := hid (B17.out.trans (hb.mono B17.out.size))
  have Fa18 := hid (Fa17.out.bel hb)
  have Fb18 := hid (Fb17.out.bel hb)
  have Fc18 := hid (Fc17.out.bel hb)
  have Fba18 := hid (bx_bel Fba17.out hb)
  have Fbb18 := hid (bx_bel Fbb17.out hb)
  have Fbc18 := hid (bx_bel Fbc17.out hb)
  have Fj18 := hid (Fj17.out.bel hb)
  have Fbj18 := hid (bx_bel Fbj17.out hb)
  have RB18 := hid (RB0.out.trans (hb.mono RB0.out.size))
  clear B17 Fa17 Fb17 Fc17 Fba17 Fbb17 Fbc17 Fj17 Fbj17 RB0
  clear hb
  refine hK.out _ _ (KH.out _ RB18.out) (fun hHeld => ?_)
  refine wpAnyH_take (i := 2) (oi := { dst := some 46, op := Op.unOp UnOp.not 4 (Operand.tmp 45), type := 4, pos := "law.go:65", after := #[{ on := 1, ground := Ground.data }], guard := none }) (v := ?_) rfl (by kernel_rfl) (by kernel_rfl) (by kernel_rfl) (fun _ _ _ h => h) (Or.inl ⟨by rfl, ?_⟩) hHeld ?_
  rotate_left
  · intro w hSw; (try dsimp only at hSw); go_simp; (try with_reducible rfl)
  simp only [Act.put, List.setIfInBounds_toArray, List.set_cons_zero, List.set_cons_succ]
  refine wpAnyH_take (i := 3) (oi := { dst := some 47, op := Op.move (Operand.tmp 46), type := 4, pos := "law.go:65", after := #[{ on := 2, ground := Ground.data }, { on := 1, ground := Ground.chain }], guard := none }) (v := ?_) rfl (by kernel_rfl) (by kernel_rfl) (by kernel_rfl) (fun _ _ _ h => h) (Or.inl ⟨by rfl, ?_⟩) hHeld ?_
  rotate_left
  · intro w hSw; (try dsimp only at hSw); go_simp; (try with_reducible rfl)
  simp only [Act.put, List.setIfInBounds_toArray, List.set_cons_zero, List.set_cons_succ]
  refine wpAnyH_take (i := 4) (oi := { dst := some 48, op := Op.load 25 (Operand.tmp 3), type := 25, pos := "law.go:65", after := #[{ on := 3, ground := Ground.guard }], guard := some (3, false) }) (v := ?_) rfl (by kernel_rfl) (by kernel_rfl) (by kernel_rfl) (fun _ _ _ h => h) (Or.inl ⟨by rfl, ?_⟩) hHeld ?_
  rotate_left
  · intro w hSw; (try dsimp only at hSw); go_simp; (try with_reducible rfl)
  simp only [Act.put, List.setIfInBounds_toArray, List.set_cons_zero, List.set_cons_succ]
  refine wpAnyH_take (i := 5) (oi := { dst := some 49, op := Op.load 25 (Operand.tmp 7), type := 25, pos := "law.go:65", after := #[{ on := 3, ground := Ground.guard }], guard := some (3, false) }) (v := ?_) rfl (by kernel_rfl) (by kernel_rfl) (by kernel_rfl) (fun _ _ _ h => h) (Or.inl ⟨by rfl, ?_⟩) hHeld ?_
  rotate_left
  · intro w hSw; (try dsimp only at hSw); go_simp; (try with_reducible rfl)
  simp only [Act.put, List.setIfInBounds_toArray, List.set_cons_zero, List.set_cons_succ]
  refine wpAnyH_ready (rs := [6]) (by kernel_rfl) (by simp) ?_
  refine AllReadyH.cons (o := { dst := some 50, op := Op.call { callee := Callee.value (Operand.func 19), args := #[Operand.tmp 48, Operand.tmp 49], argTypes := #[25, 25] }, type := 4, pos := "law.go:65", after := #[{ on := 4, ground := Ground.data }, { on := 5, ground := Ground.data }, { on := 3, ground := Ground.chain }, { on := 3, ground := Ground.guard }], guard := some (3, false) }) rfl (fun K hK => ?_) AllReadyH.nil
  go_simp
  refine (owithin_any z18 _ _ sa sj Fa18.out Fj18.out Ka.out Z.out.Kj).mono ?_
  rw [Z.out.aj]
  rintro e z19 ⟨rfl, hb⟩
  have B19 := hid (B18.out.trans (hb.mono B18.out.size))
  have Fa19 := hid (Fa18.out.bel hb)
  have Fb19 := hid (Fb18.out.bel hb)
  have Fc19 := hid (Fc18.out.bel hb)
  have Fba19 := hid (bx_bel Fba18.out hb)
  have Fbb19 := hid (bx_bel Fbb18.out hb)
  have Fbc19 := hid (bx_bel Fbc18.out hb)
  have Fj19 := hid (Fj18.out.bel hb)
  have Fbj19 := hid (bx_bel Fbj18.out hb)
  have RB19 := hid (RB18.out.trans (hb.mono RB18.out.size))
  clear B18 Fa18 Fb18 Fc18 Fba18 Fbb18 Fbc18 Fj18 Fbj18 RB18
  clear hb
  refine hK.out _ _ (KH.out _ RB19.out) (fun hHeld => ?_)
  refine wpAnyH_take (i := 7) (oi := { dst := some 51, op := Op.unOp UnOp.not 4 (Operand.tmp 50), type := 4, pos := "law.go:65", after := #[{ on := 6, ground := Ground.data }, { on := 3, ground := Ground.guard }], guard := some (3, false) }) (v := ?_) rfl (by kernel_rfl) (by kernel_rfl) (by kernel_rfl) (fun _ _ _ h => h) (Or.inl ⟨by rfl, ?_⟩) hHeld ?_
  rotate_left
  · intro w hSw; (try dsimp only at hSw); go_simp; (try with_reducible rfl)
  simp only [Act.put, List.setIfInBounds_toArray, List.set_cons_zero, List.set_cons_succ]
  refine wpAnyH_take (i := 8) (oi := { dst := some 52, op := Op.pick (Operand.tmp 47) (Operand.const (Value.bool true)) (Operand.tmp 51), type := 4, pos := "law.go:65", after := #[{ on := 3, ground := Ground.data }, { on := 7, ground := Ground.data }], guard := none }) (v := ?_) rfl (by kernel_rfl) (by kernel_rfl) (by kernel_rfl) (fun _ _ _ h => h) (Or.inl ⟨by rfl, ?_⟩) hHeld ?_
  rotate_left
  · intro w hSw; (try dsimp only at hSw); go_simp; (try with_reducible rfl)
  simp only [Act.put, List.setIfInBounds_toArray, List.set_cons_zero, List.set_cons_succ]
  refine wpAnyH_take (i := 9) (oi := { dst := some 53, op := Op.move (Operand.tmp 52), type := 4, pos := "law.go:65", after := #[{ on := 8, ground := Ground.data }, { on := 6, ground := Ground.chain }], guard := none }) (v := ?_) rfl (by kernel_rfl) (by kernel_rfl) (by kernel_rfl) (fun _ _ _ h => h) (Or.inl ⟨by rfl, ?_⟩) hHeld ?_
  rotate_left
  · intro w hSw; (try dsimp only at hSw); go_simp; (try with_reducible rfl)
  simp only [Act.put, List.setIfInBounds_toArray, List.set_cons_zero, List.set_cons_succ]
  refine wpAnyH_take (i := 10) (oi := { dst := some 54, op := Op.load 25 (Operand.tmp 4), type := 25, pos := "law.go:65", after := #[{ on := 9, ground := Ground.guard }], guard := some (9, false) }) (v := ?_) rfl (by kernel_rfl) (by kernel_rfl) (by kernel_rfl) (fun _ _ _ h => h) (Or.inl ⟨by rfl, ?_⟩) hHeld ?_
  rotate_left
  · intro w hSw; (try dsimp only at hSw); go_simp; (try with_reducible rfl)
  simp only [Act.put, List.setIfInBounds_toArray, List.set_cons_zero, List.set_cons_succ]
  refine wpAnyH_take (i := 11) (oi := { dst := some 55, op := Op.load 25 (Operand.tmp 7), type := 25, pos := "law.go:65", after := #[{ on := 9, ground := Ground.guard }], guard := some (9, false) }) (v := ?_) rfl (by kernel_rfl) (by kernel_rfl) (by kernel_rfl) (fun _ _ _ h => h) (Or.inl ⟨by rfl, ?_⟩) hHeld ?_
  rotate_left
  · intro w hSw; (try dsimp only at hSw); go_simp; (try with_reducible rfl)
  simp only [Act.put, List.setIfInBounds_toArray, List.set_cons_zero, List.set_cons_succ]
  refine wpAnyH_ready (rs := [12]) (by kernel_rfl) (by simp) ?_
  refine AllReadyH.cons (o := { dst := some 56, op := Op.call { callee := Callee.value (Operand.func 19), args := #[Operand.tmp 54, Operand.tmp 55], argTypes := #[25, 25] }, type := 4, pos := "law.go:65", after := #[{ on := 10, ground := Ground.data }, { on := 11, ground := Ground.data }, { on := 9, ground := Ground.chain }, { on := 9, ground := Ground.guard }], guard := some (9, false) }) rfl (fun K hK => ?_) AllReadyH.nil
  go_simp
  refine (owithin_any z19 _ _ sb sj Fb19.out Fj19.out Kb.out Z.out.Kj).mono ?_
  rw [Z.out.bj]
  rintro e z20 ⟨rfl, hb⟩
  have B20 := hid (B19.out.trans (hb.mono B19.out.size))
  have Fa20 := hid (Fa19.out.bel hb)
  have Fb20 := hid (Fb19.out.bel hb)
  have Fc20 := hid (Fc19.out.bel hb)
  have Fba20 := hid (bx_bel Fba19.out hb)
  have Fbb20 := hid (bx_bel Fbb19.out hb)
  have Fbc20 := hid (bx_bel Fbc19.out hb)
  have Fj20 := hid (Fj19.out.bel hb)
  have Fbj20 := hid (bx_bel Fbj19.out hb)
  have RB20 := hid (RB19.out.trans (hb.mono RB19.out.size))
  clear B19 Fa19 Fb19 Fc19 Fba19 Fbb19 Fbc19 Fj19 Fbj19 RB19
  clear hb
  refine hK.out _ _ (KH.out _ RB20.out) (fun hHeld => ?_)
  refine wpAnyH_take (i := 13) (oi := { dst := some 57, op := Op.unOp UnOp.not 4 (Operand.tmp 56), type := 4, pos := "law.go:65", after := #[{ on := 12, ground := Ground.data }, { on := 9, ground := Ground.guard }], guard := some (9, false) }) (v := ?_) rfl (by kernel_rfl) (by kernel_rfl) (by kernel_rfl) (fun _ _ _ h => h) (Or.inl ⟨by rfl, ?_⟩) hHeld ?_
  rotate_left
  · intro w hSw; (try dsimp only at hSw); go_simp; (try with_reducible rfl)
  simp only [Act.put, List.setIfInBounds_toArray, List.set_cons_zero, List.set_cons_succ]
  refine wpAnyH_take (i := 14) (oi := { dst := some 58, op := Op.pick (Operand.tmp 53) (Operand.const (Value.bool true)) (Operand.tmp 57), type := 4, pos := "law.go:65", after := #[{ on := 9, ground := Ground.data }, { on := 13, ground := Ground.data }], guard := none }) (v := ?_) rfl (by kernel_rfl) (by kernel_rfl) (by kernel_rfl) (fun _ _ _ h => h) (Or.inl ⟨by rfl, ?_⟩) hHeld ?_
  rotate_left
  · intro w hSw; (try dsimp only at hSw); go_simp; (try with_reducible rfl)
  simp only [Act.put, List.setIfInBounds_toArray, List.set_cons_zero, List.set_cons_succ]
  refine wpAnyH_take (i := 15) (oi := { dst := some 59, op := Op.move (Operand.tmp 58), type := 4, pos := "law.go:65", after := #[{ on := 14, ground := Ground.data }, { on := 12, ground := Ground.chain }], guard := none }) (v := ?_) rfl (by kernel_rfl) (by kernel_rfl) (by kernel_rfl) (fun _ _ _ h => h) (Or.inl ⟨by rfl, ?_⟩) hHeld ?_
  rotate_left
  · intro w hSw; (try dsimp only at hSw); go_simp; (try with_reducible rfl)
  simp only [Act.put, List.setIfInBounds_toArray, List.set_cons_zero, List.set_cons_succ]
  refine wpAnyH_take (i := 16) (oi := { dst := some 60, op := Op.load 25 (Operand.tmp 3), type := 25, pos := "law.go:65", after := #[{ on := 15, ground := Ground.guard }], guard := some (15, false) }) (v := ?_) rfl (by kernel_rfl) (by kernel_rfl) (by kernel_rfl) (fun _ _ _ h => h) (Or.inl ⟨by rfl, ?_⟩) hHeld ?_
  rotate_left
  · intro w hSw; (try dsimp only at hSw); go_simp; (try with_reducible rfl)
  simp only [Act.put, List.setIfInBounds_toArray, List.set_cons_zero, List.set_cons_succ]
  refine wpAnyH_take (i := 17) (oi := { dst := some 61, op := Op.load 25 (Operand.tmp 3), type := 25, pos := "law.go:65", after := #[{ on := 15, ground := Ground.guard }], guard := some (15, false) }) (v := ?_) rfl (by kernel_rfl) (by kernel_rfl) (by kernel_rfl) (fun _ _ _ h => h) (Or.inl ⟨by rfl, ?_⟩) hHeld ?_
  rotate_left
  · intro w hSw; (try dsimp only at hSw); go_simp; (try with_reducible rfl)
  simp only [Act.put, List.setIfInBounds_toArray, List.set_cons_zero, List.set_cons_succ]
  refine wpAnyH_ready (rs := [18]) (by kernel_rfl) (by simp) ?_
  refine AllReadyH.cons (o := { dst := some 62, op := Op.call { callee := Callee.value (Operand.func 19), args := #[Operand.tmp 60, Operand.tmp 61], argTypes := #[25, 25] }, type := 4, pos := "law.go:65", after := #[{ on := 16, ground := Ground.data }, { on := 17, ground := Ground.data }, { on := 15, ground := Ground.chain }, { on := 15, ground := Ground.guard }], guard := some (15, false) }) rfl (fun K hK => ?_) AllReadyH.nil
  go_simp
  refine (owithin_any z20 _ _ sa sa Fa20.out Fa20.out Ka.out Ka.out).mono ?_
  rw [Z.out.aa]
  rintro e z21 ⟨rfl, hb⟩
  have B21 := hid (B20.out.trans (hb.mono B20.out.size))
  have Fa21 := hid (Fa20.out.bel hb)
  have Fb21 := hid (Fb20.out.bel hb)
  have Fc21 := hid (Fc20.out.bel hb)
  have Fba21 := hid (bx_bel Fba20.out hb)
  have Fbb21 := hid (bx_bel Fbb20.out hb)
  have Fbc21 := hid (bx_bel Fbc20.out hb)
  have Fj21 := hid (Fj20.out.bel hb)
  have Fbj21 := hid (bx_bel Fbj20.out hb)
  have RB21 := hid (RB20.out.trans (hb.mono RB20.out.size))
  clear B20 Fa20 Fb20 Fc20 Fba20 Fbb20 Fbc20 Fj20 Fbj20 RB20
  clear hb
  refine hK.out _ _ (KH.out _ RB21.out) (fun hHeld => ?_)
  refine wpAnyH_take (i := 19) (oi := { dst := some 63, op := Op.unOp UnOp.not 4 (Operand.tmp 62), type := 4, pos := "law.go:65", after := #[{ on := 18, ground := Ground.data }, { on := 15, ground := Ground.guard }], guard := some (15, false) }) (v := ?_) rfl (by kernel_rfl) (by kernel_rfl) (by kernel_rfl) (fun _ _ _ h => h) (Or.inl ⟨by rfl, ?_⟩) hHeld ?_
  rotate_left
  · intro w hSw; (try dsimp only at hSw); go_simp; (try with_reducible rfl)
  simp only [Act.put, List.setIfInBounds_toArray, List.set_cons_zero, List.set_cons_succ]
  refine wpAnyH_take (i := 20) (oi := { dst := some 64, op := Op.pick (Operand.tmp 59) (Operand.const (Value.bool true)) (Operand.tmp 63), type := 4, pos := "law.go:65", after := #[{ on := 15, ground := Ground.data }, { on := 19, ground := Ground.data }], guard := none }) (v := ?_) rfl (by kernel_rfl) (by kernel_rfl) (by kernel_rfl) (fun _ _ _ h => h) (Or.inl ⟨by rfl, ?_⟩) hHeld ?_
  rotate_left
  · intro w hSw; (try dsimp only at hSw); go_simp; (try with_reducible rfl)
  simp only [Act.put, List.setIfInBounds_toArray, List.set_cons_zero, List.set_cons_succ]
  refine wpAnyH_take (i := 21) (oi := { dst := some 65, op := Op.move (Operand.tmp 64), type := 4, pos := "law.go:65", after := #[{ on := 20, ground := Ground.data }, { on := 18, ground := Ground.chain }], guard := none }) (v := ?_) rfl (by kernel_rfl) (by kernel_rfl) (by kernel_rfl) (fun _ _ _ h => h) (Or.inl ⟨by rfl, ?_⟩) hHeld ?_
  rotate_left
  · intro w hSw; (try dsimp only at hSw); go_simp; (try with_reducible rfl)
  simp only [Act.put, List.setIfInBounds_toArray, List.set_cons_zero, List.set_cons_succ]
  refine wpAnyH_take (i := 22) (oi := { dst := some 66, op := Op.load 25 (Operand.tmp 7), type := 25, pos := "law.go:65", after := #[{ on := 21, ground := Ground.guard }], guard := some (21, false) }) (v := ?_) rfl (by kernel_rfl) (by kernel_rfl) (by kernel_rfl) (fun _ _ _ h => h) (Or.inl ⟨by rfl, ?_⟩) hHeld ?_
  rotate_left
  · intro w hSw; (try dsimp only at hSw); go_simp; (try with_reducible rfl)
  simp only [Act.put, List.setIfInBounds_toArray, List.set_cons_zero, List.set_cons_succ]
  refine wpAnyH_take (i := 23) (oi := { dst := some 67, op := Op.load 25 (Operand.tmp 4), type := 25, pos := "law.go:65", after := #[{ on := 21, ground := Ground.guard }], guard := some (21, false) }) (v := ?_) rfl (by kernel_rfl) (by kernel_rfl) (by kernel_rfl) (fun _ _ _ h => h) (Or.inl ⟨by rfl, ?_⟩) hHeld ?_
  rotate_left
  · intro w hSw; (try dsimp only at hSw); go_simp; (try with_reducible rfl)
  simp only [Act.put, List.setIfInBounds_toArray, List.set_cons_zero, List.set_cons_succ]
  refine wpAnyH_take (i := 24) (oi := { dst := some 68, op := Op.load 25 (Operand.tmp 3), type := 25, pos := "law.go:65", after := #[{ on := 21, ground := Ground.guard }], guard := some (21, false) }) (v := ?_) rfl (by kernel_rfl) (by kernel_rfl) (by kernel_rfl) (fun _ _ _ h => h) (Or.inl ⟨by rfl, ?_⟩) hHeld ?_
  rotate_left
  · intro w hSw; (try dsimp only at hSw); go_simp; (try with_reducible rfl)
  simp only [Act.put, List.setIfInBounds_toArray, List.set_cons_zero, List.set_cons_succ]
  refine wpAnyH_ready (rs := [25]) (by kernel_rfl) (by simp) ?_
  refine AllReadyH.cons (o := { dst := some 69, op := Op.call { callee := Callee.value (Operand.func 17), args := #[Operand.tmp 67, Operand.tmp 68], argTypes := #[25, 25] }, type := 25, pos := "law.go:65", after := #[{ on := 23, ground := Ground.data }, { on := 24, ground := Ground.data }, { on := 21, ground := Ground.chain }, { on := 21, ground := Ground.guard }], guard := some (21, false) }) rfl (fun K hK => ?_) AllReadyH.nil
  go_simp
  refine (ojoin_any z21 _ _ sb sa Fb21.out Fa21.out Kb.out Ka.out).mono ?_
  rintro e z22 ⟨v22, rfl, hsh, hb⟩
  have B22 := hid (B21.out.trans (hb.mono B21.out.size))
  have Fa22 := hid (Fa21.out.bel hb)
  have Fb22 := hid (Fb21.out.bel hb)
  have Fc22 := hid (Fc21.out.bel hb)
  have Fba22 := hid (bx_bel Fba21.out hb)
  have Fbb22 := hid (bx_bel Fbb21.out hb)
  have Fbc22 := hid (bx_bel Fbc21.out hb)
  have Fj22 := hid (Fj21.out.bel hb)
  have Fbj22 := hid (bx_bel Fbj21.out hb)
  have RB22 := hid (RB21.out.trans (hb.mono RB21.out.size))
  clear B21 Fa21 Fb21 Fc21 Fba21 Fbb21 Fbc21 Fj21 Fbj21 RB21
  rw [Z.out.ba] at hsh
  have Fx22 := hid hsh.at
  clear hsh
  clear hb
  refine hK.out _ _ (KH.out _ RB22.out) (fun hHeld => ?_)
  refine wpAnyH_ready (rs := [26]) (by kernel_rfl) (by simp) ?_
  refine AllReadyH.cons (o := { dst := some 70, op := Op.call { callee := Callee.value (Operand.func 16), args := #[Operand.tmp 66, Operand.tmp 69], argTypes := #[25, 25] }, type := 4, pos := "law.go:65", after := #[{ on := 22, ground := Ground.data }, { on := 25, ground := Ground.data }, { on := 25, ground := Ground.chain }, { on := 21, ground := Ground.guard }], guard := some (21, false) }) rfl (fun K hK => ?_) AllReadyH.nil
  go_simp
  refine (rsameS_any z22 _ _ sj (M.joinS sb sa) Fj22.out Fx22.out Z.out.Kj).mono ?_
  rw [Z.out.s1]
  rintro e z23 ⟨rfl, hb⟩
  have B23 := hid (B22.out.trans (hb.mono B22.out.size))
  have Fa23 := hid (Fa22.out.bel hb)
  have Fb23 := hid (Fb22.out.bel hb)
  have Fc23 := hid (Fc22.out.bel hb)
  have Fba23 := hid (bx_bel Fba22.out hb)
  have Fbb23 := hid (bx_bel Fbb22.out hb)
  have Fbc23 := hid (bx_bel Fbc22.out hb)
  have Fj23 := hid (Fj22.out.bel hb)
  have Fbj23 := hid (bx_bel Fbj22.out hb)
  have Fx23 := hid (Fx22.out.bel hb)
  have RB23 := hid (RB22.out.trans (hb.mono RB22.out.size))
  clear B22 Fa22 Fb22 Fc22 Fba22 Fbb22 Fbc22 Fj22 Fbj22 Fx22 RB22
  clear hb
  refine hK.out _ _ (KH.out _ RB23.out) (fun hHeld => ?_)
  refine wpAnyH_take (i := 27) (oi := { dst := some 71, op := Op.unOp UnOp.not 4 (Operand.tmp 70), type := 4, pos := "law.go:65", after := #[{ on := 26, ground := Ground.data }, { on := 21, ground := Ground.guard }], guard := some (21, false) }) (v := ?_) rfl (by kernel_rfl) (by kernel_rfl) (by kernel_rfl) (fun _ _ _ h => h) (Or.inl ⟨by rfl, ?_⟩) hHeld ?_
  rotate_left
  · intro w hSw; (try dsimp only at hSw); go_simp; (try with_reducible rfl)
  simp only [Act.put, List.setIfInBounds_toArray, List.set_cons_zero, List.set_cons_succ]
  refine wpAnyH_take (i := 28) (oi := { dst := some 72, op := Op.pick (Operand.tmp 65) (Operand.const (Value.bool true)) (Operand.tmp 71), type := 4, pos := "law.go:65", after := #[{ on := 21, ground := Ground.data }, { on := 27, ground := Ground.data }], guard := none }) (v := ?_) rfl (by kernel_rfl) (by kernel_rfl) (by kernel_rfl) (fun _ _ _ h => h) (Or.inl ⟨by rfl, ?_⟩) hHeld ?_
  rotate_left
  · intro w hSw; (try dsimp only at hSw); go_simp; (try with_reducible rfl)
  simp only [Act.put, List.setIfInBounds_toArray, List.set_cons_zero, List.set_cons_succ]
  refine wpAnyH_take (i := 29) (oi := { dst := some 73, op := Op.move (Operand.tmp 72), type := 4, pos := "law.go:65", after := #[{ on := 28, ground := Ground.data }, { on := 26, ground := Ground.chain }], guard := none }) (v := ?_) rfl (by kernel_rfl) (by kernel_rfl) (by kernel_rfl) (fun _ _ _ h => h) (Or.inl ⟨by rfl, ?_⟩) hHeld ?_
  rotate_left
  · intro w hSw; (try dsimp only at hSw); go_simp; (try with_reducible rfl)
  simp only [Act.put, List.setIfInBounds_toArray, List.set_cons_zero, List.set_cons_succ]
  refine wpAnyH_take (i := 30) (oi := { dst := some 74, op := Op.load 25 (Operand.tmp 7), type := 25, pos := "law.go:65", after := #[{ on := 29, ground := Ground.guard }], guard := some (29, false) }) (v := ?_) rfl (by kernel_rfl) (by kernel_rfl) (by kernel_rfl) (fun _ _ _ h => h) (Or.inl ⟨by rfl, ?_⟩) hHeld ?_
  rotate_left
  · intro w hSw; (try dsimp only at hSw); go_simp; (try with_reducible rfl)
  simp only [Act.put, List.setIfInBounds_toArray, List.set_cons_zero, List.set_cons_succ]
  refine wpAnyH_take (i := 31) (oi := { dst := some 75, op := Op.load 25 (Operand.tmp 3), type := 25, pos := "law.go:65", after := #[{ on := 29, ground := Ground.guard }], guard := some (29, false) }) (v := ?_) rfl (by kernel_rfl) (by kernel_rfl) (by kernel_rfl) (fun _ _ _ h => h) (Or.inl ⟨by rfl, ?_⟩) hHeld ?_
  rotate_left
  · intro w hSw; (try dsimp only at hSw); go_simp; (try with_reducible rfl)
  simp only [Act.put, List.setIfInBounds_toArray, List.set_cons_zero, List.set_cons_succ]
  refine wpAnyH_take (i := 33) (oi := { dst := some 77, op := Op.load 25 (Operand.tmp 7), type := 25, pos := "law.go:65", after := #[{ on := 29, ground := Ground.guard }], guard := some (29, false) }) (v := ?_) rfl (by kernel_rfl) (by kernel_rfl) (by kernel_rfl) (fun _ _ _ h => h) (Or.inl ⟨by rfl, ?_⟩) hHeld ?_
  rotate_left
  · intro w hSw; (try dsimp only at hSw); go_simp; (try with_reducible rfl)
  simp only [Act.put, List.setIfInBounds_toArray, List.set_cons_zero, List.set_cons_succ]
  refine wpAnyH_ready (rs := [32]) (by kernel_rfl) (by simp) ?_
  refine AllReadyH.cons (o := { dst := some 76, op := Op.call { callee := Callee.value (Operand.func 17), args := #[Operand.tmp 74, Operand.tmp 75], argTypes := #[25, 25] }, type := 25, pos := "law.go:65", after := #[{ on := 30, ground := Ground.data }, { on := 31, ground := Ground.data }, { on := 29, ground := Ground.chain }, { on := 29, ground := Ground.guard }], guard := some (29, false) }) rfl (fun K hK => ?_) AllReadyH.nil
  go_simp
  refine (ojoin_any z23 _ _ sj sa Fj23.out Fa23.out Z.out.Kj Ka.out).mono ?_
  rintro e z24 ⟨v24, rfl, hsh, hb⟩
  have B24 := hid (B23.out.trans (hb.mono B23.out.size))
  have Fa24 := hid (Fa23.out.bel hb)
  have Fb24 := hid (Fb23.out.bel hb)
  have Fc24 := hid (Fc23.out.bel hb)
  have Fba24 := hid (bx_bel Fba23.out hb)
  have Fbb24 := hid (bx_bel Fbb23.out hb)
  have Fbc24 := hid (bx_bel Fbc23.out hb)
  have Fj24 := hid (Fj23.out.bel hb)
  have Fbj24 := hid (bx_bel Fbj23.out hb)
  have RB24 := hid (RB23.out.trans (hb.mono RB23.out.size))
  clear B23 Fa23 Fb23 Fc23 Fba23 Fbb23 Fbc23 Fj23 Fbj23 RB23
  rw [Z.out.ja] at hsh
  have Fx24 := hid hsh.at
  clear hsh
  clear hb
  refine hK.out _ _ (KH.out _ RB24.out) (fun hHeld => ?_)
  refine wpAnyH_ready (rs := [34]) (by kernel_rfl) (by simp) ?_
  refine AllReadyH.cons (o := { dst := some 78, op := Op.call { callee := Callee.value (Operand.func 16), args := #[Operand.tmp 76, Operand.tmp 77], argTypes := #[25, 25] }, type := 4, pos := "law.go:65", after := #[{ on := 32, ground := Ground.data }, { on := 33, ground := Ground.data }, { on := 32, ground := Ground.chain }, { on := 29, ground := Ground.guard }], guard := some (29, false) }) rfl (fun K hK => ?_) AllReadyH.nil
  go_simp
  refine (rsameS_any z24 _ _ (M.joinS sj sa) sj Fx24.out Fj24.out Z.out.Kja).mono ?_
  rw [Z.out.s2]
  rintro e z25 ⟨rfl, hb⟩
  have B25 := hid (B24.out.trans (hb.mono B24.out.size))
  have Fa25 := hid (Fa24.out.bel hb)
  have Fb25 := hid (Fb24.out.bel hb)
  have Fc25 := hid (Fc24.out.bel hb)
  have Fba25 := hid (bx_bel Fba24.out hb)
  have Fbb25 := hid (bx_bel Fbb24.out hb)
  have Fbc25 := hid (bx_bel Fbc24.out hb)
  have Fj25 := hid (Fj24.out.bel hb)
  have Fbj25 := hid (bx_bel Fbj24.out hb)
  have Fx25 := hid (Fx24.out.bel hb)
  have RB25 := hid (RB24.out.trans (hb.mono RB24.out.size))
  clear B24 Fa24 Fb24 Fc24 Fba24 Fbb24 Fbc24 Fj24 Fbj24 Fx24 RB24
  clear hb
  refine hK.out _ _ (KH.out _ RB25.out) (fun hHeld => ?_)
  refine wpAnyH_take (i := 35) (oi := { dst := some 79, op := Op.unOp UnOp.not 4 (Operand.tmp 78), type := 4, pos := "law.go:65", after := #[{ on := 34, ground := Ground.data }, { on := 29, ground := Ground.guard }], guard := some (29, false) }) (v := ?_) rfl (by kernel_rfl) (by kernel_rfl) (by kernel_rfl) (fun _ _ _ h => h) (Or.inl ⟨by rfl, ?_⟩) hHeld ?_
  rotate_left
  · intro w hSw; (try dsimp only at hSw); go_simp; (try with_reducible rfl)
  simp only [Act.put, List.setIfInBounds_toArray, List.set_cons_zero, List.set_cons_succ]
  refine wpAnyH_take (i := 36) (oi := { dst := some 80, op := Op.pick (Operand.tmp 73) (Operand.const (Value.bool true)) (Operand.tmp 79), type := 4, pos := "law.go:65", after := #[{ on := 29, ground := Ground.data }, { on := 35, ground := Ground.data }], guard := none }) (v := ?_) rfl (by kernel_rfl) (by kernel_rfl) (by kernel_rfl) (fun _ _ _ h => h) (Or.inl ⟨by rfl, ?_⟩) hHeld ?_
  rotate_left
  · intro w hSw; (try dsimp only at hSw); go_simp; (try with_reducible rfl)
  simp only [Act.put, List.setIfInBounds_toArray, List.set_cons_zero, List.set_cons_succ]
  refine wpAnyH_done (by kernel_rfl) ?_ _
  clear hHeld KH
  clear RB25
  obtain ⟨xba0, xba1, _⟩ := cells2 Fba25.out
  obtain ⟨xbb0, xbb1, _⟩ := cells2 Fbb25.out
  obtain ⟨xbc0, xbc1, _⟩ := cells2 Fbc25.out
  obtain ⟨xbj0, xbj1, _⟩ := cells2 Fbj25.out
  go_wp2_with (first | (go_at_call 19; refine stopHere ?_))
  refine stopAt ?_
  refine (owithin_any z25 _ _ sa sc Fa25.out Fc25.out Ka.out Kc.out).mono ?_
  rw [Eac.out]
  rintro e w26 ⟨rfl, hb⟩
  have B26 := hid (B25.out.trans (hb.mono B25.out.size))
  have Fa26 := hid (Fa25.out.bel hb)
  have Fb26 := hid (Fb25.out.bel hb)
  have Fc26 := hid (Fc25.out.bel hb)
  have Fba26 := hid (bx_bel Fba25.out hb)
  have Fbb26 := hid (bx_bel Fbb25.out hb)
  have Fbc26 := hid (bx_bel Fbc25.out hb)
  have Fj26 := hid (Fj25.out.bel hb)
  have Fbj26 := hid (bx_bel Fbj25.out hb)
  clear B25 Fa25 Fb25 Fc25 Fba25 Fbb25 Fbc25 Fj25 Fbj25
  clear hb xba0 xba1 xbb0 xbb1 xbc0 xbc1 xbj0 xbj1
  obtain ⟨xba0, xba1, _⟩ := cells2 Fba26.out
  obtain ⟨xbb0, xbb1, _⟩ := cells2 Fbb26.out
  obtain ⟨xbc0, xbc1, _⟩ := cells2 Fbc26.out
  obtain ⟨xbj0, xbj1, _⟩ := cells2 Fbj26.out
  go_wp2_with (first | (go_at_call 19; refine stopHere ?_))
  refine stopAt ?_
  refine (owithin_any w26 _ _ sb sc Fb26.out Fc26.out Kb.out Kc.out).mono ?_
  rw [Ebc.out]
  rintro e w27 ⟨rfl, hb⟩
  have B27 := hid (B26.out.trans (hb.mono B26.out.size))
  have Fa27 := hid (Fa26.out.bel hb)
  have Fb27 := hid (Fb26.out.bel hb)
  have Fc27 := hid (Fc26.out.bel hb)
  have Fba27 := hid (bx_bel Fba26.out hb)
  have Fbb27 := hid (bx_bel Fbb26.out hb)
  have Fbc27 := hid (bx_bel Fbc26.out hb)
  have Fj27 := hid (Fj26.out.bel hb)
  have Fbj27 := hid (bx_bel Fbj26.out hb)
  clear B26 Fa26 Fb26 Fc26 Fba26 Fbb26 Fbc26 Fj26 Fbj26
  clear hb xba0 xba1 xbb0 xbb1 xbc0 xbc1 xbj0 xbj1
  rcases (Bool.eq_false_or_eq_true (M.withinS sa sb)).symm with hab | hab
  · have Es : Hid (M.sameS sa sb = false) := by unfold Hid; rw [← M.bothS Ma.out Mb.out, hab]; rfl
    have Eab : Hid ((M.mayS sa && M.mayS sb && M.withinS sa sb) = false) := by unfold Hid; rw [Ma.out, Mb.out, hab]; rfl
    clear hab
    obtain ⟨xba0, xba1, _⟩ := cells2 Fba27.out
    obtain ⟨xbb0, xbb1, _⟩ := cells2 Fbb27.out
    obtain ⟨xbc0, xbc1, _⟩ := cells2 Fbc27.out
    obtain ⟨xbj0, xbj1, _⟩ := cells2 Fbj27.out
    go_wp2_with fail
    have KH : Hid (∀ W, Below w27.heap.size w27 W → (W.cell? ⟨w.heap.size, 0, none⟩ = some (.slice aa sa.fs.length ca) ∧ W.cell? ⟨w.heap.size, 1, none⟩ = some (.slice ba sa.pr.length da) ∧ W.cell? ⟨V1.heap.size, 0, none⟩ = some (.slice ab sb.fs.length cb) ∧ W.cell? ⟨V1.heap.size, 1, none⟩ = some (.slice bb sb.pr.length db) ∧ W.cell? ⟨V3.heap.size, 0, none⟩ = some (.slice ac sc.fs.length cc) ∧ W.cell? ⟨V3.heap.size, 1, none⟩ = some (.slice bc sc.pr.length dc) ∧ W.cell? ⟨w14.heap.size, 0, none⟩ = some (.slice aj sj.fs.length cj) ∧ W.cell? ⟨w14.heap.size, 1, none⟩ = some (.slice bj sj.pr.length dj))) := fun W hb => by
      obtain ⟨yba0, yba1, _⟩ := cells2 (bx_bel Fba27.out hb)
      obtain ⟨ybb0, ybb1, _⟩ := cells2 (bx_bel Fbb27.out hb)
      obtain ⟨ybc0, ybc1, _⟩ := cells2 (bx_bel Fbc27.out hb)
      obtain ⟨ybj0, ybj1, _⟩ := cells2 (bx_bel Fbj27.out hb)
      exact ⟨yba0, yba1, ybb0, ybb1, ybc0, ybc1, ybj0, ybj1⟩
    clear xba0 xba1 xbb0 xbb1 xbc0 xbc1 xbj0 xbj1
    refine wp_region_held_drew (S := fun W => W.cell? ⟨w.heap.size, 0, none⟩ = some (.slice aa sa.fs.length ca) ∧ W.cell? ⟨w.heap.size, 1, none⟩ = some (.slice ba sa.pr.length da) ∧ W.cell? ⟨V1.heap.size, 0, none⟩ = some (.slice ab sb.fs.length cb) ∧ W.cell? ⟨V1.heap.size, 1, none⟩ = some (.slice bb sb.pr.length db) ∧ W.cell? ⟨V3.heap.size, 0, none⟩ = some (.slice ac sc.fs.length cc) ∧ W.cell? ⟨V3.heap.size, 1, none⟩ = some (.slice bc sc.pr.length dc) ∧ W.cell? ⟨w14.heap.size, 0, none⟩ = some (.slice aj sj.fs.length cj) ∧ W.cell? ⟨w14.heap.size, 1, none⟩ = some (.slice bj sj.pr.length dj)) (by kernel_rfl) (KH.out _ (Below.refl _ _).drew) (fun hHeld => ?_)
    have hbd : Below w27.heap.size w27 w27.drew := (Gr.refl _).drew.below
    have RB0 := hid hbd
    have B28 := hid (B27.out.trans (hbd.mono B27.out.size))
    have Fa28 := hid (Fa27.out.bel hbd)
    have Fb28 := hid (Fb27.out.bel hbd)
    have Fc28 := hid (Fc27.out.bel hbd)
    have Fba28 := hid (bx_bel Fba27.out hbd)
    have Fbb28 := hid (bx_bel Fbb27.out hbd)
    have Fbc28 := hid (bx_bel Fbc27.out hbd)
    have Fj28 := hid (Fj27.out.bel hbd)
    have Fbj28 := hid (bx_bel Fbj27.out hbd)
    clear B27 Fa27 Fb27 Fc27 Fba27 Fbb27 Fbc27 Fj27 Fbj27
    clear hbd
    refine wpAnyH_take (i := 0) (oi := { dst := some 95, op := Op.load 25 (Operand.tmp 7), type := 25, pos := "law.go:71", after := #[], guard := none }) (v := ?_) rfl (by kernel_rfl) (by kernel_rfl) (by kernel_rfl) (fun _ _ _ h => h) (Or.inl ⟨by rfl, ?_⟩) hHeld ?_
    rotate_left
    · intro w hSw; (try dsimp only at hSw); go_simp; (try with_reducible rfl)
    simp only [Act.put, List.setIfInBounds_toArray, List.set_cons_zero, List.set_cons_succ]
    refine wpAnyH_take (i := 1) (oi := { dst := some 96, op := Op.load 25 (Operand.tmp 5), type := 25, pos := "law.go:71", after := #[], guard := none }) (v := ?_) rfl (by kernel_rfl) (by kernel_rfl) (by kernel_rfl) (fun _ _ _ h => h) (Or.inl ⟨by rfl, ?_⟩) hHeld ?_
    rotate_left
    · intro w hSw; (try dsimp only at hSw); go_simp; (try with_reducible rfl)
    simp only [Act.put, List.setIfInBounds_toArray, List.set_cons_zero, List.set_cons_succ]
    refine wpAnyH_take (i := 3) (oi := { dst := some 98, op := Op.load 25 (Operand.tmp 3), type := 25, pos := "law.go:71", after := #[], guard := none }) (v := ?_) rfl (by kernel_rfl) (by kernel_rfl) (by kernel_rfl) (fun _ _ _ h => h) (Or.inl ⟨by rfl, ?_⟩) hHeld ?_
    rotate_left
    · intro w hSw; (try dsimp only at hSw); go_simp; (try with_reducible rfl)
    simp only [Act.put, List.setIfInBounds_toArray, List.set_cons_zero, List.set_cons_succ]
    refine wpAnyH_take (i := 4) (oi := { dst := some 99, op := Op.load 25 (Operand.tmp 4), type := 25, pos := "law.go:71", after := #[], guard := none }) (v := ?_) rfl (by kernel_rfl) (by kernel_rfl) (by kernel_rfl) (fun _ _ _ h => h) (Or.inl ⟨by rfl, ?_⟩) hHeld ?_
    rotate_left
    · intro w hSw; (try dsimp only at hSw); go_simp; (try with_reducible rfl)
    simp only [Act.put, List.setIfInBounds_toArray, List.set_cons_zero, List.set_cons_succ]
    refine wpAnyH_take (i := 5) (oi := { dst := some 100, op := Op.load 25 (Operand.tmp 5), type := 25, pos := "law.go:71", after := #[], guard := none }) (v := ?_) rfl (by kernel_rfl) (by kernel_rfl) (by kernel_rfl) (fun _ _ _ h => h) (Or.inl ⟨by rfl, ?_⟩) hHeld ?_
    rotate_left
    · intro w hSw; (try dsimp only at hSw); go_simp; (try with_reducible rfl)
    simp only [Act.put, List.setIfInBounds_toArray, List.set_cons_zero, List.set_cons_succ]
    refine wpAnyH_ready (rs := [2]) (by kernel_rfl) (by simp) ?_
    refine AllReadyH.cons (o := { dst := some 97, op := Op.call { callee := Callee.value (Operand.func 17), args := #[Operand.tmp 95, Operand.tmp 96], argTypes := #[25, 25] }, type := 25, pos := "law.go:71", after := #[{ on := 0, ground := Ground.data }, { on := 1, ground := Ground.data }], guard := none }) rfl (fun K hK => ?_) AllReadyH.nil
    go_simp
    refine (ojoin_any w27.drew _ _ sj sc Fj28.out Fc28.out Z.out.Kj Kc.out).mono ?_
    rintro e z29 ⟨v29, rfl, hsh, hb⟩
    have B29 := hid (B28.out.trans (hb.mono B28.out.size))
    have Fa29 := hid (Fa28.out.bel hb)
    have Fb29 := hid (Fb28.out.bel hb)
    have Fc29 := hid (Fc28.out.bel hb)
    have Fba29 := hid (bx_bel Fba28.out hb)
    have Fbb29 := hid (bx_bel Fbb28.out hb)
    have Fbc29 := hid (bx_bel Fbc28.out hb)
    have Fj29 := hid (Fj28.out.bel hb)
    have Fbj29 := hid (bx_bel Fbj28.out hb)
    have RB29 := hid (RB0.out.trans (hb.mono RB0.out.size))
    clear B28 Fa28 Fb28 Fc28 Fba28 Fbb28 Fbc28 Fj28 Fbj28 RB0
    rw [Z.out.jc] at hsh
    have Fx29 := hid hsh.at
    clear hsh
    clear hb
    refine hK.out _ _ (KH.out _ RB29.out) (fun hHeld => ?_)
    refine wpAnyH_ready (rs := [6]) (by kernel_rfl) (by simp) ?_
    refine AllReadyH.cons (o := { dst := some 101, op := Op.call { callee := Callee.value (Operand.func 17), args := #[Operand.tmp 99, Operand.tmp 100], argTypes := #[25, 25] }, type := 25, pos := "law.go:71", after := #[{ on := 4, ground := Ground.data }, { on := 5, ground := Ground.data }, { on := 2, ground := Ground.chain }], guard := none }) rfl (fun K hK => ?_) AllReadyH.nil
    go_simp
    refine (ojoin_any z29 _ _ sb sc Fb29.out Fc29.out Kb.out Kc.out).mono ?_
    rintro e z30 ⟨v30, rfl, hsh, hb⟩
    have B30 := hid (B29.out.trans (hb.mono B29.out.size))
    have Fa30 := hid (Fa29.out.bel hb)
    have Fb30 := hid (Fb29.out.bel hb)
    have Fc30 := hid (Fc29.out.bel hb)
    have Fba30 := hid (bx_bel Fba29.out hb)
    have Fbb30 := hid (bx_bel Fbb29.out hb)
    have Fbc30 := hid (bx_bel Fbc29.out hb)
    have Fj30 := hid (Fj29.out.bel hb)
    have Fbj30 := hid (bx_bel Fbj29.out hb)
    have Fx30 := hid (Fx29.out.bel hb)
    have RB30 := hid (RB29.out.trans (hb.mono RB29.out.size))
    clear B29 Fa29 Fb29 Fc29 Fba29 Fbb29 Fbc29 Fj29 Fbj29 Fx29 RB29
    rw [Z.out.bc] at hsh
    have Fy30 := hid hsh.at
    clear hsh
    clear hb
    refine hK.out _ _ (KH.out _ RB30.out) (fun hHeld => ?_)
    refine wpAnyH_ready (rs := [7]) (by kernel_rfl) (by simp) ?_
    refine AllReadyH.cons (o := { dst := some 102, op := Op.call { callee := Callee.value (Operand.func 17), args := #[Operand.tmp 98, Operand.tmp 101], argTypes := #[25, 25] }, type := 25, pos := "law.go:71", after := #[{ on := 3, ground := Ground.data }, { on := 6, ground := Ground.data }, { on := 6, ground := Ground.chain }], guard := none }) rfl (fun K hK => ?_) AllReadyH.nil
    go_simp
    refine (ojoin_any z30 _ _ sa (M.joinS sb sc) Fa30.out Fy30.out Ka.out Z.out.Kbc).mono ?_
    rintro e z31 ⟨v31, rfl, hsh, hb⟩
    have B31 := hid (B30.out.trans (hb.mono B30.out.size))
    have Fa31 := hid (Fa30.out.bel hb)
    have Fb31 := hid (Fb30.out.bel hb)
    have Fc31 := hid (Fc30.out.bel hb)
    have Fba31 := hid (bx_bel Fba30.out hb)
    have Fbb31 := hid (bx_bel Fbb30.out hb)
    have Fbc31 := hid (bx_bel Fbc30.out hb)
    have Fj31 := hid (Fj30.out.bel hb)
    have Fbj31 := hid (bx_bel Fbj30.out hb)
    have Fx31 := hid (Fx30.out.bel hb)
    have Fy31 := hid (Fy30.out.bel hb)
    have RB31 := hid (RB30.out.trans (hb.mono RB30.out.size))
    clear B30 Fa30 Fb30 Fc30 Fba30 Fbb30 Fbc30 Fj30 Fbj30 Fx30 Fy30 RB30
    rw [Z.out.abc] at hsh
    have Fz31 := hid hsh.at
    clear hsh
    clear hb
    refine hK.out _ _ (KH.out _ RB31.out) (fun hHeld => ?_)
    refine wpAnyH_ready (rs := [8]) (by kernel_rfl) (by simp) ?_
    refine AllReadyH.cons (o := { dst := some 103, op := Op.call { callee := Callee.value (Operand.func 16), args := #[Operand.tmp 97, Operand.tmp 102], argTypes := #[25, 25] }, type := 4, pos := "law.go:71", after := #[{ on := 2, ground := Ground.data }, { on := 7, ground := Ground.data }, { on := 7, ground := Ground.chain }], guard := none }) rfl (fun K hK => ?_) AllReadyH.nil
    go_simp
    refine (rsameS_any z31 _ _ (M.joinS sj sc) (M.joinS sa (M.joinS sb sc)) Fx31.out Fz31.out Z.out.Kjc).mono ?_
    rw [Z.out.s3]
    rintro e z32 ⟨rfl, hb⟩
    have B32 := hid (B31.out.trans (hb.mono B31.out.size))
    have Fa32 := hid (Fa31.out.bel hb)
    have Fb32 := hid (Fb31.out.bel hb)
    have Fc32 := hid (Fc31.out.bel hb)
    have Fba32 := hid (bx_bel Fba31.out hb)
    have Fbb32 := hid (bx_bel Fbb31.out hb)
    have Fbc32 := hid (bx_bel Fbc31.out hb)
    have Fj32 := hid (Fj31.out.bel hb)
    have Fbj32 := hid (bx_bel Fbj31.out hb)
    have Fx32 := hid (Fx31.out.bel hb)
    have Fy32 := hid (Fy31.out.bel hb)
    have Fz32 := hid (Fz31.out.bel hb)
    have RB32 := hid (RB31.out.trans (hb.mono RB31.out.size))
    clear B31 Fa31 Fb31 Fc31 Fba31 Fbb31 Fbc31 Fj31 Fbj31 Fx31 Fy31 Fz31 RB31
    clear hb
    refine hK.out _ _ (KH.out _ RB32.out) (fun hHeld => ?_)
    refine wpAnyH_take (i := 9) (oi := { dst := some 104, op := Op.move (Operand.tmp 103), type := 4, pos := "law.go:71", after := #[{ on := 8, ground := Ground.data }, { on := 8, ground := Ground.chain }], guard := none }) (v := ?_) rfl (by kernel_rfl) (by kernel_rfl) (by kernel_rfl) (fun _ _ _ h => h) (Or.inl ⟨by rfl, ?_⟩) hHeld ?_
    rotate_left
    · intro w hSw; (try dsimp only at hSw); go_simp; (try with_reducible rfl)
    simp only [Act.put, List.setIfInBounds_toArray, List.set_cons_zero, List.set_cons_succ]
    refine wpAnyH_take (i := 10) (oi := { dst := some 105, op := Op.load 25 (Operand.tmp 3), type := 25, pos := "law.go:71", after := #[{ on := 9, ground := Ground.guard }], guard := some (9, true) }) (v := ?_) rfl (by kernel_rfl) (by kernel_rfl) (by kernel_rfl) (fun _ _ _ h => h) (Or.inl ⟨by rfl, ?_⟩) hHeld ?_
    rotate_left
    · intro w hSw; (try dsimp only at hSw); go_simp; (try with_reducible rfl)
    simp only [Act.put, List.setIfInBounds_toArray, List.set_cons_zero, List.set_cons_succ]
    refine wpAnyH_take (i := 11) (oi := { dst := some 106, op := Op.load 25 (Operand.tmp 4), type := 25, pos := "law.go:71", after := #[{ on := 9, ground := Ground.guard }], guard := some (9, true) }) (v := ?_) rfl (by kernel_rfl) (by kernel_rfl) (by kernel_rfl) (fun _ _ _ h => h) (Or.inl ⟨by rfl, ?_⟩) hHeld ?_
    rotate_left
    · intro w hSw; (try dsimp only at hSw); go_simp; (try with_reducible rfl)
    simp only [Act.put, List.setIfInBounds_toArray, List.set_cons_zero, List.set_cons_succ]
    refine wpAnyH_take (i := 18) (oi := { dst := some 113, op := Op.load 25 (Operand.tmp 3), type := 25, pos := "law.go:71", after := #[{ on := 9, ground := Ground.guard }], guard := some (9, true) }) (v := ?_) rfl (by kernel_rfl) (by kernel_rfl) (by kernel_rfl) (fun _ _ _ h => h) (Or.inl ⟨by rfl, ?_⟩) hHeld ?_
    rotate_left
    · intro w hSw; (try dsimp only at hSw); go_simp; (try with_reducible rfl)
    simp only [Act.put, List.setIfInBounds_toArray, List.set_cons_zero, List.set_cons_succ]
    refine wpAnyH_take (i := 19) (oi := { dst := some 114, op := Op.load 25 (Operand.tmp 4), type := 25, pos := "law.go:71", after := #[{ on := 9, ground := Ground.guard }], guard := some (9, true) }) (v := ?_) rfl (by kernel_rfl) (by kernel_rfl) (by kernel_rfl) (fun _ _ _ h => h) (Or.inl ⟨by rfl, ?_⟩) hHeld ?_
    rotate_left
    · intro w hSw; (try dsimp only at hSw); go_simp; (try with_reducible rfl)
    simp only [Act.put, List.setIfInBounds_toArray, List.set_cons_zero, List.set_cons_succ]
    refine wpAnyH_ready (rs := [12]) (by kernel_rfl) (by simp) ?_
    refine AllReadyH.cons (o := { dst := some 107, op := Op.call { callee := Callee.value (Operand.func 19), args := #[Operand.tmp 105, Operand.tmp 106], argTypes := #[25, 25] }, type := 4, pos := "law.go:71", after := #[{ on := 10, ground := Ground.data }, { on := 11, ground := Ground.data }, { on := 9, ground := Ground.chain }, { on := 9, ground := Ground.guard }], guard := some (9, true) }) rfl (fun K hK => ?_) AllReadyH.nil
    go_simp
    refine (owithin_any z32 _ _ sa sb Fa32.out Fb32.out Ka.out Kb.out).mono ?_
    rw [Eab.out]
    rintro e z33 ⟨rfl, hb⟩
    have B33 := hid (B32.out.trans (hb.mono B32.out.size))
    have Fa33 := hid (Fa32.out.bel hb)
    have Fb33 := hid (Fb32.out.bel hb)
    have Fc33 := hid (Fc32.out.bel hb)
    have Fba33 := hid (bx_bel Fba32.out hb)
    have Fbb33 := hid (bx_bel Fbb32.out hb)
    have Fbc33 := hid (bx_bel Fbc32.out hb)
    have Fj33 := hid (Fj32.out.bel hb)
    have Fbj33 := hid (bx_bel Fbj32.out hb)
    have RB33 := hid (RB32.out.trans (hb.mono RB32.out.size))
    clear B32 Fa32 Fb32 Fc32 Fba32 Fbb32 Fbc32 Fj32 Fbj32 RB32
    clear hb
    refine hK.out _ _ (KH.out _ RB33.out) (fun hHeld => ?_)
    refine wpAnyH_take (i := 13) (oi := { dst := some 108, op := Op.move (Operand.tmp 107), type := 4, pos := "law.go:71", after := #[{ on := 12, ground := Ground.data }, { on := 12, ground := Ground.chain }, { on := 9, ground := Ground.guard }], guard := some (9, true) }) (v := ?_) rfl (by kernel_rfl) (by kernel_rfl) (by kernel_rfl) (fun _ _ _ h => h) (Or.inl ⟨by rfl, ?_⟩) hHeld ?_
    rotate_left
    · intro w hSw; (try dsimp only at hSw); go_simp; (try with_reducible rfl)
    simp only [Act.put, List.setIfInBounds_toArray, List.set_cons_zero, List.set_cons_succ]
    refine wpAnyH_take (i := 14) (oi := { dst := some 109, op := Op.load 25 (Operand.tmp 4), type := 25, pos := "law.go:71", after := #[{ on := 13, ground := Ground.guard }], guard := some (13, true) }) (v := undef) rfl (by kernel_rfl) (by kernel_rfl) (by kernel_rfl) (fun _ _ _ h => h) (Or.inr ⟨by rfl, rfl⟩) hHeld ?_
    simp only [Act.put, List.setIfInBounds_toArray, List.set_cons_zero, List.set_cons_succ]
    refine wpAnyH_take (i := 15) (oi := { dst := some 110, op := Op.load 25 (Operand.tmp 3), type := 25, pos := "law.go:71", after := #[{ on := 13, ground := Ground.guard }], guard := some (13, true) }) (v := undef) rfl (by kernel_rfl) (by kernel_rfl) (by kernel_rfl) (fun _ _ _ h => h) (Or.inr ⟨by rfl, rfl⟩) hHeld ?_
    simp only [Act.put, List.setIfInBounds_toArray, List.set_cons_zero, List.set_cons_succ]
    refine wpAnyH_take (i := 16) (oi := { dst := some 111, op := Op.call { callee := Callee.value (Operand.func 19), args := #[Operand.tmp 109, Operand.tmp 110], argTypes := #[25, 25] }, type := 4, pos := "law.go:71", after := #[{ on := 14, ground := Ground.data }, { on := 15, ground := Ground.data }, { on := 13, ground := Ground.chain }, { on := 13, ground := Ground.guard }], guard := some (13, true) }) (v := undef) rfl (by kernel_rfl) (by kernel_rfl) (by kernel_rfl) (fun _ _ _ h => h) (Or.inr ⟨by rfl, rfl⟩) hHeld ?_
    simp only [Act.put, List.setIfInBounds_toArray, List.set_cons_zero, List.set_cons_succ]
    refine wpAnyH_take (i := 17) (oi := { dst := some 112, op := Op.pick (Operand.tmp 108) (Operand.tmp 111) (Operand.const (Value.bool false)), type := 4, pos := "law.go:71", after := #[{ on := 13, ground := Ground.data }, { on := 16, ground := Ground.data }, { on := 9, ground := Ground.guard }], guard := some (9, true) }) (v := ?_) rfl (by kernel_rfl) (by kernel_rfl) (by kernel_rfl) (fun _ _ _ h => h) (Or.inl ⟨by rfl, ?_⟩) hHeld ?_
    rotate_left
    · intro w hSw; (try dsimp only at hSw); go_simp; (try with_reducible rfl)
    simp only [Act.put, List.setIfInBounds_toArray, List.set_cons_zero, List.set_cons_succ]
    refine wpAnyH_ready (rs := [20]) (by kernel_rfl) (by simp) ?_
    refine AllReadyH.cons (o := { dst := some 115, op := Op.call { callee := Callee.value (Operand.func 16), args := #[Operand.tmp 113, Operand.tmp 114], argTypes := #[25, 25] }, type := 4, pos := "law.go:71", after := #[{ on := 18, ground := Ground.data }, { on := 19, ground := Ground.data }, { on := 16, ground := Ground.chain }, { on := 9, ground := Ground.guard }], guard := some (9, true) }) rfl (fun K hK => ?_) AllReadyH.nil
    go_simp
    refine (rsameS_any z33 _ _ sa sb Fa33.out Fb33.out Ka.out).mono ?_
    rw [Es.out]
    rintro e z34 ⟨rfl, hb⟩
    have B34 := hid (B33.out.trans (hb.mono B33.out.size))
    have Fa34 := hid (Fa33.out.bel hb)
    have Fb34 := hid (Fb33.out.bel hb)
    have Fc34 := hid (Fc33.out.bel hb)
    have Fba34 := hid (bx_bel Fba33.out hb)
    have Fbb34 := hid (bx_bel Fbb33.out hb)
    have Fbc34 := hid (bx_bel Fbc33.out hb)
    have Fj34 := hid (Fj33.out.bel hb)
    have Fbj34 := hid (bx_bel Fbj33.out hb)
    have RB34 := hid (RB33.out.trans (hb.mono RB33.out.size))
    clear B33 Fa33 Fb33 Fc33 Fba33 Fbb33 Fbc33 Fj33 Fbj33 RB33
    clear hb
    refine hK.out _ _ (KH.out _ RB34.out) (fun hHeld => ?_)
    refine wpAnyH_take (i := 21) (oi := { dst := some 116, op := Op.binOp BinOp.eql 4 (Operand.tmp 112) (Operand.tmp 115) 4, type := 4, pos := "law.go:71", after := #[{ on := 17, ground := Ground.data }, { on := 20, ground := Ground.data }, { on := 9, ground := Ground.guard }], guard := some (9, true) }) (v := ?_) rfl (by kernel_rfl) (by kernel_rfl) (by kernel_rfl) (fun _ _ _ h => h) (Or.inl ⟨by rfl, ?_⟩) hHeld ?_
    rotate_left
    · intro w hSw; (try dsimp only at hSw); go_simp; (try with_reducible rfl)
    simp only [Act.put, List.setIfInBounds_toArray, List.set_cons_zero, List.set_cons_succ]
    refine wpAnyH_take (i := 22) (oi := { dst := some 117, op := Op.pick (Operand.tmp 104) (Operand.tmp 116) (Operand.const (Value.bool false)), type := 4, pos := "law.go:71", after := #[{ on := 9, ground := Ground.data }, { on := 21, ground := Ground.data }], guard := none }) (v := ?_) rfl (by kernel_rfl) (by kernel_rfl) (by kernel_rfl) (fun _ _ _ h => h) (Or.inl ⟨by rfl, ?_⟩) hHeld ?_
    rotate_left
    · intro w hSw; (try dsimp only at hSw); go_simp; (try with_reducible rfl)
    simp only [Act.put, List.setIfInBounds_toArray, List.set_cons_zero, List.set_cons_succ]
    refine wpAnyH_take (i := 23) (oi := { dst := some 6, op := Op.assign (Operand.tmp 117), type := 4, pos := "law.go:71", after := #[{ on := 22, ground := Ground.data }, { on := 20, ground := Ground.chain }, { on := 0, ground := Ground.phase }, { on := 1, ground := Ground.phase }, { on := 2, ground := Ground.phase }, { on := 3, ground := Ground.phase }, { on := 4, ground := Ground.phase }, { on := 5, ground := Ground.phase }, { on := 6, ground := Ground.phase }, { on := 7, ground := Ground.phase }, { on := 8, ground := Ground.phase }, { on := 9, ground := Ground.phase }, { on := 10, ground := Ground.phase }, { on := 11, ground := Ground.phase }, { on := 12, ground := Ground.phase }, { on := 13, ground := Ground.phase }, { on := 14, ground := Ground.phase }, { on := 15, ground := Ground.phase }, { on := 16, ground := Ground.phase }, { on := 17, ground := Ground.phase }, { on := 18, ground := Ground.phase }, { on := 19, ground := Ground.phase }, { on := 20, ground := Ground.phase }, { on := 21, ground := Ground.phase }, { on := 22, ground := Ground.phase }], guard := none }) (v := ?_) rfl (by kernel_rfl) (by kernel_rfl) (by kernel_rfl) (fun _ _ _ h => h) (Or.inl ⟨by rfl, ?_⟩) hHeld ?_
    rotate_left
    · intro w hSw; (try dsimp only at hSw); go_simp; (try with_reducible rfl)
    simp only [Act.put, List.setIfInBounds_toArray, List.set_cons_zero, List.set_cons_succ]
    refine wpAnyH_done (by kernel_rfl) ?_ _
    clear hHeld KH
    clear RB34
    go_wp2
    go_ret
    exact ⟨rfl, B34.out⟩
  rcases (Bool.eq_false_or_eq_true (M.withinS sb sa)).symm with hba | hba
  · have Es : Hid (M.sameS sa sb = false) := by unfold Hid; rw [← M.bothS Ma.out Mb.out, hab, hba]; rfl
    have Eab : Hid ((M.mayS sa && M.mayS sb && M.withinS sa sb) = true) := by unfold Hid; rw [Ma.out, Mb.out, hab]; rfl
    have Eba : Hid ((M.mayS sb && M.mayS sa && M.withinS sb sa) = false) := by unfold Hid; rw [Ma.out, Mb.out, hba]; rfl
    clear hab hba
    obtain ⟨xba0, xba1, _⟩ := cells2 Fba27.out
    obtain ⟨xbb0, xbb1, _⟩ := cells2 Fbb27.out
    obtain ⟨xbc0, xbc1, _⟩ := cells2 Fbc27.out
    obtain ⟨xbj0, xbj1, _⟩ := cells2 Fbj27.out
    go_wp2_with fail
    have KH : Hid (∀ W, Below w27.heap.size w27 W → (W.cell? ⟨w.heap.size, 0, none⟩ = some (.slice aa sa.fs.length ca) ∧ W.cell? ⟨w.heap.size, 1, none⟩ = some (.slice ba sa.pr.length da) ∧ W.cell? ⟨V1.heap.size, 0, none⟩ = some (.slice ab sb.fs.length cb) ∧ W.cell? ⟨V1.heap.size, 1, none⟩ = some (.slice bb sb.pr.length db) ∧ W.cell? ⟨V3.heap.size, 0, none⟩ = some (.slice ac sc.fs.length cc) ∧ W.cell? ⟨V3.heap.size, 1, none⟩ = some (.slice bc sc.pr.length dc) ∧ W.cell? ⟨w14.heap.size, 0, none⟩ = some (.slice aj sj.fs.length cj) ∧ W.cell? ⟨w14.heap.size, 1, none⟩ = some (.slice bj sj.pr.length dj))) := fun W hb => by
      obtain ⟨yba0, yba1, _⟩ := cells2 (bx_bel Fba27.out hb)
      obtain ⟨ybb0, ybb1, _⟩ := cells2 (bx_bel Fbb27.out hb)
      obtain ⟨ybc0, ybc1, _⟩ := cells2 (bx_bel Fbc27.out hb)
      obtain ⟨ybj0, ybj1, _⟩ := cells2 (bx_bel Fbj27.out hb)
      exact ⟨yba0, yba1, ybb0, ybb1, ybc0, ybc1, ybj0, ybj1⟩
    clear xba0 xba1 xbb0 xbb1 xbc0 xbc1 xbj0 xbj1
    refine wp_region_held_drew (S := fun W => W.cell? ⟨w.heap.size, 0, none⟩ = some (.slice aa sa.fs.length ca) ∧ W.cell? ⟨w.heap.size, 1, none⟩ = some (.slice ba sa.pr.length da) ∧ W.cell? ⟨V1.heap.size, 0, none⟩ = some (.slice ab sb.fs.length cb) ∧ W.cell? ⟨V1.heap.size, 1, none⟩ = some (.slice bb sb.pr.length db) ∧ W.cell? ⟨V3.heap.size, 0, none⟩ = some (.slice ac sc.fs.length cc) ∧ W.cell? ⟨V3.heap.size, 1, none⟩ = some (.slice bc sc.pr.length dc) ∧ W.cell? ⟨w14.heap.size, 0, none⟩ = some (.slice aj sj.fs.length cj) ∧ W.cell? ⟨w14.heap.size, 1, none⟩ = some (.slice bj sj.pr.length dj)) (by kernel_rfl) (KH.out _ (Below.refl _ _).drew) (fun hHeld => ?_)
    have hbd : Below w27.heap.size w27 w27.drew := (Gr.refl _).drew.below
    have RB0 := hid hbd
    have B28 := hid (B27.out.trans (hbd.mono B27.out.size))
    have Fa28 := hid (Fa27.out.bel hbd)
    have Fb28 := hid (Fb27.out.bel hbd)
    have Fc28 := hid (Fc27.out.bel hbd)
    have Fba28 := hid (bx_bel Fba27.out hbd)
    have Fbb28 := hid (bx_bel Fbb27.out hbd)
    have Fbc28 := hid (bx_bel Fbc27.out hbd)
    have Fj28 := hid (Fj27.out.bel hbd)
    have Fbj28 := hid (bx_bel Fbj27.out hbd)
    clear B27 Fa27 Fb27 Fc27 Fba27 Fbb27 Fbc27 Fj27 Fbj27
    clear hbd
    refine wpAnyH_take (i := 0) (oi := { dst := some 95, op := Op.load 25 (Operand.tmp 7), type := 25, pos := "law.go:71", after := #[], guard := none }) (v := ?_) rfl (by kernel_rfl) (by kernel_rfl) (by kernel_rfl) (fun _ _ _ h => h) (Or.inl ⟨by rfl, ?_⟩) hHeld ?_
    rotate_left
    · intro w hSw; (try dsimp only at hSw); go_simp; (try with_reducible rfl)
    simp only [Act.put, List.setIfInBounds_toArray, List.set_cons_zero, List.set_cons_succ]
    refine wpAnyH_take (i := 1) (oi := { dst := some 96, op := Op.load 25 (Operand.tmp 5), type := 25, pos := "law.go:71", after := #[], guard := none }) (v := ?_) rfl (by kernel_rfl) (by kernel_rfl) (by kernel_rfl) (fun _ _ _ h => h) (Or.inl ⟨by rfl, ?_⟩) hHeld ?_
    rotate_left
    · intro w hSw; (try dsimp only at hSw); go_simp; (try with_reducible rfl)
    simp only [Act.put, List.setIfInBounds_toArray, List.set_cons_zero, List.set_cons_succ]
    refine wpAnyH_take (i := 3) (oi := { dst := some 98, op := Op.load 25 (Operand.tmp 3), type := 25, pos := "law.go:71", after := #[], guard := none }) (v := ?_) rfl (by kernel_rfl) (by kernel_rfl) (by kernel_rfl) (fun _ _ _ h => h) (Or.inl ⟨by rfl, ?_⟩) hHeld ?_
    rotate_left
    · intro w hSw; (try dsimp only at hSw); go_simp; (try with_reducible rfl)
    simp only [Act.put, List.setIfInBounds_toArray, List.set_cons_zero, List.set_cons_succ]
    refine wpAnyH_take (i := 4) (oi := { dst := some 99, op := Op.load 25 (Operand.tmp 4), type := 25, pos := "law.go:71", after := #[], guard := none }) (v := ?_) rfl (by kernel_rfl) (by kernel_rfl) (by kernel_rfl) (fun _ _ _ h => h) (Or.inl ⟨by rfl, ?_⟩) hHeld ?_
    rotate_left
    · intro w hSw; (try dsimp only at hSw); go_simp; (try with_reducible rfl)
    simp only [Act.put, List.setIfInBounds_toArray, List.set_cons_zero, List.set_cons_succ]
    refine wpAnyH_take (i := 5) (oi := { dst := some 100, op := Op.load 25 (Operand.tmp 5), type := 25, pos := "law.go:71", after := #[], guard := none }) (v := ?_) rfl (by kernel_rfl) (by kernel_rfl) (by kernel_rfl) (fun _ _ _ h => h) (Or.inl ⟨by rfl, ?_⟩) hHeld ?_
    rotate_left
    · intro w hSw; (try dsimp only at hSw); go_simp; (try with_reducible rfl)
    simp only [Act.put, List.setIfInBounds_toArray, List.set_cons_zero, List.set_cons_succ]
    refine wpAnyH_ready (rs := [2]) (by kernel_rfl) (by simp) ?_
    refine AllReadyH.cons (o := { dst := some 97, op := Op.call { callee := Callee.value (Operand.func 17), args := #[Operand.tmp 95, Operand.tmp 96], argTypes := #[25, 25] }, type := 25, pos := "law.go:71", after := #[{ on := 0, ground := Ground.data }, { on := 1, ground := Ground.data }], guard := none }) rfl (fun K hK => ?_) AllReadyH.nil
    go_simp
    refine (ojoin_any w27.drew _ _ sj sc Fj28.out Fc28.out Z.out.Kj Kc.out).mono ?_
    rintro e z29 ⟨v29, rfl, hsh, hb⟩
    have B29 := hid (B28.out.trans (hb.mono B28.out.size))
    have Fa29 := hid (Fa28.out.bel hb)
    have Fb29 := hid (Fb28.out.bel hb)
    have Fc29 := hid (Fc28.out.bel hb)
    have Fba29 := hid (bx_bel Fba28.out hb)
    have Fbb29 := hid (bx_bel Fbb28.out hb)
    have Fbc29 := hid (bx_bel Fbc28.out hb)
    have Fj29 := hid (Fj28.out.bel hb)
    have Fbj29 := hid (bx_bel Fbj28.out hb)
    have RB29 := hid (RB0.out.trans (hb.mono RB0.out.size))
    clear B28 Fa28 Fb28 Fc28 Fba28 Fbb28 Fbc28 Fj28 Fbj28 RB0
    rw [Z.out.jc] at hsh
    have Fx29 := hid hsh.at
    clear hsh
    clear hb
    refine hK.out _ _ (KH.out _ RB29.out) (fun hHeld => ?_)
    refine wpAnyH_ready (rs := [6]) (by kernel_rfl) (by simp) ?_
    refine AllReadyH.cons (o := { dst := some 101, op := Op.call { callee := Callee.value (Operand.func 17), args := #[Operand.tmp 99, Operand.tmp 100], argTypes := #[25, 25] }, type := 25, pos := "law.go:71", after := #[{ on := 4, ground := Ground.data }, { on := 5, ground := Ground.data }, { on := 2, ground := Ground.chain }], guard := none }) rfl (fun K hK => ?_) AllReadyH.nil
    go_simp
    refine (ojoin_any z29 _ _ sb sc Fb29.out Fc29.out Kb.out Kc.out).mono ?_
    rintro e z30 ⟨v30, rfl, hsh, hb⟩
    have B30 := hid (B29.out.trans (hb.mono B29.out.size))
    have Fa30 := hid (Fa29.out.bel hb)
    have Fb30 := hid (Fb29.out.bel hb)
    have Fc30 := hid (Fc29.out.bel hb)
    have Fba30 := hid (bx_bel Fba29.out hb)
    have Fbb30 := hid (bx_bel Fbb29.out hb)
    have Fbc30 := hid (bx_bel Fbc29.out hb)
    have Fj30 := hid (Fj29.out.bel hb)
    have Fbj30 := hid (bx_bel Fbj29.out hb)
    have Fx30 := hid (Fx29.out.bel hb)
    have RB30 := hid (RB29.out.trans (hb.mono RB29.out.size))
    clear B29 Fa29 Fb29 Fc29 Fba29 Fbb29 Fbc29 Fj29 Fbj29 Fx29 RB29
    rw [Z.out.bc] at hsh
    have Fy30 := hid hsh.at
    clear hsh
    clear hb
    refine hK.out _ _ (KH.out _ RB30.out) (fun hHeld => ?_)
    refine wpAnyH_ready (rs := [7]) (by kernel_rfl) (by simp) ?_
    refine AllReadyH.cons (o := { dst := some 102, op := Op.call { callee := Callee.value (Operand.func 17), args := #[Operand.tmp 98, Operand.tmp 101], argTypes := #[25, 25] }, type := 25, pos := "law.go:71", after := #[{ on := 3, ground := Ground.data }, { on := 6, ground := Ground.data }, { on := 6, ground := Ground.chain }], guard := none }) rfl (fun K hK => ?_) AllReadyH.nil
    go_simp
    refine (ojoin_any z30 _ _ sa (M.joinS sb sc) Fa30.out Fy30.out Ka.out Z.out.Kbc).mono ?_
    rintro e z31 ⟨v31, rfl, hsh, hb⟩
    have B31 := hid (B30.out.trans (hb.mono B30.out.size))
    have Fa31 := hid (Fa30.out.bel hb)
    have Fb31 := hid (Fb30.out.bel hb)
    have Fc31 := hid (Fc30.out.bel hb)
    have Fba31 := hid (bx_bel Fba30.out hb)
    have Fbb31 := hid (bx_bel Fbb30.out hb)
    have Fbc31 := hid (bx_bel Fbc30.out hb)
    have Fj31 := hid (Fj30.out.bel hb)
    have Fbj31 := hid (bx_bel Fbj30.out hb)
    have Fx31 := hid (Fx30.out.bel hb)
    have Fy31 := hid (Fy30.out.bel hb)
    have RB31 := hid (RB30.out.trans (hb.mono RB30.out.size))
    clear B30 Fa30 Fb30 Fc30 Fba30 Fbb30 Fbc30 Fj30 Fbj30 Fx30 Fy30 RB30
    rw [Z.out.abc] at hsh
    have Fz31 := hid hsh.at
    clear hsh
    clear hb
    refine hK.out _ _ (KH.out _ RB31.out) (fun hHeld => ?_)
    refine wpAnyH_ready (rs := [8]) (by kernel_rfl) (by simp) ?_
    refine AllReadyH.cons (o := { dst := some 103, op := Op.call { callee := Callee.value (Operand.func 16), args := #[Operand.tmp 97, Operand.tmp 102], argTypes := #[25, 25] }, type := 4, pos := "law.go:71", after := #[{ on := 2, ground := Ground.data }, { on := 7, ground := Ground.data }, { on := 7, ground := Ground.chain }], guard := none }) rfl (fun K hK => ?_) AllReadyH.nil
    go_simp
    refine (rsameS_any z31 _ _ (M.joinS sj sc) (M.joinS sa (M.joinS sb sc)) Fx31.out Fz31.out Z.out.Kjc).mono ?_
    rw [Z.out.s3]
    rintro e z32 ⟨rfl, hb⟩
    have B32 := hid (B31.out.trans (hb.mono B31.out.size))
    have Fa32 := hid (Fa31.out.bel hb)
    have Fb32 := hid (Fb31.out.bel hb)
    have Fc32 := hid (Fc31.out.bel hb)
    have Fba32 := hid (bx_bel Fba31.out hb)
    have Fbb32 := hid (bx_bel Fbb31.out hb)
    have Fbc32 := hid (bx_bel Fbc31.out hb)
    have Fj32 := hid (Fj31.out.bel hb)
    have Fbj32 := hid (bx_bel Fbj31.out hb)
    have Fx32 := hid (Fx31.out.bel hb)
    have Fy32 := hid (Fy31.out.bel hb)
    have Fz32 := hid (Fz31.out.bel hb)
    have RB32 := hid (RB31.out.trans (hb.mono RB31.out.size))
    clear B31 Fa31 Fb31 Fc31 Fba31 Fbb31 Fbc31 Fj31 Fbj31 Fx31 Fy31 Fz31 RB31
    clear hb
    refine hK.out _ _ (KH.out _ RB32.out) (fun hHeld => ?_)
    refine wpAnyH_take (i := 9) (oi := { dst := some 104, op := Op.move (Operand.tmp 103), type := 4, pos := "law.go:71", after := #[{ on := 8, ground := Ground.data }, { on := 8, ground := Ground.chain }], guard := none }) (v := ?_) rfl (by kernel_rfl) (by kernel_rfl) (by kernel_rfl) (fun _ _ _ h => h) (Or.inl ⟨by rfl, ?_⟩) hHeld ?_
    rotate_left
    · intro w hSw; (try dsimp only at hSw); go_simp; (try with_reducible rfl)
    simp only [Act.put, List.setIfInBounds_toArray, List.set_cons_zero, List.set_cons_succ]
    refine wpAnyH_take (i := 10) (oi := { dst := some 105, op := Op.load 25 (Operand.tmp 3), type := 25, pos := "law.go:71", after := #[{ on := 9, ground := Ground.guard }], guard := some (9, true) }) (v := ?_) rfl (by kernel_rfl) (by kernel_rfl) (by kernel_rfl) (fun _ _ _ h => h) (Or.inl ⟨by rfl, ?_⟩) hHeld ?_
    rotate_left
    · intro w hSw; (try dsimp only at hSw); go_simp; (try with_reducible rfl)
    simp only [Act.put, List.setIfInBounds_toArray, List.set_cons_zero, List.set_cons_succ]
    refine wpAnyH_take (i := 11) (oi := { dst := some 106, op := Op.load 25 (Operand.tmp 4), type := 25, pos := "law.go:71", after := #[{ on := 9, ground := Ground.guard }], guard := some (9, true) }) (v := ?_) rfl (by kernel_rfl) (by kernel_rfl) (by kernel_rfl) (fun _ _ _ h => h) (Or.inl ⟨by rfl, ?_⟩) hHeld ?_
    rotate_left
    · intro w hSw; (try dsimp only at hSw); go_simp; (try with_reducible rfl)
    simp only [Act.put, List.setIfInBounds_toArray, List.set_cons_zero, List.set_cons_succ]
    refine wpAnyH_take (i := 18) (oi := { dst := some 113, op := Op.load 25 (Operand.tmp 3), type := 25, pos := "law.go:71", after := #[{ on := 9, ground := Ground.guard }], guard := some (9, true) }) (v := ?_) rfl (by kernel_rfl) (by kernel_rfl) (by kernel_rfl) (fun _ _ _ h => h) (Or.inl ⟨by rfl, ?_⟩) hHeld ?_
    rotate_left
    · intro w hSw; (try dsimp only at hSw); go_simp; (try with_reducible rfl)
    simp only [Act.put, List.setIfInBounds_toArray, List.set_cons_zero, List.set_cons_succ]
    refine wpAnyH_take (i := 19) (oi := { dst := some 114, op := Op.load 25 (Operand.tmp 4), type := 25, pos := "law.go:71", after := #[{ on := 9, ground := Ground.guard }], guard := some (9, true) }) (v := ?_) rfl (by kernel_rfl) (by kernel_rfl) (by kernel_rfl) (fun _ _ _ h => h) (Or.inl ⟨by rfl, ?_⟩) hHeld ?_
    rotate_left
    · intro w hSw; (try dsimp only at hSw); go_simp; (try with_reducible rfl)
    simp only [Act.put, List.setIfInBounds_toArray, List.set_cons_zero, List.set_cons_succ]
    refine wpAnyH_ready (rs := [12]) (by kernel_rfl) (by simp) ?_
    refine AllReadyH.cons (o := { dst := some 107, op := Op.call { callee := Callee.value (Operand.func 19), args := #[Operand.tmp 105, Operand.tmp 106], argTypes := #[25, 25] }, type := 4, pos := "law.go:71", after := #[{ on := 10, ground := Ground.data }, { on := 11, ground := Ground.data }, { on := 9, ground := Ground.chain }, { on := 9, ground := Ground.guard }], guard := some (9, true) }) rfl (fun K hK => ?_) AllReadyH.nil
    go_simp
    refine (owithin_any z32 _ _ sa sb Fa32.out Fb32.out Ka.out Kb.out).mono ?_
    rw [Eab.out]
    rintro e z33 ⟨rfl, hb⟩
    have B33 := hid (B32.out.trans (hb.mono B32.out.size))
    have Fa33 := hid (Fa32.out.bel hb)
    have Fb33 := hid (Fb32.out.bel hb)
    have Fc33 := hid (Fc32.out.bel hb)
    have Fba33 := hid (bx_bel Fba32.out hb)
    have Fbb33 := hid (bx_bel Fbb32.out hb)
    have Fbc33 := hid (bx_bel Fbc32.out hb)
    have Fj33 := hid (Fj32.out.bel hb)
    have Fbj33 := hid (bx_bel Fbj32.out hb)
    have RB33 := hid (RB32.out.trans (hb.mono RB32.out.size))
    clear B32 Fa32 Fb32 Fc32 Fba32 Fbb32 Fbc32 Fj32 Fbj32 RB32
    clear hb
    refine hK.out _ _ (KH.out _ RB33.out) (fun hHeld => ?_)
    refine wpAnyH_take (i := 13) (oi := { dst := some 108, op := Op.move (Operand.tmp 107), type := 4, pos := "law.go:71", after := #[{ on := 12, ground := Ground.data }, { on := 12, ground := Ground.chain }, { on := 9, ground := Ground.guard }], guard := some (9, true) }) (v := ?_) rfl (by kernel_rfl) (by kernel_rfl) (by kernel_rfl) (fun _ _ _ h => h) (Or.inl ⟨by rfl, ?_⟩) hHeld ?_
    rotate_left
    · intro w hSw; (try dsimp only at hSw); go_simp; (try with_reducible rfl)
    simp only [Act.put, List.setIfInBounds_toArray, List.set_cons_zero, List.set_cons_succ]
    refine wpAnyH_take (i := 14) (oi := { dst := some 109, op := Op.load 25 (Operand.tmp 4), type := 25, pos := "law.go:71", after := #[{ on := 13, ground := Ground.guard }], guard := some (13, true) }) (v := ?_) rfl (by kernel_rfl) (by kernel_rfl) (by kernel_rfl) (fun _ _ _ h => h) (Or.inl ⟨by rfl, ?_⟩) hHeld ?_
    rotate_left
    · intro w hSw; (try dsimp only at hSw); go_simp; (try with_reducible rfl)
    simp only [Act.put, List.setIfInBounds_toArray, List.set_cons_zero, List.set_cons_succ]
    refine wpAnyH_take (i := 15) (oi := { dst := some 110, op := Op.load 25 (Operand.tmp 3), type := 25, pos := "law.go:71", after := #[{ on := 13, ground := Ground.guard }], guard := some (13, true) }) (v := ?_) rfl (by kernel_rfl) (by kernel_rfl) (by kernel_rfl) (fun _ _ _ h => h) (Or.inl ⟨by rfl, ?_⟩) hHeld ?_
    rotate_left
    · intro w hSw; (try dsimp only at hSw); go_simp; (try with_reducible rfl)
    simp only [Act.put, List.setIfInBounds_toArray, List.set_cons_zero, List.set_cons_succ]
    refine wpAnyH_ready (rs := [16]) (by kernel_rfl) (by simp) ?_
    refine AllReadyH.cons (o := { dst := some 111, op := Op.call { callee := Callee.value (Operand.func 19), args := #[Operand.tmp 109, Operand.tmp 110], argTypes := #[25, 25] }, type := 4, pos := "law.go:71", after := #[{ on := 14, ground := Ground.data }, { on := 15, ground := Ground.data }, { on := 13, ground := Ground.chain }, { on := 13, ground := Ground.guard }], guard := some (13, true) }) rfl (fun K hK => ?_) AllReadyH.nil
    go_simp
    refine (owithin_any z33 _ _ sb sa Fb33.out Fa33.out Kb.out Ka.out).mono ?_
    rw [Eba.out]
    rintro e z34 ⟨rfl, hb⟩
    have B34 := hid (B33.out.trans (hb.mono B33.out.size))
    have Fa34 := hid (Fa33.out.bel hb)
    have Fb34 := hid (Fb33.out.bel hb)
    have Fc34 := hid (Fc33.out.bel hb)
    have Fba34 := hid (bx_bel Fba33.out hb)
    have Fbb34 := hid (bx_bel Fbb33.out hb)
    have Fbc34 := hid (bx_bel Fbc33.out hb)
    have Fj34 := hid (Fj33.out.bel hb)
    have Fbj34 := hid (bx_bel Fbj33.out hb)
    have RB34 := hid (RB33.out.trans (hb.mono RB33.out.size))
    clear B33 Fa33 Fb33 Fc33 Fba33 Fbb33 Fbc33 Fj33 Fbj33 RB33
    clear hb
    refine hK.out _ _ (KH.out _ RB34.out) (fun hHeld => ?_)
    refine wpAnyH_take (i := 17) (oi := { dst := some 112, op := Op.pick (Operand.tmp 108) (Operand.tmp 111) (Operand.const (Value.bool false)), type := 4, pos := "law.go:71", after := #[{ on := 13, ground := Ground.data }, { on := 16, ground := Ground.data }, { on := 9, ground := Ground.guard }], guard := some (9, true) }) (v := ?_) rfl (by kernel_rfl) (by kernel_rfl) (by kernel_rfl) (fun _ _ _ h => h) (Or.inl ⟨by rfl, ?_⟩) hHeld ?_
    rotate_left
    · intro w hSw; (try dsimp only at hSw); go_simp; (try with_reducible rfl)
    simp only [Act.put, List.setIfInBounds_toArray, List.set_cons_zero, List.set_cons_succ]
    refine wpAnyH_ready (rs := [20]) (by kernel_rfl) (by simp) ?_
    refine AllReadyH.cons (o := { dst := some 115, op := Op.call { callee := Callee.value (Operand.func 16), args := #[Operand.tmp 113, Operand.tmp 114], argTypes := #[25, 25] }, type := 4, pos := "law.go:71", after := #[{ on := 18, ground := Ground.data }, { on := 19, ground := Ground.data }, { on := 16, ground := Ground.chain }, { on := 9, ground := Ground.guard }], guard := some (9, true) }) rfl (fun K hK => ?_) AllReadyH.nil
    go_simp
    refine (rsameS_any z34 _ _ sa sb Fa34.out Fb34.out Ka.out).mono ?_
    rw [Es.out]
    rintro e z35 ⟨rfl, hb⟩
    have B35 := hid (B34.out.trans (hb.mono B34.out.size))
    have Fa35 := hid (Fa34.out.bel hb)
    have Fb35 := hid (Fb34.out.bel hb)
    have Fc35 := hid (Fc34.out.bel hb)
    have Fba35 := hid (bx_bel Fba34.out hb)
    have Fbb35 := hid (bx_bel Fbb34.out hb)
    have Fbc35 := hid (bx_bel Fbc34.out hb)
    have Fj35 := hid (Fj34.out.bel hb)
    have Fbj35 := hid (bx_bel Fbj34.out hb)
    have RB35 := hid (RB34.out.trans (hb.mono RB34.out.size))
    clear B34 Fa34 Fb34 Fc34 Fba34 Fbb34 Fbc34 Fj34 Fbj34 RB34
    clear hb
    refine hK.out _ _ (KH.out _ RB35.out) (fun hHeld => ?_)
    refine wpAnyH_take (i := 21) (oi := { dst := some 116, op := Op.binOp BinOp.eql 4 (Operand.tmp 112) (Operand.tmp 115) 4, type := 4, pos := "law.go:71", after := #[{ on := 17, ground := Ground.data }, { on := 20, ground := Ground.data }, { on := 9, ground := Ground.guard }], guard := some (9, true) }) (v := ?_) rfl (by kernel_rfl) (by kernel_rfl) (by kernel_rfl) (fun _ _ _ h => h) (Or.inl ⟨by rfl, ?_⟩) hHeld ?_
    rotate_left
    · intro w hSw; (try dsimp only at hSw); go_simp; (try with_reducible rfl)
    simp only [Act.put, List.setIfInBounds_toArray, List.set_cons_zero, List.set_cons_succ]
    refine wpAnyH_take (i := 22) (oi := { dst := some 117, op := Op.pick (Operand.tmp 104) (Operand.tmp 116) (Operand.const (Value.bool false)), type := 4, pos := "law.go:71", after := #[{ on := 9, ground := Ground.data }, { on := 21, ground := Ground.data }], guard := none }) (v := ?_) rfl (by kernel_rfl) (by kernel_rfl) (by kernel_rfl) (fun _ _ _ h => h) (Or.inl ⟨by rfl, ?_⟩) hHeld ?_
    rotate_left
    · intro w hSw; (try dsimp only at hSw); go_simp; (try with_reducible rfl)
    simp only [Act.put, List.setIfInBounds_toArray, List.set_cons_zero, List.set_cons_succ]
    refine wpAnyH_take (i := 23) (oi := { dst := some 6, op := Op.assign (Operand.tmp 117), type := 4, pos := "law.go:71", after := #[{ on := 22, ground := Ground.data }, { on := 20, ground := Ground.chain }, { on := 0, ground := Ground.phase }, { on := 1, ground := Ground.phase }, { on := 2, ground := Ground.phase }, { on := 3, ground := Ground.phase }, { on := 4, ground := Ground.phase }, { on := 5, ground := Ground.phase }, { on := 6, ground := Ground.phase }, { on := 7, ground := Ground.phase }, { on := 8, ground := Ground.phase }, { on := 9, ground := Ground.phase }, { on := 10, ground := Ground.phase }, { on := 11, ground := Ground.phase }, { on := 12, ground := Ground.phase }, { on := 13, ground := Ground.phase }, { on := 14, ground := Ground.phase }, { on := 15, ground := Ground.phase }, { on := 16, ground := Ground.phase }, { on := 17, ground := Ground.phase }, { on := 18, ground := Ground.phase }, { on := 19, ground := Ground.phase }, { on := 20, ground := Ground.phase }, { on := 21, ground := Ground.phase }, { on := 22, ground := Ground.phase }], guard := none }) (v := ?_) rfl (by kernel_rfl) (by kernel_rfl) (by kernel_rfl) (fun _ _ _ h => h) (Or.inl ⟨by rfl, ?_⟩) hHeld ?_
    rotate_left
    · intro w hSw; (try dsimp only at hSw); go_simp; (try with_reducible rfl)
    simp only [Act.put, List.setIfInBounds_toArray, List.set_cons_zero, List.set_cons_succ]
    refine wpAnyH_done (by kernel_rfl) ?_ _
    clear hHeld KH
    clear RB35
    go_wp2
    go_ret
    exact ⟨rfl, B35.out⟩
  have Es : Hid (M.sameS sa sb = true) := by unfold Hid; rw [← M.bothS Ma.out Mb.out, hab, hba]; rfl
  have Eab : Hid ((M.mayS sa && M.mayS sb && M.withinS sa sb) = true) := by unfold Hid; rw [Ma.out, Mb.out, hab]; rfl
  have Eba : Hid ((M.mayS sb && M.mayS sa && M.withinS sb sa) = true) := by unfold Hid; rw [Ma.out, Mb.out, hba]; rfl
  clear hab hba
  obtain ⟨xba0, xba1, _⟩ := cells2 Fba27.out
  obtain ⟨xbb0, xbb1, _⟩ := cells2 Fbb27.out
  obtain ⟨xbc0, xbc1, _⟩ := cells2 Fbc27.out
  obtain ⟨xbj0, xbj1, _⟩ := cells2 Fbj27.out
  go_wp2_with fail
  have KH : Hid (∀ W, Below w27.heap.size w27 W → (W.cell? ⟨w.heap.size, 0, none⟩ = some (.slice aa sa.fs.length ca) ∧ W.cell? ⟨w.heap.size, 1, none⟩ = some (.slice ba sa.pr.length da) ∧ W.cell? ⟨V1.heap.size, 0, none⟩ = some (.slice ab sb.fs.length cb) ∧ W.cell? ⟨V1.heap.size, 1, none⟩ = some (.slice bb sb.pr.length db) ∧ W.cell? ⟨V3.heap.size, 0, none⟩ = some (.slice ac sc.fs.length cc) ∧ W.cell? ⟨V3.heap.size, 1, none⟩ = some (.slice bc sc.pr.length dc) ∧ W.cell? ⟨w14.heap.size, 0, none⟩ = some (.slice aj sj.fs.length cj) ∧ W.cell? ⟨w14.heap.size, 1, none⟩ = some (.slice bj sj.pr.length dj))) := fun W hb => by
    obtain ⟨yba0, yba1, _⟩ := cells2 (bx_bel Fba27.out hb)
    obtain ⟨ybb0, ybb1, _⟩ := cells2 (bx_bel Fbb27.out hb)
    obtain ⟨ybc0, ybc1, _⟩ := cells2 (bx_bel Fbc27.out hb)
    obtain ⟨ybj0, ybj1, _⟩ := cells2 (bx_bel Fbj27.out hb)
    exact ⟨yba0, yba1, ybb0, ybb1, ybc0, ybc1, ybj0, ybj1⟩
  clear xba0 xba1 xbb0 xbb1 xbc0 xbc1 xbj0 xbj1
  refine wp_region_held_drew (S := fun W => W.cell? ⟨w.heap.size, 0, none⟩ = some (.slice aa sa.fs.length ca) ∧ W.cell? ⟨w.heap.size, 1, none⟩ = some (.slice ba sa.pr.length da) ∧ W.cell? ⟨V1.heap.size, 0, none⟩ = some (.slice ab sb.fs.length cb) ∧ W.cell? ⟨V1.heap.size, 1, none⟩ = some (.slice bb sb.pr.length db) ∧ W.cell? ⟨V3.heap.size, 0, none⟩ = some (.slice ac sc.fs.length cc) ∧ W.cell? ⟨V3.heap.size, 1, none⟩ = some (.slice bc sc.pr.length dc) ∧ W.cell? ⟨w14.heap.size, 0, none⟩ = some (.slice aj sj.fs.length cj) ∧ W.cell? ⟨w14.heap.size, 1, none⟩ = some (.slice bj sj.pr.length dj)) (by kernel_rfl) (KH.out _ (Below.refl _ _).drew) (fun hHeld => ?_)
  have hbd : Below w27.heap.size w27 w27.drew := (Gr.refl _).drew.below
  have RB0 := hid hbd
  have B28 := hid (B27.out.trans (hbd.mono B27.out.size))
  have Fa28 := hid (Fa27.out.bel hbd)
  have Fb28 := hid (Fb27.out.bel hbd)
  have Fc28 := hid (Fc27.out.bel hbd)
  have Fba28 := hid (bx_bel Fba27.out hbd)
  have Fbb28 := hid (bx_bel Fbb27.out hbd)
  have Fbc28 := hid (bx_bel Fbc27.out hbd)
  have Fj28 := hid (Fj27.out.bel hbd)
  have Fbj28 := hid (bx_bel Fbj27.out hbd)
  clear B27 Fa27 Fb27 Fc27 Fba27 Fbb27 Fbc27 Fj27 Fbj27
  clear hbd
  refine wpAnyH_take (i := 0) (oi := { dst := some 95, op := Op.load 25 (Operand.tmp 7), type := 25, pos := "law.go:71", after := #[], guard := none }) (v := ?_) rfl (by kernel_rfl) (by kernel_rfl) (by kernel_rfl) (fun _ _ _ h => h) (Or.inl ⟨by rfl, ?_⟩) hHeld ?_
  rotate_left
  · intro w hSw; (try dsimp only at hSw); go_simp; (try with_reducible rfl)
  simp only [Act.put, List.setIfInBounds_toArray, List.set_cons_zero, List.set_cons_succ]
  refine wpAnyH_take (i := 1) (oi := { dst := some 96, op := Op.load 25 (Operand.tmp 5), type := 25, pos := "law.go:71", after := #[], guard := none }) (v := ?_) rfl (by kernel_rfl) (by kernel_rfl) (by kernel_rfl) (fun _ _ _ h => h) (Or.inl ⟨by rfl, ?_⟩) hHeld ?_
  rotate_left
  · intro w hSw; (try dsimp only at hSw); go_simp; (try with_reducible rfl)
  simp only [Act.put, List.setIfInBounds_toArray, List.set_cons_zero, List.set_cons_succ]
  refine wpAnyH_take (i := 3) (oi := { dst := some 98, op := Op.load 25 (Operand.tmp 3), type := 25, pos := "law.go:71", after := #[], guard := none }) (v := ?_) rfl (by kernel_rfl) (by kernel_rfl) (by kernel_rfl) (fun _ _ _ h => h) (Or.inl ⟨by rfl, ?_⟩) hHeld ?_
  rotate_left
  · intro w hSw; (try dsimp only at hSw); go_simp; (try with_reducible rfl)
  simp only [Act.put, List.setIfInBounds_toArray, List.set_cons_zero, List.set_cons_succ]
  refine wpAnyH_take (i := 4) (oi := { dst := some 99, op := Op.load 25 (Operand.tmp 4), type := 25, pos := "law.go:71", after := #[], guard := none }) (v := ?_) rfl (by kernel_rfl) (by kernel_rfl) (by kernel_rfl) (fun _ _ _ h => h) (Or.inl ⟨by rfl, ?_⟩) hHeld ?_
  rotate_left
  · intro w hSw; (try dsimp only at hSw); go_simp; (try with_reducible rfl)
  simp only [Act.put, List.setIfInBounds_toArray, List.set_cons_zero, List.set_cons_succ]
  refine wpAnyH_take (i := 5) (oi := { dst := some 100, op := Op.load 25 (Operand.tmp 5), type := 25, pos := "law.go:71", after := #[], guard := none }) (v := ?_) rfl (by kernel_rfl) (by kernel_rfl) (by kernel_rfl) (fun _ _ _ h => h) (Or.inl ⟨by rfl, ?_⟩) hHeld ?_
  rotate_left
  · intro w hSw; (try dsimp only at hSw); go_simp; (try with_reducible rfl)
  simp only [Act.put, List.setIfInBounds_toArray, List.set_cons_zero, List.set_cons_succ]
  refine wpAnyH_ready (rs := [2]) (by kernel_rfl) (by simp) ?_
  refine AllReadyH.cons (o := { dst := some 97, op := Op.call { callee := Callee.value (Operand.func 17), args := #[Operand.tmp 95, Operand.tmp 96], argTypes := #[25, 25] }, type := 25, pos := "law.go:71", after := #[{ on := 0, ground := Ground.data }, { on := 1, ground := Ground.data }], guard := none }) rfl (fun K hK => ?_) AllReadyH.nil
  go_simp
  refine (ojoin_any w27.drew _ _ sj sc Fj28.out Fc28.out Z.out.Kj Kc.out).mono ?_
  rintro e z29 ⟨v29, rfl, hsh, hb⟩
  have B29 := hid (B28.out.trans (hb.mono B28.out.size))
  have Fa29 := hid (Fa28.out.bel hb)
  have Fb29 := hid (Fb28.out.bel hb)
  have Fc29 := hid (Fc28.out.bel hb)
  have Fba29 := hid (bx_bel Fba28.out hb)
  have Fbb29 := hid (bx_bel Fbb28.out hb)
  have Fbc29 := hid (bx_bel Fbc28.out hb)
  have Fj29 := hid (Fj28.out.bel hb)
  have Fbj29 := hid (bx_bel Fbj28.out hb)
  have RB29 := hid (RB0.out.trans (hb.mono RB0.out.size))
  clear B28 Fa28 Fb28 Fc28 Fba28 Fbb28 Fbc28 Fj28 Fbj28 RB0
  rw [Z.out.jc] at hsh
  have Fx29 := hid hsh.at
  clear hsh
  clear hb
  refine hK.out _ _ (KH.out _ RB29.out) (fun hHeld => ?_)
  refine wpAnyH_ready (rs := [6]) (by kernel_rfl) (by simp) ?_
  refine AllReadyH.cons (o := { dst := some 101, op := Op.call { callee := Callee.value (Operand.func 17), args := #[Operand.tmp 99, Operand.tmp 100], argTypes := #[25, 25] }, type := 25, pos := "law.go:71", after := #[{ on := 4, ground := Ground.data }, { on := 5, ground := Ground.data }, { on := 2, ground := Ground.chain }], guard := none }) rfl (fun K hK => ?_) AllReadyH.nil
  go_simp
  refine (ojoin_any z29 _ _ sb sc Fb29.out Fc29.out Kb.out Kc.out).mono ?_
  rintro e z30 ⟨v30, rfl, hsh, hb⟩
  have B30 := hid (B29.out.trans (hb.mono B29.out.size))
  have Fa30 := hid (Fa29.out.bel hb)
  have Fb30 := hid (Fb29.out.bel hb)
  have Fc30 := hid (Fc29.out.bel hb)
  have Fba30 := hid (bx_bel Fba29.out hb)
  have Fbb30 := hid (bx_bel Fbb29.out hb)
  have Fbc30 := hid (bx_bel Fbc29.out hb)
  have Fj30 := hid (Fj29.out.bel hb)
  have Fbj30 := hid (bx_bel Fbj29.out hb)
  have Fx30 := hid (Fx29.out.bel hb)
  have RB30 := hid (RB29.out.trans (hb.mono RB29.out.size))
  clear B29 Fa29 Fb29 Fc29 Fba29 Fbb29 Fbc29 Fj29 Fbj29 Fx29 RB29
  rw [Z.out.bc] at hsh
  have Fy30 := hid hsh.at
  clear hsh
  clear hb
  refine hK.out _ _ (KH.out _ RB30.out) (fun hHeld => ?_)
  refine wpAnyH_ready (rs := [7]) (by kernel_rfl) (by simp) ?_
  refine AllReadyH.cons (o := { dst := some 102, op := Op.call { callee := Callee.value (Operand.func 17), args := #[Operand.tmp 98, Operand.tmp 101], argTypes := #[25, 25] }, type := 25, pos := "law.go:71", after := #[{ on := 3, ground := Ground.data }, { on := 6, ground := Ground.data }, { on := 6, ground := Ground.chain }], guard := none }) rfl (fun K hK => ?_) AllReadyH.nil
  go_simp
  refine (ojoin_any z30 _ _ sa (M.joinS sb sc) Fa30.out Fy30.out Ka.out Z.out.Kbc).mono ?_
  rintro e z31 ⟨v31, rfl, hsh, hb⟩
  have B31 := hid (B30.out.trans (hb.mono B30.out.size))
  have Fa31 := hid (Fa30.out.bel hb)
  have Fb31 := hid (Fb30.out.bel hb)
  have Fc31 := hid (Fc30.out.bel hb)
  have Fba31 := hid (bx_bel Fba30.out hb)
  have Fbb31 := hid (bx_bel Fbb30.out hb)
  have Fbc31 := hid (bx_bel Fbc30.out hb)
  have Fj31 := hid (Fj30.out.bel hb)
  have Fbj31 := hid (bx_bel Fbj30.out hb)
  have Fx31 := hid (Fx30.out.bel hb)
  have Fy31 := hid (Fy30.out.bel hb)
  have RB31 := hid (RB30.out.trans (hb.mono RB30.out.size))
  clear B30 Fa30 Fb30 Fc30 Fba30 Fbb30 Fbc30 Fj30 Fbj30 Fx30 Fy30 RB30
  rw [Z.out.abc] at hsh
  have Fz31 := hid hsh.at
  clear hsh
  clear hb
  refine hK.out _ _ (KH.out _ RB31.out) (fun hHeld => ?_)
  refine wpAnyH_ready (rs := [8]) (by kernel_rfl) (by simp) ?_
  refine AllReadyH.cons (o := { dst := some 103, op := Op.call { callee := Callee.value (Operand.func 16), args := #[Operand.tmp 97, Operand.tmp 102], argTypes := #[25, 25] }, type := 4, pos := "law.go:71", after := #[{ on := 2, ground := Ground.data }, { on := 7, ground := Ground.data }, { on := 7, ground := Ground.chain }], guard := none }) rfl (fun K hK => ?_) AllReadyH.nil
  go_simp
  refine (rsameS_any z31 _ _ (M.joinS sj sc) (M.joinS sa (M.joinS sb sc)) Fx31.out Fz31.out Z.out.Kjc).mono ?_
  rw [Z.out.s3]
  rintro e z32 ⟨rfl, hb⟩
  have B32 := hid (B31.out.trans (hb.mono B31.out.size))
  have Fa32 := hid (Fa31.out.bel hb)
  have Fb32 := hid (Fb31.out.bel hb)
  have Fc32 := hid (Fc31.out.bel hb)
  have Fba32 := hid (bx_bel Fba31.out hb)
  have Fbb32 := hid (bx_bel Fbb31.out hb)
  have Fbc32 := hid (bx_bel Fbc31.out hb)
  have Fj32 := hid (Fj31.out.bel hb)
  have Fbj32 := hid (bx_bel Fbj31.out hb)
  have Fx32 := hid (Fx31.out.bel hb)
  have Fy32 := hid (Fy31.out.bel hb)
  have Fz32 := hid (Fz31.out.bel hb)
  have RB32 := hid (RB31.out.trans (hb.mono RB31.out.size))
  clear B31 Fa31 Fb31 Fc31 Fba31 Fbb31 Fbc31 Fj31 Fbj31 Fx31 Fy31 Fz31 RB31
  clear hb
  refine hK.out _ _ (KH.out _ RB32.out) (fun hHeld => ?_)
  refine wpAnyH_take (i := 9) (oi := { dst := some 104, op := Op.move (Operand.tmp 103), type := 4, pos := "law.go:71", after := #[{ on := 8, ground := Ground.data }, { on := 8, ground := Ground.chain }], guard := none }) (v := ?_) rfl (by kernel_rfl) (by kernel_rfl) (by kernel_rfl) (fun _ _ _ h => h) (Or.inl ⟨by rfl, ?_⟩) hHeld ?_
  rotate_left
  · intro w hSw; (try dsimp only at hSw); go_simp; (try with_reducible rfl)
  simp only [Act.put, List.setIfInBounds_toArray, List.set_cons_zero, List.set_cons_succ]
  refine wpAnyH_take (i := 10) (oi := { dst := some 105, op := Op.load 25 (Operand.tmp 3), type := 25, pos := "law.go:71", after := #[{ on := 9, ground := Ground.guard }], guard := some (9, true) }) (v := ?_) rfl (by kernel_rfl) (by kernel_rfl) (by kernel_rfl) (fun _ _ _ h => h) (Or.inl ⟨by rfl, ?_⟩) hHeld ?_
  rotate_left
  · intro w hSw; (try dsimp only at hSw); go_simp; (try with_reducible rfl)
  simp only [Act.put, List.setIfInBounds_toArray, List.set_cons_zero, List.set_cons_succ]
  refine wpAnyH_take (i := 11) (oi := { dst := some 106, op := Op.load 25 (Operand.tmp 4), type := 25, pos := "law.go:71", after := #[{ on := 9, ground := Ground.guard }], guard := some (9, true) }) (v := ?_) rfl (by kernel_rfl) (by kernel_rfl) (by kernel_rfl) (fun _ _ _ h => h) (Or.inl ⟨by rfl, ?_⟩) hHeld ?_
  rotate_left
  · intro w hSw; (try dsimp only at hSw); go_simp; (try with_reducible rfl)
  simp only [Act.put, List.setIfInBounds_toArray, List.set_cons_zero, List.set_cons_succ]
  refine wpAnyH_take (i := 18) (oi := { dst := some 113, op := Op.load 25 (Operand.tmp 3), type := 25, pos := "law.go:71", after := #[{ on := 9, ground := Ground.guard }], guard := some (9, true) }) (v := ?_) rfl (by kernel_rfl) (by kernel_rfl) (by kernel_rfl) (fun _ _ _ h => h) (Or.inl ⟨by rfl, ?_⟩) hHeld ?_
  rotate_left
  · intro w hSw; (try dsimp only at hSw); go_simp; (try with_reducible rfl)
  simp only [Act.put, List.setIfInBounds_toArray, List.set_cons_zero, List.set_cons_succ]
  refine wpAnyH_take (i := 19) (oi := { dst := some 114, op := Op.load 25 (Operand.tmp 4), type := 25, pos := "law.go:71", after := #[{ on := 9, ground := Ground.guard }], guard := some (9, true) }) (v := ?_) rfl (by kernel_rfl) (by kernel_rfl) (by kernel_rfl) (fun _ _ _ h => h) (Or.inl ⟨by rfl, ?_⟩) hHeld ?_
  rotate_left
  · intro w hSw; (try dsimp only at hSw); go_simp; (try with_reducible rfl)
  simp only [Act.put, List.setIfInBounds_toArray, List.set_cons_zero, List.set_cons_succ]
  refine wpAnyH_ready (rs := [12]) (by kernel_rfl) (by simp) ?_
  refine AllReadyH.cons (o := { dst := some 107, op := Op.call { callee := Callee.value (Operand.func 19), args := #[Operand.tmp 105, Operand.tmp 106], argTypes := #[25, 25] }, type := 4, pos := "law.go:71", after := #[{ on := 10, ground := Ground.data }, { on := 11, ground := Ground.data }, { on := 9, ground := Ground.chain }, { on := 9, ground := Ground.guard }], guard := some (9, true) }) rfl (fun K hK => ?_) AllReadyH.nil
  go_simp
  refine (owithin_any z32 _ _ sa sb Fa32.out Fb32.out Ka.out Kb.out).mono ?_
  rw [Eab.out]
  rintro e z33 ⟨rfl, hb⟩
  have B33 := hid (B32.out.trans (hb.mono B32.out.size))
  have Fa33 := hid (Fa32.out.bel hb)
  have Fb33 := hid (Fb32.out.bel hb)
  have Fc33 := hid (Fc32.out.bel hb)
  have Fba33 := hid (bx_bel Fba32.out hb)
  have Fbb33 := hid (bx_bel Fbb32.out hb)
  have Fbc33 := hid (bx_bel Fbc32.out hb)
  have Fj33 := hid (Fj32.out.bel hb)
  have Fbj33 := hid (bx_bel Fbj32.out hb)
  have RB33 := hid (RB32.out.trans (hb.mono RB32.out.size))
  clear B32 Fa32 Fb32 Fc32 Fba32 Fbb32 Fbc32 Fj32 Fbj32 RB32
  clear hb
  refine hK.out _ _ (KH.out _ RB33.out) (fun hHeld => ?_)
  refine wpAnyH_take (i := 13) (oi := { dst := some 108, op := Op.move (Operand.tmp 107), type := 4, pos := "law.go:71", after := #[{ on := 12, ground := Ground.data }, { on := 12, ground := Ground.chain }, { on := 9, ground := Ground.guard }], guard := some (9, true) }) (v := ?_) rfl (by kernel_rfl) (by kernel_rfl) (by kernel_rfl) (fun _ _ _ h => h) (Or.inl ⟨by rfl, ?_⟩) hHeld ?_
  rotate_left
  · intro w hSw; (try dsimp only at hSw); go_simp; (try with_reducible rfl)
  simp only [Act.put, List.setIfInBounds_toArray, List.set_cons_zero, List.set_cons_succ]
  refine wpAnyH_take (i := 14) (oi := { dst := some 109, op := Op.load 25 (Operand.tmp 4), type := 25, pos := "law.go:71", after := #[{ on := 13, ground := Ground.guard }], guard := some (13, true) }) (v := ?_) rfl (by kernel_rfl) (by kernel_rfl) (by kernel_rfl) (fun _ _ _ h => h) (Or.inl ⟨by rfl, ?_⟩) hHeld ?_
  rotate_left
  · intro w hSw; (try dsimp only at hSw); go_simp; (try with_reducible rfl)
  simp only [Act.put, List.setIfInBounds_toArray, List.set_cons_zero, List.set_cons_succ]
  refine wpAnyH_take (i := 15) (oi := { dst := some 110, op := Op.load 25 (Operand.tmp 3), type := 25, pos := "law.go:71", after := #[{ on := 13, ground := Ground.guard }], guard := some (13, true) }) (v := ?_) rfl (by kernel_rfl) (by kernel_rfl) (by kernel_rfl) (fun _ _ _ h => h) (Or.inl ⟨by rfl, ?_⟩) hHeld ?_
  rotate_left
  · intro w hSw; (try dsimp only at hSw); go_simp; (try with_reducible rfl)
  simp only [Act.put, List.setIfInBounds_toArray, List.set_cons_zero, List.set_cons_succ]
  refine wpAnyH_ready (rs := [16]) (by kernel_rfl) (by simp) ?_
  refine AllReadyH.cons (o := { dst := some 111, op := Op.call { callee := Callee.value (Operand.func 19), args := #[Operand.tmp 109, Operand.tmp 110], argTypes := #[25, 25] }, type := 4, pos := "law.go:71", after := #[{ on := 14, ground := Ground.data }, { on := 15, ground := Ground.data }, { on := 13, ground := Ground.chain }, { on := 13, ground := Ground.guard }], guard := some (13, true) }) rfl (fun K hK => ?_) AllReadyH.nil
  go_simp
  refine (owithin_any z33 _ _ sb sa Fb33.out Fa33.out Kb.out Ka.out).mono ?_
  rw [Eba.out]
  rintro e z34 ⟨rfl, hb⟩
  have B34 := hid (B33.out.trans (hb.mono B33.out.size))
  have Fa34 := hid (Fa33.out.bel hb)
  have Fb34 := hid (Fb33.out.bel hb)
  have Fc34 := hid (Fc33.out.bel hb)
  have Fba34 := hid (bx_bel Fba33.out hb)
  have Fbb34 := hid (bx_bel Fbb33.out hb)
  have Fbc34 := hid (bx_bel Fbc33.out hb)
  have Fj34 := hid (Fj33.out.bel hb)
  have Fbj34 := hid (bx_bel Fbj33.out hb)
  have RB34 := hid (RB33.out.trans (hb.mono RB33.out.size))
  clear B33 Fa33 Fb33 Fc33 Fba33 Fbb33 Fbc33 Fj33 Fbj33 RB33
  clear hb
  refine hK.out _ _ (KH.out _ RB34.out) (fun hHeld => ?_)
  refine wpAnyH_take (i := 17) (oi := { dst := some 112, op := Op.pick (Operand.tmp 108) (Operand.tmp 111) (Operand.const (Value.bool false)), type := 4, pos := "law.go:71", after := #[{ on := 13, ground := Ground.data }, { on := 16, ground := Ground.data }, { on := 9, ground := Ground.guard }], guard := some (9, true) }) (v := ?_) rfl (by kernel_rfl) (by kernel_rfl) (by kernel_rfl) (fun _ _ _ h => h) (Or.inl ⟨by rfl, ?_⟩) hHeld ?_
  rotate_left
  · intro w hSw; (try dsimp only at hSw); go_simp; (try with_reducible rfl)
  simp only [Act.put, List.setIfInBounds_toArray, List.set_cons_zero, List.set_cons_succ]
  refine wpAnyH_ready (rs := [20]) (by kernel_rfl) (by simp) ?_
  refine AllReadyH.cons (o := { dst := some 115, op := Op.call { callee := Callee.value (Operand.func 16), args := #[Operand.tmp 113, Operand.tmp 114], argTypes := #[25, 25] }, type := 4, pos := "law.go:71", after := #[{ on := 18, ground := Ground.data }, { on := 19, ground := Ground.data }, { on := 16, ground := Ground.chain }, { on := 9, ground := Ground.guard }], guard := some (9, true) }) rfl (fun K hK => ?_) AllReadyH.nil
  go_simp
  refine (rsameS_any z34 _ _ sa sb Fa34.out Fb34.out Ka.out).mono ?_
  rw [Es.out]
  rintro e z35 ⟨rfl, hb⟩
  have B35 := hid (B34.out.trans (hb.mono B34.out.size))
  have Fa35 := hid (Fa34.out.bel hb)
  have Fb35 := hid (Fb34.out.bel hb)
  have Fc35 := hid (Fc34.out.bel hb)
  have Fba35 := hid (bx_bel Fba34.out hb)
  have Fbb35 := hid (bx_bel Fbb34.out hb)
  have Fbc35 := hid (bx_bel Fbc34.out hb)
  have Fj35 := hid (Fj34.out.bel hb)
  have Fbj35 := hid (bx_bel Fbj34.out hb)
  have RB35 := hid (RB34.out.trans (hb.mono RB34.out.size))
  clear B34 Fa34 Fb34 Fc34 Fba34 Fbb34 Fbc34 Fj34 Fbj34 RB34
  clear hb
  refine hK.out _ _ (KH.out _ RB35.out) (fun hHeld => ?_)
  refine wpAnyH_take (i := 21) (oi := { dst := some 116, op := Op.binOp BinOp.eql 4 (Operand.tmp 112) (Operand.tmp 115) 4, type := 4, pos := "law.go:71", after := #[{ on := 17, ground := Ground.data }, { on := 20, ground := Ground.data }, { on := 9, ground := Ground.guard }], guard := some (9, true) }) (v := ?_) rfl (by kernel_rfl) (by kernel_rfl) (by kernel_rfl) (fun _ _ _ h => h) (Or.inl ⟨by rfl, ?_⟩) hHeld ?_
  rotate_left
  · intro w hSw; (try dsimp only at hSw); go_simp; (try with_reducible rfl)
  simp only [Act.put, List.setIfInBounds_toArray, List.set_cons_zero, List.set_cons_succ]
  refine wpAnyH_take (i := 22) (oi := { dst := some 117, op := Op.pick (Operand.tmp 104) (Operand.tmp 116) (Operand.const (Value.bool false)), type := 4, pos := "law.go:71", after := #[{ on := 9, ground := Ground.data }, { on := 21, ground := Ground.data }], guard := none }) (v := ?_) rfl (by kernel_rfl) (by kernel_rfl) (by kernel_rfl) (fun _ _ _ h => h) (Or.inl ⟨by rfl, ?_⟩) hHeld ?_
  rotate_left
  · intro w hSw; (try dsimp only at hSw); go_simp; (try with_reducible rfl)
  simp only [Act.put, List.setIfInBounds_toArray, List.set_cons_zero, List.set_cons_succ]
  refine wpAnyH_take (i := 23) (oi := { dst := some 6, op := Op.assign (Operand.tmp 117), type := 4, pos := "law.go:71", after := #[{ on := 22, ground := Ground.data }, { on := 20, ground := Ground.chain }, { on := 0, ground := Ground.phase }, { on := 1, ground := Ground.phase }, { on := 2, ground := Ground.phase }, { on := 3, ground := Ground.phase }, { on := 4, ground := Ground.phase }, { on := 5, ground := Ground.phase }, { on := 6, ground := Ground.phase }, { on := 7, ground := Ground.phase }, { on := 8, ground := Ground.phase }, { on := 9, ground := Ground.phase }, { on := 10, ground := Ground.phase }, { on := 11, ground := Ground.phase }, { on := 12, ground := Ground.phase }, { on := 13, ground := Ground.phase }, { on := 14, ground := Ground.phase }, { on := 15, ground := Ground.phase }, { on := 16, ground := Ground.phase }, { on := 17, ground := Ground.phase }, { on := 18, ground := Ground.phase }, { on := 19, ground := Ground.phase }, { on := 20, ground := Ground.phase }, { on := 21, ground := Ground.phase }, { on := 22, ground := Ground.phase }], guard := none }) (v := ?_) rfl (by kernel_rfl) (by kernel_rfl) (by kernel_rfl) (fun _ _ _ h => h) (Or.inl ⟨by rfl, ?_⟩) hHeld ?_
  rotate_left
  · intro w hSw; (try dsimp only at hSw); go_simp; (try with_reducible rfl)
  simp only [Act.put, List.setIfInBounds_toArray, List.set_cons_zero, List.set_cons_succ]
  refine wpAnyH_done (by kernel_rfl) ?_ _
  clear hHeld KH
  clear RB35
  go_wp2
  go_ret
  exact ⟨rfl, B35.out⟩
end Go.Proofs.Ytnllcfagdcepfaa
