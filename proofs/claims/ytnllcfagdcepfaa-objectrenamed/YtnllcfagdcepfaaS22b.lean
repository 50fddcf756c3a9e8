/-
  The law of a renamed join, walked: where one lies in the other or not. No conditions.
-/
import Derived.Test.YtnllcfagdcepfaaS22m
set_option linter.unusedVariables false
set_option linter.unusedSimpArgs false
namespace Go.Proofs.Ytnllcfagdcepfaa
open Go.RowKit Go.Sort
set_option maxHeartbeats 8000000 in
set_option maxRecDepth 100000 in
theorem renamed_law1 (w : World) (va : Value) (sa : M.Shp) (ha : ShAt w va sa) (vb : Value) (sb : M.Shp) (hb : ShAt w vb sb) (k : Int) (hab : M.withinS sa sb = true) : Calls Try.prog 7 #[va, vb, .int .i64 k] w fun e w' => e = .returned (.bool true) ∧ Below w.heap.size w w' := by
  have mixed := mixedP
  have B0 := hid (Below.refl w.heap.size w)
  obtain ⟨aa, ca, ba, da, rfl⟩ := ha.form
  have Fa := hid ha
  clear ha
  obtain ⟨ab, cb, bb, db, rfl⟩ := hb.form
  have Fb := hid hb
  clear hb
  obtain ⟨V1, hV1⟩ : ∃ W, w.alloc (.cells #[.slice aa sa.fs.length ca, .slice ba sa.pr.length da] 25) = W := ⟨_, rfl⟩
  have hbx : Below w.heap.size w V1 := by rw [← hV1]; exact (gr_new _ _).below
  have Nba : Hid (V1.heap[w.heap.size]? = some (.cells #[.slice aa sa.fs.length ca, .slice ba sa.pr.length da] 25 (0, 0))) := by unfold Hid; rw [← hV1]; exact new_at _ _
  have B2 := hid (B0.out.trans (hbx.mono B0.out.size))
  have Fa2 := hid (Fa.out.bel hbx)
  have Fb2 := hid (Fb.out.bel hbx)
  clear B0 Fa Fb
  clear hbx
  obtain ⟨V3, hV3⟩ : ∃ W, V1.alloc (.cells #[.slice ab sb.fs.length cb, .slice bb sb.pr.length db] 25) = W := ⟨_, rfl⟩
  have hbx : Below V1.heap.size V1 V3 := by rw [← hV3]; exact (gr_new _ _).below
  have Nbb : Hid (V3.heap[V1.heap.size]? = some (.cells #[.slice ab sb.fs.length cb, .slice bb sb.pr.length db] 25 (0, 0))) := by unfold Hid; rw [← hV3]; exact new_at _ _
  have B4 := hid (B2.out.trans (hbx.mono B2.out.size))
  have Fa4 := hid (Fa2.out.bel hbx)
  have Fb4 := hid (Fb2.out.bel hbx)
  have Fba4 := hid (bx_bel Nba.out hbx)
  clear B2 Fa2 Fb2 Nba
  clear hbx
  go_enter Try.func7, Try.ntmps7
  obtain ⟨xba0, xba1, _⟩ := cells2 Fba4.out
  obtain ⟨xbb0, xbb1, _⟩ := cells2 Nbb.out
  go_wp2_with (first | (go_at_call 10; refine stopHere ?_))
  refine stopAt ?_
  refine (fixed_any V3).mono ?_
  rintro e w5 ⟨rfl, hb⟩
  have B5 := hid (B4.out.trans (hb.mono B4.out.size))
  have Fa5 := hid (Fa4.out.bel hb)
  have Fb5 := hid (Fb4.out.bel hb)
  have Fba5 := hid (bx_bel Fba4.out hb)
  have Fbb5 := hid (bx_bel Nbb.out hb)
  clear B4 Fa4 Fb4 Fba4 Nbb
  clear hb xba0 xba1 xbb0 xbb1 hV1 hV3
  rcases (Bool.eq_false_or_eq_true (M.smallB sa)).symm with hsa | hsa
  · obtain ⟨xba0, xba1, _⟩ := cells2 Fba5.out
    obtain ⟨xbb0, xbb1, _⟩ := cells2 Fbb5.out
    go_wp2_with (first | (go_at_call 9; refine stopHere ?_))
    refine stopAt ?_
    refine (small_any w5 _ sa Fa5.out).mono ?_
    rw [hsa]
    rintro e w6 ⟨rfl, hb⟩
    have B6 := hid (B5.out.trans (hb.mono B5.out.size))
    have Fa6 := hid (Fa5.out.bel hb)
    have Fb6 := hid (Fb5.out.bel hb)
    have Fba6 := hid (bx_bel Fba5.out hb)
    have Fbb6 := hid (bx_bel Fbb5.out hb)
    clear B5 Fa5 Fb5 Fba5 Fbb5
    clear hb xba0 xba1 xbb0 xbb1
    obtain ⟨xba0, xba1, _⟩ := cells2 Fba6.out
    obtain ⟨xbb0, xbb1, _⟩ := cells2 Fbb6.out
    go_wp2_with (first | (go_at_call 10; refine stopHere ?_))
    refine stopAt ?_
    refine (fixed_any w6).mono ?_
    rintro e w7 ⟨rfl, hb⟩
    have B7 := hid (B6.out.trans (hb.mono B6.out.size))
    have Fa7 := hid (Fa6.out.bel hb)
    have Fb7 := hid (Fb6.out.bel hb)
    have Fba7 := hid (bx_bel Fba6.out hb)
    have Fbb7 := hid (bx_bel Fbb6.out hb)
    clear B6 Fa6 Fb6 Fba6 Fbb6
    clear hb xba0 xba1 xbb0 xbb1
    go_wp2
    go_ret
    exact ⟨rfl, B7.out⟩
  obtain ⟨xba0, xba1, _⟩ := cells2 Fba5.out
  obtain ⟨xbb0, xbb1, _⟩ := cells2 Fbb5.out
  go_wp2_with (first | (go_at_call 9; refine stopHere ?_))
  refine stopAt ?_
  refine (small_any w5 _ sa Fa5.out).mono ?_
  rw [hsa]
  rintro e w6 ⟨rfl, hb⟩
  have B6 := hid (B5.out.trans (hb.mono B5.out.size))
  have Fa6 := hid (Fa5.out.bel hb)
  have Fb6 := hid (Fb5.out.bel hb)
  have Fba6 := hid (bx_bel Fba5.out hb)
  have Fbb6 := hid (bx_bel Fbb5.out hb)
  clear B5 Fa5 Fb5 Fba5 Fbb5
  clear hb xba0 xba1 xbb0 xbb1
  rcases (Bool.eq_false_or_eq_true (M.smallB sb)).symm with hsb | hsb
  · obtain ⟨xba0, xba1, _⟩ := cells2 Fba6.out
    obtain ⟨xbb0, xbb1, _⟩ := cells2 Fbb6.out
    go_wp2_with (first | (go_at_call 9; refine stopHere ?_))
    refine stopAt ?_
    refine (small_any w6 _ sb Fb6.out).mono ?_
    rw [hsb]
    rintro e w7 ⟨rfl, hb⟩
    have B7 := hid (B6.out.trans (hb.mono B6.out.size))
    have Fa7 := hid (Fa6.out.bel hb)
    have Fb7 := hid (Fb6.out.bel hb)
    have Fba7 := hid (bx_bel Fba6.out hb)
    have Fbb7 := hid (bx_bel Fbb6.out hb)
    clear B6 Fa6 Fb6 Fba6 Fbb6
    clear hb xba0 xba1 xbb0 xbb1
    obtain ⟨xba0, xba1, _⟩ := cells2 Fba7.out
    obtain ⟨xbb0, xbb1, _⟩ := cells2 Fbb7.out
    go_wp2_with (first | (go_at_call 10; refine stopHere ?_))
    refine stopAt ?_
    refine (fixed_any w7).mono ?_
    rintro e w8 ⟨rfl, hb⟩
    have B8 := hid (B7.out.trans (hb.mono B7.out.size))
    have Fa8 := hid (Fa7.out.bel hb)
    have Fb8 := hid (Fb7.out.bel hb)
    have Fba8 := hid (bx_bel Fba7.out hb)
    have Fbb8 := hid (bx_bel Fbb7.out hb)
    clear B7 Fa7 Fb7 Fba7 Fbb7
    clear hb xba0 xba1 xbb0 xbb1
    go_wp2
    go_ret
    exact ⟨rfl, B8.out⟩
  obtain ⟨xba0, xba1, _⟩ := cells2 Fba6.out
  obtain ⟨xbb0, xbb1, _⟩ := cells2 Fbb6.out
  go_wp2_with (first | (go_at_call 9; refine stopHere ?_))
  refine stopAt ?_
  refine (small_any w6 _ sb Fb6.out).mono ?_
  rw [hsb]
  rintro e w7 ⟨rfl, hb⟩
  have B7 := hid (B6.out.trans (hb.mono B6.out.size))
  have Fa7 := hid (Fa6.out.bel hb)
  have Fb7 := hid (Fb6.out.bel hb)
  have Fba7 := hid (bx_bel Fba6.out hb)
  have Fbb7 := hid (bx_bel Fbb6.out hb)
  clear B6 Fa6 Fb6 Fba6 Fbb6
  clear hb xba0 xba1 xbb0 xbb1
  have Ka := hid (M.sm_of hsa)
  have Kb := hid (M.sm_of hsb)
  rcases (Bool.eq_false_or_eq_true (M.mayS sa)).symm with hma | hma
  · obtain ⟨xba0, xba1, _⟩ := cells2 Fba7.out
    obtain ⟨xbb0, xbb1, _⟩ := cells2 Fbb7.out
    go_wp2_with (first | (go_at_call 13; refine stopHere ?_))
    refine stopAt ?_
    refine (omay_any w7 _ sa Fa7.out Ka.out).mono ?_
    rw [hma]
    rintro e w8 ⟨rfl, hb⟩
    have B8 := hid (B7.out.trans (hb.mono B7.out.size))
    have Fa8 := hid (Fa7.out.bel hb)
    have Fb8 := hid (Fb7.out.bel hb)
    have Fba8 := hid (bx_bel Fba7.out hb)
    have Fbb8 := hid (bx_bel Fbb7.out hb)
    clear B7 Fa7 Fb7 Fba7 Fbb7
    clear hb xba0 xba1 xbb0 xbb1
    obtain ⟨xba0, xba1, _⟩ := cells2 Fba8.out
    obtain ⟨xbb0, xbb1, _⟩ := cells2 Fbb8.out
    go_wp2_with (first | (go_at_call 10; refine stopHere ?_))
    refine stopAt ?_
    refine (fixed_any w8).mono ?_
    rintro e w9 ⟨rfl, hb⟩
    have B9 := hid (B8.out.trans (hb.mono B8.out.size))
    have Fa9 := hid (Fa8.out.bel hb)
    have Fb9 := hid (Fb8.out.bel hb)
    have Fba9 := hid (bx_bel Fba8.out hb)
    have Fbb9 := hid (bx_bel Fbb8.out hb)
    clear B8 Fa8 Fb8 Fba8 Fbb8
    clear hb xba0 xba1 xbb0 xbb1
    go_wp2
    go_ret
    exact ⟨rfl, B9.out⟩
  obtain ⟨xba0, xba1, _⟩ := cells2 Fba7.out
  obtain ⟨xbb0, xbb1, _⟩ := cells2 Fbb7.out
  go_wp2_with (first | (go_at_call 13; refine stopHere ?_))
  refine stopAt ?_
  refine (omay_any w7 _ sa Fa7.out Ka.out).mono ?_
  rw [hma]
  rintro e w8 ⟨rfl, hb⟩
  have B8 := hid (B7.out.trans (hb.mono B7.out.size))
  have Fa8 := hid (Fa7.out.bel hb)
  have Fb8 := hid (Fb7.out.bel hb)
  have Fba8 := hid (bx_bel Fba7.out hb)
  have Fbb8 := hid (bx_bel Fbb7.out hb)
  clear B7 Fa7 Fb7 Fba7 Fbb7
  clear hb xba0 xba1 xbb0 xbb1
  rcases (Bool.eq_false_or_eq_true (M.mayS sb)).symm with hmb | hmb
  · obtain ⟨xba0, xba1, _⟩ := cells2 Fba8.out
    obtain ⟨xbb0, xbb1, _⟩ := cells2 Fbb8.out
    go_wp2_with (first | (go_at_call 13; refine stopHere ?_))
    refine stopAt ?_
    refine (omay_any w8 _ sb Fb8.out Kb.out).mono ?_
    rw [hmb]
    rintro e w9 ⟨rfl, hb⟩
    have B9 := hid (B8.out.trans (hb.mono B8.out.size))
    have Fa9 := hid (Fa8.out.bel hb)
    have Fb9 := hid (Fb8.out.bel hb)
    have Fba9 := hid (bx_bel Fba8.out hb)
    have Fbb9 := hid (bx_bel Fbb8.out hb)
    clear B8 Fa8 Fb8 Fba8 Fbb8
    clear hb xba0 xba1 xbb0 xbb1
    obtain ⟨xba0, xba1, _⟩ := cells2 Fba9.out
    obtain ⟨xbb0, xbb1, _⟩ := cells2 Fbb9.out
    go_wp2_with (first | (go_at_call 10; refine stopHere ?_))
    refine stopAt ?_
    refine (fixed_any w9).mono ?_
    rintro e w10 ⟨rfl, hb⟩
    have B10 := hid (B9.out.trans (hb.mono B9.out.size))
    have Fa10 := hid (Fa9.out.bel hb)
    have Fb10 := hid (Fb9.out.bel hb)
    have Fba10 := hid (bx_bel Fba9.out hb)
    have Fbb10 := hid (bx_bel Fbb9.out hb)
    clear B9 Fa9 Fb9 Fba9 Fbb9
    clear hb xba0 xba1 xbb0 xbb1
    go_wp2
    go_ret
    exact ⟨rfl, B10.out⟩
  obtain ⟨xba0, xba1, _⟩ := cells2 Fba8.out
  obtain ⟨xbb0, xbb1, _⟩ := cells2 Fbb8.out
  go_wp2_with (first | (go_at_call 13; refine stopHere ?_))
  refine stopAt ?_
  refine (omay_any w8 _ sb Fb8.out Kb.out).mono ?_
  rw [hmb]
  rintro e w9 ⟨rfl, hb⟩
  have B9 := hid (B8.out.trans (hb.mono B8.out.size))
  have Fa9 := hid (Fa8.out.bel hb)
  have Fb9 := hid (Fb8.out.bel hb)
  have Fba9 := hid (bx_bel Fba8.out hb)
  have Fbb9 := hid (bx_bel Fbb8.out hb)
  clear B8 Fa8 Fb8 Fba8 Fbb8
  clear hb xba0 xba1 xbb0 xbb1
  obtain ⟨sr, hsr⟩ : ∃ j, M.renS sa k = j := ⟨_, rfl⟩
  obtain ⟨ss, hss⟩ : ∃ j, M.renS sb k = j := ⟨_, rfl⟩
  obtain ⟨sj, hsj⟩ : ∃ j, M.joinS sa sb = j := ⟨_, rfl⟩
  have Z : Hid (M.RenFacts sa sb sj sr ss k) := by unfold Hid; rw [← hsr, ← hss, ← hsj]; exact M.renFacts hsa hsb hma hmb
  have Eab : Hid ((M.mayS sa && M.mayS sb && M.withinS sa sb) = true) := by unfold Hid; rw [hma, hmb, hab]; rfl
  have Ers : Hid ((M.mayS sr && M.mayS ss && M.withinS sr ss) = true) := by unfold Hid; rw [Z.out.may.1, Z.out.may.2, ← hsr, ← hss, M.ren_within hma hmb k hab]; rfl
  clear hsr hss hsj hma hmb hsa hsb hab
  obtain ⟨xba0, xba1, _⟩ := cells2 Fba9.out
  obtain ⟨xbb0, xbb1, _⟩ := cells2 Fbb9.out
  go_wp2_with fail
  rename_i K3 hK3
  have HK3 := hid hK3
  clear hK3
  have KH : Hid (∀ W, Below w9.heap.size w9 W → (W.cell? ⟨w.heap.size, 0, none⟩ = some (.slice aa sa.fs.length ca) ∧ W.cell? ⟨w.heap.size, 1, none⟩ = some (.slice ba sa.pr.length da) ∧ W.cell? ⟨V1.heap.size, 0, none⟩ = some (.slice ab sb.fs.length cb) ∧ W.cell? ⟨V1.heap.size, 1, none⟩ = some (.slice bb sb.pr.length db))) := fun W hb => by
    obtain ⟨yba0, yba1, _⟩ := cells2 (bx_bel Fba9.out hb)
    obtain ⟨ybb0, ybb1, _⟩ := cells2 (bx_bel Fbb9.out hb)
    exact ⟨yba0, yba1, ybb0, ybb1⟩
  clear xba0 xba1 xbb0 xbb1
  have tail : Hid (∀ (W : World) (g7 g8 : Nat) (ar br aq bq : Option Addr) (cr dr cq dq : Nat), Below w.heap.size w W → ShAt W (.agg #[.slice aa sa.fs.length ca, .slice ba sa.pr.length da]) sa → ShAt W (.agg #[.slice ab sb.fs.length cb, .slice bb sb.pr.length db]) sb → ShAt W (.agg #[.slice ar sr.fs.length cr, .slice br sr.pr.length dr]) sr → ShAt W (.agg #[.slice aq ss.fs.length cq, .slice bq ss.pr.length dq]) ss → W.heap[w.heap.size]? = some (.cells #[.slice aa sa.fs.length ca, .slice ba sa.pr.length da] 25 (0, 0)) → W.heap[V1.heap.size]? = some (.cells #[.slice ab sb.fs.length cb, .slice bb sb.pr.length db] 25 (0, 0)) → W.heap[g7]? = some (.cells #[.slice ar sr.fs.length cr, .slice br sr.pr.length dr] 25 (0, 0)) → W.heap[g8]? = some (.cells #[.slice aq ss.fs.length cq, .slice bq ss.pr.length dq] 25 (0, 0)) → K3 ({ tmps := #[Value.agg #[Value.slice aa sa.fs.length ca, Value.slice ba sa.pr.length da], Value.agg #[Value.slice ab sb.fs.length cb, Value.slice bb sb.pr.length db], Value.int IntKind.i64 k, Value.pointer (some { block := w.heap.size, off := 0 }), Value.pointer (some { block := V1.heap.size, off := 0 }), undef, Value.bool false, Value.pointer (some ⟨g7, 0, none⟩), Value.pointer (some ⟨g8, 0, none⟩), Value.bool true, Value.bool false, Value.bool false, Value.agg #[Value.slice aa sa.fs.length ca, Value.slice ba sa.pr.length da], Value.bool true, Value.bool false, Value.bool false, Value.bool false, Value.agg #[Value.slice ab sb.fs.length cb, Value.slice bb sb.pr.length db], Value.bool true, Value.bool false, Value.bool false, Value.bool false, Value.agg #[Value.slice aa sa.fs.length ca, Value.slice ba sa.pr.length da], Value.bool true, Value.bool false, Value.bool false, Value.bool false, Value.agg #[Value.slice ab sb.fs.length cb, Value.slice bb sb.pr.length db], Value.bool true, Value.bool false, Value.bool false, undef, Value.agg #[Value.slice aa sa.fs.length ca, Value.slice ba sa.pr.length da], Value.int IntKind.i64 k, Value.agg #[Value.slice ar sr.fs.length cr, Value.slice br sr.pr.length dr], Value.agg #[Value.slice ab sb.fs.length cb, Value.slice bb sb.pr.length db], Value.int IntKind.i64 k, Value.agg #[Value.slice aq ss.fs.length cq, Value.slice bq ss.pr.length dq], undef, undef, undef, undef, undef, undef, undef, undef, undef, undef, undef, undef, undef, undef, undef, undef, undef, undef, undef, undef, undef, undef, undef, undef, undef, undef, undef], defers := [] } : Act) W) := by
    intro WT g7 g8 ar br aq bq cr dr cq dq f0 f1 f2 f3 f4 f5 f6 f7 f8
    clear KH
    clear Fa9 Fb9 Fba9 Fbb9 B9
    have E0 := hid f0
    clear f0
    have E1 := hid f1
    clear f1
    have E2 := hid f2
    clear f2
    have E3 := hid f3
    clear f3
    have E4 := hid f4
    clear f4
    have E5 := hid f5
    clear f5
    have E6 := hid f6
    clear f6
    have E7 := hid f7
    clear f7
    have E8 := hid f8
    clear f8
    refine HK3.out _ _ ?_
    clear HK3
    obtain ⟨xba0, xba1, _⟩ := cells2 E5.out
    obtain ⟨xbb0, xbb1, _⟩ := cells2 E6.out
    obtain ⟨xbr0, xbr1, _⟩ := cells2 E7.out
    obtain ⟨xbs0, xbs1, _⟩ := cells2 E8.out
    go_wp2_with fail
    have KH : Hid (∀ W, Below WT.heap.size WT W → (W.cell? ⟨w.heap.size, 0, none⟩ = some (.slice aa sa.fs.length ca) ∧ W.cell? ⟨w.heap.size, 1, none⟩ = some (.slice ba sa.pr.length da) ∧ W.cell? ⟨V1.heap.size, 0, none⟩ = some (.slice ab sb.fs.length cb) ∧ W.cell? ⟨V1.heap.size, 1, none⟩ = some (.slice bb sb.pr.length db) ∧ W.cell? ⟨g7, 0, none⟩ = some (.slice ar sr.fs.length cr) ∧ W.cell? ⟨g7, 1, none⟩ = some (.slice br sr.pr.length dr) ∧ W.cell? ⟨g8, 0, none⟩ = some (.slice aq ss.fs.length cq) ∧ W.cell? ⟨g8, 1, none⟩ = some (.slice bq ss.pr.length dq))) := fun W hb => by
      obtain ⟨yba0, yba1, _⟩ := cells2 (bx_bel E5.out hb)
      obtain ⟨ybb0, ybb1, _⟩ := cells2 (bx_bel E6.out hb)
      obtain ⟨ybr0, ybr1, _⟩ := cells2 (bx_bel E7.out hb)
      obtain ⟨ybs0, ybs1, _⟩ := cells2 (bx_bel E8.out hb)
      exact ⟨yba0, yba1, ybb0, ybb1, ybr0, ybr1, ybs0, ybs1⟩
    clear xba0 xba1 xbb0 xbb1 xbr0 xbr1 xbs0 xbs1
    refine wp_region_held_drew (S := fun W => W.cell? ⟨w.heap.size, 0, none⟩ = some (.slice aa sa.fs.length ca) ∧ W.cell? ⟨w.heap.size, 1, none⟩ = some (.slice ba sa.pr.length da) ∧ W.cell? ⟨V1.heap.size, 0, none⟩ = some (.slice ab sb.fs.length cb) ∧ W.cell? ⟨V1.heap.size, 1, none⟩ = some (.slice bb sb.pr.length db) ∧ W.cell? ⟨g7, 0, none⟩ = some (.slice ar sr.fs.length cr) ∧ W.cell? ⟨g7, 1, none⟩ = some (.slice br sr.pr.length dr) ∧ W.cell? ⟨g8, 0, none⟩ = some (.slice aq ss.fs.length cq) ∧ W.cell? ⟨g8, 1, none⟩ = some (.slice bq ss.pr.length dq)) (by kernel_rfl) (KH.out _ (Below.refl _ _).drew) (fun hHeld => ?_)
    have hbd : Below WT.heap.size WT WT.drew := (Gr.refl _).drew.below
    have RB0 := hid hbd
    have B101 := hid (E0.out.trans (hbd.mono E0.out.size))
    have Fa101 := hid (E1.out.bel hbd)
    have Fb101 := hid (E2.out.bel hbd)
    have Fba101 := hid (bx_bel E5.out hbd)
    have Fbb101 := hid (bx_bel E6.out hbd)
    have Fr101 := hid (E3.out.bel hbd)
    have Fs101 := hid (E4.out.bel hbd)
    have Fbr101 := hid (bx_bel E7.out hbd)
    have Fbs101 := hid (bx_bel E8.out hbd)
    clear E0 E1 E2 E5 E6 E3 E4 E7 E8
    clear hbd
    refine wpAnyH_take (i := 0) (oi := { dst := some 38, op := Op.load 25 (Operand.tmp 3), type := 25, pos := "law.go:107", after := #[], guard := none }) (v := ?_) rfl (by kernel_rfl) (by kernel_rfl) (by kernel_rfl) (fun _ _ _ h => h) (Or.inl ⟨by rfl, ?_⟩) hHeld ?_
    rotate_left
    · intro w hSw; (try dsimp only at hSw); go_simp; (try with_reducible rfl)
    simp only [Act.put, List.setIfInBounds_toArray, List.set_cons_zero, List.set_cons_succ]
    refine wpAnyH_take (i := 1) (oi := { dst := some 39, op := Op.load 25 (Operand.tmp 4), type := 25, pos := "law.go:107", after := #[], guard := none }) (v := ?_) rfl (by kernel_rfl) (by kernel_rfl) (by kernel_rfl) (fun _ _ _ h => h) (Or.inl ⟨by rfl, ?_⟩) hHeld ?_
    rotate_left
    · intro w hSw; (try dsimp only at hSw); go_simp; (try with_reducible rfl)
    simp only [Act.put, List.setIfInBounds_toArray, List.set_cons_zero, List.set_cons_succ]
    refine wpAnyH_take (i := 3) (oi := { dst := some 41, op := Op.move (Operand.tmp 2), type := 3, pos := "law.go:107", after := #[], guard := none }) (v := ?_) rfl (by kernel_rfl) (by kernel_rfl) (by kernel_rfl) (fun _ _ _ h => h) (Or.inl ⟨by rfl, ?_⟩) hHeld ?_
    rotate_left
    · intro w hSw; (try dsimp only at hSw); go_simp; (try with_reducible rfl)
    simp only [Act.put, List.setIfInBounds_toArray, List.set_cons_zero, List.set_cons_succ]
    refine wpAnyH_take (i := 5) (oi := { dst := some 43, op := Op.load 25 (Operand.tmp 7), type := 25, pos := "law.go:107", after := #[], guard := none }) (v := ?_) rfl (by kernel_rfl) (by kernel_rfl) (by kernel_rfl) (fun _ _ _ h => h) (Or.inl ⟨by rfl, ?_⟩) hHeld ?_
    rotate_left
    · intro w hSw; (try dsimp only at hSw); go_simp; (try with_reducible rfl)
    simp only [Act.put, List.setIfInBounds_toArray, List.set_cons_zero, List.set_cons_succ]
    refine wpAnyH_take (i := 6) (oi := { dst := some 44, op := Op.load 25 (Operand.tmp 8), type := 25, pos := "law.go:107", after := #[], guard := none }) (v := ?_) rfl (by kernel_rfl) (by kernel_rfl) (by kernel_rfl) (fun _ _ _ h => h) (Or.inl ⟨by rfl, ?_⟩) hHeld ?_
    rotate_left
    · intro w hSw; (try dsimp only at hSw); go_simp; (try with_reducible rfl)
    simp only [Act.put, List.setIfInBounds_toArray, List.set_cons_zero, List.set_cons_succ]
    refine wpAnyH_ready (rs := [2]) (by kernel_rfl) (by simp) ?_
    refine AllReadyH.cons (o := { dst := some 40, op := Op.call { callee := Callee.value (Operand.func 17), args := #[Operand.tmp 38, Operand.tmp 39], argTypes := #[25, 25] }, type := 25, pos := "law.go:107", after := #[{ on := 0, ground := Ground.data }, { on := 1, ground := Ground.data }], guard := none }) rfl (fun K hK => ?_) AllReadyH.nil
    go_simp
    refine (ojoin_any WT.drew _ _ sa sb Fa101.out Fb101.out Ka.out Kb.out).mono ?_
    rintro e z102 ⟨v102, rfl, hsh, hb⟩
    have B102 := hid (B101.out.trans (hb.mono B101.out.size))
    have Fa102 := hid (Fa101.out.bel hb)
    have Fb102 := hid (Fb101.out.bel hb)
    have Fba102 := hid (bx_bel Fba101.out hb)
    have Fbb102 := hid (bx_bel Fbb101.out hb)
    have Fr102 := hid (Fr101.out.bel hb)
    have Fs102 := hid (Fs101.out.bel hb)
    have Fbr102 := hid (bx_bel Fbr101.out hb)
    have Fbs102 := hid (bx_bel Fbs101.out hb)
    have RB102 := hid (RB0.out.trans (hb.mono RB0.out.size))
    clear B101 Fa101 Fb101 Fba101 Fbb101 Fr101 Fs101 Fbr101 Fbs101 RB0
    rw [Z.out.ab] at hsh
    have Fx102 := hid hsh.at
    clear hsh
    clear hb
    refine hK.out _ _ (KH.out _ RB102.out) (fun hHeld => ?_)
    refine wpAnyH_ready (rs := [4]) (by kernel_rfl) (by simp) ?_
    refine AllReadyH.cons (o := { dst := some 42, op := Op.call { callee := Callee.value (Operand.func 25), args := #[Operand.tmp 40, Operand.tmp 41], argTypes := #[25, 3] }, type := 25, pos := "law.go:107", after := #[{ on := 2, ground := Ground.data }, { on := 3, ground := Ground.data }, { on := 2, ground := Ground.chain }], guard := none }) rfl (fun K hK => ?_) AllReadyH.nil
    go_simp
    refine (orename_any z102 _ sj k Fx102.out Z.out.Kj).mono ?_
    rintro e z103 ⟨v103, rfl, hsh, hb⟩
    have B103 := hid (B102.out.trans (hb.mono B102.out.size))
    have Fa103 := hid (Fa102.out.bel hb)
    have Fb103 := hid (Fb102.out.bel hb)
    have Fba103 := hid (bx_bel Fba102.out hb)
    have Fbb103 := hid (bx_bel Fbb102.out hb)
    have Fr103 := hid (Fr102.out.bel hb)
    have Fs103 := hid (Fs102.out.bel hb)
    have Fbr103 := hid (bx_bel Fbr102.out hb)
    have Fbs103 := hid (bx_bel Fbs102.out hb)
    have Fx103 := hid (Fx102.out.bel hb)
    have RB103 := hid (RB102.out.trans (hb.mono RB102.out.size))
    clear B102 Fa102 Fb102 Fba102 Fbb102 Fr102 Fs102 Fbr102 Fbs102 Fx102 RB102
    rw [Z.out.jk] at hsh
    have Fy103 := hid hsh.at
    clear hsh
    clear hb
    refine hK.out _ _ (KH.out _ RB103.out) (fun hHeld => ?_)
    refine wpAnyH_ready (rs := [7]) (by kernel_rfl) (by simp) ?_
    refine AllReadyH.cons (o := { dst := some 45, op := Op.call { callee := Callee.value (Operand.func 17), args := #[Operand.tmp 43, Operand.tmp 44], argTypes := #[25, 25] }, type := 25, pos := "law.go:107", after := #[{ on := 5, ground := Ground.data }, { on := 6, ground := Ground.data }, { on := 4, ground := Ground.chain }], guard := none }) rfl (fun K hK => ?_) AllReadyH.nil
    go_simp
    refine (ojoin_any z103 _ _ sr ss Fr103.out Fs103.out Z.out.Kr Z.out.Ks).mono ?_
    rintro e z104 ⟨v104, rfl, hsh, hb⟩
    have B104 := hid (B103.out.trans (hb.mono B103.out.size))
    have Fa104 := hid (Fa103.out.bel hb)
    have Fb104 := hid (Fb103.out.bel hb)
    have Fba104 := hid (bx_bel Fba103.out hb)
    have Fbb104 := hid (bx_bel Fbb103.out hb)
    have Fr104 := hid (Fr103.out.bel hb)
    have Fs104 := hid (Fs103.out.bel hb)
    have Fbr104 := hid (bx_bel Fbr103.out hb)
    have Fbs104 := hid (bx_bel Fbs103.out hb)
    have Fx104 := hid (Fx103.out.bel hb)
    have Fy104 := hid (Fy103.out.bel hb)
    have RB104 := hid (RB103.out.trans (hb.mono RB103.out.size))
    clear B103 Fa103 Fb103 Fba103 Fbb103 Fr103 Fs103 Fbr103 Fbs103 Fx103 Fy103 RB103
    rw [Z.out.rs] at hsh
    have Fz104 := hid hsh.at
    clear hsh
    clear hb
    refine hK.out _ _ (KH.out _ RB104.out) (fun hHeld => ?_)
    refine wpAnyH_ready (rs := [8]) (by kernel_rfl) (by simp) ?_
    refine AllReadyH.cons (o := { dst := some 46, op := Op.call { callee := Callee.value (Operand.func 16), args := #[Operand.tmp 42, Operand.tmp 45], argTypes := #[25, 25] }, type := 4, pos := "law.go:107", after := #[{ on := 4, ground := Ground.data }, { on := 7, ground := Ground.data }, { on := 7, ground := Ground.chain }], guard := none }) rfl (fun K hK => ?_) AllReadyH.nil
    go_simp
    refine (rsameS_any z104 _ _ (M.renS sj k) (M.joinS sr ss) Fy104.out Fz104.out Z.out.Kjk).mono ?_
    rw [Z.out.s1]
    rintro e z105 ⟨rfl, hb⟩
    have B105 := hid (B104.out.trans (hb.mono B104.out.size))
    have Fa105 := hid (Fa104.out.bel hb)
    have Fb105 := hid (Fb104.out.bel hb)
    have Fba105 := hid (bx_bel Fba104.out hb)
    have Fbb105 := hid (bx_bel Fbb104.out hb)
    have Fr105 := hid (Fr104.out.bel hb)
    have Fs105 := hid (Fs104.out.bel hb)
    have Fbr105 := hid (bx_bel Fbr104.out hb)
    have Fbs105 := hid (bx_bel Fbs104.out hb)
    have Fx105 := hid (Fx104.out.bel hb)
    have Fy105 := hid (Fy104.out.bel hb)
    have Fz105 := hid (Fz104.out.bel hb)
    have RB105 := hid (RB104.out.trans (hb.mono RB104.out.size))
    clear B104 Fa104 Fb104 Fba104 Fbb104 Fr104 Fs104 Fbr104 Fbs104 Fx104 Fy104 Fz104 RB104
    clear hb
    refine hK.out _ _ (KH.out _ RB105.out) (fun hHeld => ?_)
    refine wpAnyH_take (i := 9) (oi := { dst := some 47, op := Op.move (Operand.tmp 46), type := 4, pos := "law.go:107", after := #[{ on := 8, ground := Ground.data }, { on := 8, ground := Ground.chain }], guard := none }) (v := ?_) rfl (by kernel_rfl) (by kernel_rfl) (by kernel_rfl) (fun _ _ _ h => h) (Or.inl ⟨by rfl, ?_⟩) hHeld ?_
    rotate_left
    · intro w hSw; (try dsimp only at hSw); go_simp; (try with_reducible rfl)
    simp only [Act.put, List.setIfInBounds_toArray, List.set_cons_zero, List.set_cons_succ]
    refine wpAnyH_take (i := 10) (oi := { dst := some 48, op := Op.load 25 (Operand.tmp 3), type := 25, pos := "law.go:107", after := #[{ on := 9, ground := Ground.guard }], guard := some (9, true) }) (v := ?_) rfl (by kernel_rfl) (by kernel_rfl) (by kernel_rfl) (fun _ _ _ h => h) (Or.inl ⟨by rfl, ?_⟩) hHeld ?_
    rotate_left
    · intro w hSw; (try dsimp only at hSw); go_simp; (try with_reducible rfl)
    simp only [Act.put, List.setIfInBounds_toArray, List.set_cons_zero, List.set_cons_succ]
    refine wpAnyH_take (i := 11) (oi := { dst := some 49, op := Op.load 25 (Operand.tmp 4), type := 25, pos := "law.go:107", after := #[{ on := 9, ground := Ground.guard }], guard := some (9, true) }) (v := ?_) rfl (by kernel_rfl) (by kernel_rfl) (by kernel_rfl) (fun _ _ _ h => h) (Or.inl ⟨by rfl, ?_⟩) hHeld ?_
    rotate_left
    · intro w hSw; (try dsimp only at hSw); go_simp; (try with_reducible rfl)
    simp only [Act.put, List.setIfInBounds_toArray, List.set_cons_zero, List.set_cons_succ]
    refine wpAnyH_ready (rs := [12]) (by kernel_rfl) (by simp) ?_
    refine AllReadyH.cons (o := { dst := some 50, op := Op.call { callee := Callee.value (Operand.func 19), args := #[Operand.tmp 48, Operand.tmp 49], argTypes := #[25, 25] }, type := 4, pos := "law.go:107", after := #[{ on := 10, ground := Ground.data }, { on := 11, ground := Ground.data }, { on := 9, ground := Ground.chain }, { on := 9, ground := Ground.guard }], guard := some (9, true) }) rfl (fun K hK => ?_) AllReadyH.nil
    go_simp
    refine (owithin_any z105 _ _ sa sb Fa105.out Fb105.out Ka.out Kb.out).mono ?_
    rw [Eab.out]
    rintro e z106 ⟨rfl, hb⟩
    have B106 := hid (B105.out.trans (hb.mono B105.out.size))
    have Fa106 := hid (Fa105.out.bel hb)
    have Fb106 := hid (Fb105.out.bel hb)
    have Fba106 := hid (bx_bel Fba105.out hb)
    have Fbb106 := hid (bx_bel Fbb105.out hb)
    have Fr106 := hid (Fr105.out.bel hb)
    have Fs106 := hid (Fs105.out.bel hb)
    have Fbr106 := hid (bx_bel Fbr105.out hb)
    have Fbs106 := hid (bx_bel Fbs105.out hb)
    have RB106 := hid (RB105.out.trans (hb.mono RB105.out.size))
    clear B105 Fa105 Fb105 Fba105 Fbb105 Fr105 Fs105 Fbr105 Fbs105 RB105
    clear hb
    refine hK.out _ _ (KH.out _ RB106.out) (fun hHeld => ?_)
    refine wpAnyH_take (i := 13) (oi := { dst := some 51, op := Op.unOp UnOp.not 4 (Operand.tmp 50), type := 4, pos := "law.go:107", after := #[{ on := 12, ground := Ground.data }, { on := 9, ground := Ground.guard }], guard := some (9, true) }) (v := ?_) rfl (by kernel_rfl) (by kernel_rfl) (by kernel_rfl) (fun _ _ _ h => h) (Or.inl ⟨by rfl, ?_⟩) hHeld ?_
    rotate_left
    · intro w hSw; (try dsimp only at hSw); go_simp; (try with_reducible rfl)
    simp only [Act.put, List.setIfInBounds_toArray, List.set_cons_zero, List.set_cons_succ]
    refine wpAnyH_take (i := 14) (oi := { dst := some 52, op := Op.move (Operand.tmp 51), type := 4, pos := "law.go:107", after := #[{ on := 13, ground := Ground.data }, { on := 12, ground := Ground.chain }, { on := 9, ground := Ground.guard }], guard := some (9, true) }) (v := ?_) rfl (by kernel_rfl) (by kernel_rfl) (by kernel_rfl) (fun _ _ _ h => h) (Or.inl ⟨by rfl, ?_⟩) hHeld ?_
    rotate_left
    · intro w hSw; (try dsimp only at hSw); go_simp; (try with_reducible rfl)
    simp only [Act.put, List.setIfInBounds_toArray, List.set_cons_zero, List.set_cons_succ]
    refine wpAnyH_take (i := 15) (oi := { dst := some 53, op := Op.load 25 (Operand.tmp 7), type := 25, pos := "law.go:107", after := #[{ on := 14, ground := Ground.guard }], guard := some (14, false) }) (v := ?_) rfl (by kernel_rfl) (by kernel_rfl) (by kernel_rfl) (fun _ _ _ h => h) (Or.inl ⟨by rfl, ?_⟩) hHeld ?_
    rotate_left
    · intro w hSw; (try dsimp only at hSw); go_simp; (try with_reducible rfl)
    simp only [Act.put, List.setIfInBounds_toArray, List.set_cons_zero, List.set_cons_succ]
    refine wpAnyH_take (i := 16) (oi := { dst := some 54, op := Op.load 25 (Operand.tmp 8), type := 25, pos := "law.go:107", after := #[{ on := 14, ground := Ground.guard }], guard := some (14, false) }) (v := ?_) rfl (by kernel_rfl) (by kernel_rfl) (by kernel_rfl) (fun _ _ _ h => h) (Or.inl ⟨by rfl, ?_⟩) hHeld ?_
    rotate_left
    · intro w hSw; (try dsimp only at hSw); go_simp; (try with_reducible rfl)
    simp only [Act.put, List.setIfInBounds_toArray, List.set_cons_zero, List.set_cons_succ]
    refine wpAnyH_ready (rs := [17]) (by kernel_rfl) (by simp) ?_
    refine AllReadyH.cons (o := { dst := some 55, op := Op.call { callee := Callee.value (Operand.func 19), args := #[Operand.tmp 53, Operand.tmp 54], argTypes := #[25, 25] }, type := 4, pos := "law.go:107", after := #[{ on := 15, ground := Ground.data }, { on := 16, ground := Ground.data }, { on := 14, ground := Ground.chain }, { on := 14, ground := Ground.guard }], guard := some (14, false) }) rfl (fun K hK => ?_) AllReadyH.nil
    go_simp
    refine (owithin_any z106 _ _ sr ss Fr106.out Fs106.out Z.out.Kr Z.out.Ks).mono ?_
    rw [Ers.out]
    rintro e z107 ⟨rfl, hb⟩
    have B107 := hid (B106.out.trans (hb.mono B106.out.size))
    have Fa107 := hid (Fa106.out.bel hb)
    have Fb107 := hid (Fb106.out.bel hb)
    have Fba107 := hid (bx_bel Fba106.out hb)
    have Fbb107 := hid (bx_bel Fbb106.out hb)
    have Fr107 := hid (Fr106.out.bel hb)
    have Fs107 := hid (Fs106.out.bel hb)
    have Fbr107 := hid (bx_bel Fbr106.out hb)
    have Fbs107 := hid (bx_bel Fbs106.out hb)
    have RB107 := hid (RB106.out.trans (hb.mono RB106.out.size))
    clear B106 Fa106 Fb106 Fba106 Fbb106 Fr106 Fs106 Fbr106 Fbs106 RB106
    clear hb
    refine hK.out _ _ (KH.out _ RB107.out) (fun hHeld => ?_)
    refine wpAnyH_take (i := 18) (oi := { dst := some 56, op := Op.pick (Operand.tmp 52) (Operand.const (Value.bool true)) (Operand.tmp 55), type := 4, pos := "law.go:107", after := #[{ on := 14, ground := Ground.data }, { on := 17, ground := Ground.data }, { on := 9, ground := Ground.guard }], guard := some (9, true) }) (v := ?_) rfl (by kernel_rfl) (by kernel_rfl) (by kernel_rfl) (fun _ _ _ h => h) (Or.inl ⟨by rfl, ?_⟩) hHeld ?_
    rotate_left
    · intro w hSw; (try dsimp only at hSw); go_simp; (try with_reducible rfl)
    simp only [Act.put, List.setIfInBounds_toArray, List.set_cons_zero, List.set_cons_succ]
    refine wpAnyH_take (i := 19) (oi := { dst := some 57, op := Op.pick (Operand.tmp 47) (Operand.tmp 56) (Operand.const (Value.bool false)), type := 4, pos := "law.go:107", after := #[{ on := 9, ground := Ground.data }, { on := 18, ground := Ground.data }], guard := none }) (v := ?_) rfl (by kernel_rfl) (by kernel_rfl) (by kernel_rfl) (fun _ _ _ h => h) (Or.inl ⟨by rfl, ?_⟩) hHeld ?_
    rotate_left
    · intro w hSw; (try dsimp only at hSw); go_simp; (try with_reducible rfl)
    simp only [Act.put, List.setIfInBounds_toArray, List.set_cons_zero, List.set_cons_succ]
    refine wpAnyH_take (i := 20) (oi := { dst := some 58, op := Op.move (Operand.tmp 57), type := 4, pos := "law.go:107", after := #[{ on := 19, ground := Ground.data }, { on := 17, ground := Ground.chain }], guard := none }) (v := ?_) rfl (by kernel_rfl) (by kernel_rfl) (by kernel_rfl) (fun _ _ _ h => h) (Or.inl ⟨by rfl, ?_⟩) hHeld ?_
    rotate_left
    · intro w hSw; (try dsimp only at hSw); go_simp; (try with_reducible rfl)
    simp only [Act.put, List.setIfInBounds_toArray, List.set_cons_zero, List.set_cons_succ]
    refine wpAnyH_take (i := 21) (oi := { dst := some 59, op := Op.load 25 (Operand.tmp 7), type := 25, pos := "law.go:107", after := #[{ on := 20, ground := Ground.guard }], guard := some (20, true) }) (v := ?_) rfl (by kernel_rfl) (by kernel_rfl) (by kernel_rfl) (fun _ _ _ h => h) (Or.inl ⟨by rfl, ?_⟩) hHeld ?_
    rotate_left
    · intro w hSw; (try dsimp only at hSw); go_simp; (try with_reducible rfl)
    simp only [Act.put, List.setIfInBounds_toArray, List.set_cons_zero, List.set_cons_succ]
    refine wpAnyH_take (i := 22) (oi := { dst := some 60, op := Op.move (Operand.tmp 2), type := 3, pos := "law.go:107", after := #[{ on := 20, ground := Ground.guard }], guard := some (20, true) }) (v := ?_) rfl (by kernel_rfl) (by kernel_rfl) (by kernel_rfl) (fun _ _ _ h => h) (Or.inl ⟨by rfl, ?_⟩) hHeld ?_
    rotate_left
    · intro w hSw; (try dsimp only at hSw); go_simp; (try with_reducible rfl)
    simp only [Act.put, List.setIfInBounds_toArray, List.set_cons_zero, List.set_cons_succ]
    refine wpAnyH_take (i := 24) (oi := { dst := some 62, op := Op.load 25 (Operand.tmp 7), type := 25, pos := "law.go:107", after := #[{ on := 20, ground := Ground.guard }], guard := some (20, true) }) (v := ?_) rfl (by kernel_rfl) (by kernel_rfl) (by kernel_rfl) (fun _ _ _ h => h) (Or.inl ⟨by rfl, ?_⟩) hHeld ?_
    rotate_left
    · intro w hSw; (try dsimp only at hSw); go_simp; (try with_reducible rfl)
    simp only [Act.put, List.setIfInBounds_toArray, List.set_cons_zero, List.set_cons_succ]
    refine wpAnyH_ready (rs := [23]) (by kernel_rfl) (by simp) ?_
    refine AllReadyH.cons (o := { dst := some 61, op := Op.call { callee := Callee.value (Operand.func 25), args := #[Operand.tmp 59, Operand.tmp 60], argTypes := #[25, 3] }, type := 25, pos := "law.go:107", after := #[{ on := 21, ground := Ground.data }, { on := 22, ground := Ground.data }, { on := 20, ground := Ground.chain }, { on := 20, ground := Ground.guard }], guard := some (20, true) }) rfl (fun K hK => ?_) AllReadyH.nil
    go_simp
    refine (orename_any z107 _ sr k Fr107.out Z.out.Kr).mono ?_
    rintro e z108 ⟨v108, rfl, hsh, hb⟩
    have B108 := hid (B107.out.trans (hb.mono B107.out.size))
    have Fa108 := hid (Fa107.out.bel hb)
    have Fb108 := hid (Fb107.out.bel hb)
    have Fba108 := hid (bx_bel Fba107.out hb)
    have Fbb108 := hid (bx_bel Fbb107.out hb)
    have Fr108 := hid (Fr107.out.bel hb)
    have Fs108 := hid (Fs107.out.bel hb)
    have Fbr108 := hid (bx_bel Fbr107.out hb)
    have Fbs108 := hid (bx_bel Fbs107.out hb)
    have RB108 := hid (RB107.out.trans (hb.mono RB107.out.size))
    clear B107 Fa107 Fb107 Fba107 Fbb107 Fr107 Fs107 Fbr107 Fbs107 RB107
    rw [Z.out.rk] at hsh
    have Fy108 := hid hsh.at
    clear hsh
    clear hb
    refine hK.out _ _ (KH.out _ RB108.out) (fun hHeld => ?_)
    refine wpAnyH_ready (rs := [25]) (by kernel_rfl) (by simp) ?_
    refine AllReadyH.cons (o := { dst := some 63, op := Op.call { callee := Callee.value (Operand.func 16), args := #[Operand.tmp 61, Operand.tmp 62], argTypes := #[25, 25] }, type := 4, pos := "law.go:107", after := #[{ on := 23, ground := Ground.data }, { on := 24, ground := Ground.data }, { on := 23, ground := Ground.chain }, { on := 20, ground := Ground.guard }], guard := some (20, true) }) rfl (fun K hK => ?_) AllReadyH.nil
    go_simp
    refine (rsameS_any z108 _ _ (M.renS sr k) sr Fy108.out Fr108.out Z.out.Krk).mono ?_
    rw [Z.out.s2]
    rintro e z109 ⟨rfl, hb⟩
    have B109 := hid (B108.out.trans (hb.mono B108.out.size))
    have Fa109 := hid (Fa108.out.bel hb)
    have Fb109 := hid (Fb108.out.bel hb)
    have Fba109 := hid (bx_bel Fba108.out hb)
    have Fbb109 := hid (bx_bel Fbb108.out hb)
    have Fr109 := hid (Fr108.out.bel hb)
    have Fs109 := hid (Fs108.out.bel hb)
    have Fbr109 := hid (bx_bel Fbr108.out hb)
    have Fbs109 := hid (bx_bel Fbs108.out hb)
    have Fy109 := hid (Fy108.out.bel hb)
    have RB109 := hid (RB108.out.trans (hb.mono RB108.out.size))
    clear B108 Fa108 Fb108 Fba108 Fbb108 Fr108 Fs108 Fbr108 Fbs108 Fy108 RB108
    clear hb
    refine hK.out _ _ (KH.out _ RB109.out) (fun hHeld => ?_)
    refine wpAnyH_take (i := 26) (oi := { dst := some 64, op := Op.pick (Operand.tmp 58) (Operand.tmp 63) (Operand.const (Value.bool false)), type := 4, pos := "law.go:107", after := #[{ on := 20, ground := Ground.data }, { on := 25, ground := Ground.data }], guard := none }) (v := ?_) rfl (by kernel_rfl) (by kernel_rfl) (by kernel_rfl) (fun _ _ _ h => h) (Or.inl ⟨by rfl, ?_⟩) hHeld ?_
    rotate_left
    · intro w hSw; (try dsimp only at hSw); go_simp; (try with_reducible rfl)
    simp only [Act.put, List.setIfInBounds_toArray, List.set_cons_zero, List.set_cons_succ]
    refine wpAnyH_take (i := 27) (oi := { dst := some 6, op := Op.assign (Operand.tmp 64), type := 4, pos := "law.go:107", after := #[{ on := 26, ground := Ground.data }, { on := 25, ground := Ground.chain }, { on := 0, ground := Ground.phase }, { on := 1, ground := Ground.phase }, { on := 2, ground := Ground.phase }, { on := 3, ground := Ground.phase }, { on := 4, ground := Ground.phase }, { on := 5, ground := Ground.phase }, { on := 6, ground := Ground.phase }, { on := 7, ground := Ground.phase }, { on := 8, ground := Ground.phase }, { on := 9, ground := Ground.phase }, { on := 10, ground := Ground.phase }, { on := 11, ground := Ground.phase }, { on := 12, ground := Ground.phase }, { on := 13, ground := Ground.phase }, { on := 14, ground := Ground.phase }, { on := 15, ground := Ground.phase }, { on := 16, ground := Ground.phase }, { on := 17, ground := Ground.phase }, { on := 18, ground := Ground.phase }, { on := 19, ground := Ground.phase }, { on := 20, ground := Ground.phase }, { on := 21, ground := Ground.phase }, { on := 22, ground := Ground.phase }, { on := 23, ground := Ground.phase }, { on := 24, ground := Ground.phase }, { on := 25, ground := Ground.phase }, { on := 26, ground := Ground.phase }], guard := none }) (v := ?_) rfl (by kernel_rfl) (by kernel_rfl) (by kernel_rfl) (fun _ _ _ h => h) (Or.inl ⟨by rfl, ?_⟩) hHeld ?_
    rotate_left
    · intro w hSw; (try dsimp only at hSw); go_simp; (try with_reducible rfl)
    simp only [Act.put, List.setIfInBounds_toArray, List.set_cons_zero, List.set_cons_succ]
    refine wpAnyH_done (by kernel_rfl) ?_ _
    clear hHeld KH
    clear RB109
    go_wp2
    go_ret
    exact ⟨rfl, B109.out⟩
  refine wp_region_held_drew (S := fun W => W.cell? ⟨w.heap.size, 0, none⟩ = some (.slice aa sa.fs.length ca) ∧ W.cell? ⟨w.heap.size, 1, none⟩ = some (.slice ba sa.pr.length da) ∧ W.cell? ⟨V1.heap.size, 0, none⟩ = some (.slice ab sb.fs.length cb) ∧ W.cell? ⟨V1.heap.size, 1, none⟩ = some (.slice bb sb.pr.length db)) (by kernel_rfl) (KH.out _ (Below.refl _ _).drew) (fun hHeld => ?_)
  have hbd : Below w9.heap.size w9 w9.drew := (Gr.refl _).drew.below
  have RB0 := hid hbd
  clear hbd
  refine wpAnyH_take (i := 0) (oi := { dst := some 32, op := Op.load 25 (Operand.tmp 3), type := 25, pos := "law.go:106", after := #[], guard := none }) (v := ?_) rfl (by kernel_rfl) (by kernel_rfl) (by kernel_rfl) (fun _ _ _ h => h) (Or.inl ⟨by rfl, ?_⟩) hHeld ?_
  rotate_left
  · intro w hSw; (try dsimp only at hSw); go_simp; (try with_reducible rfl)
  simp only [Act.put, List.setIfInBounds_toArray, List.set_cons_zero, List.set_cons_succ]
  refine wpAnyH_take (i := 1) (oi := { dst := some 33, op := Op.move (Operand.tmp 2), type := 3, pos := "law.go:106", after := #[], guard := none }) (v := ?_) rfl (by kernel_rfl) (by kernel_rfl) (by kernel_rfl) (fun _ _ _ h => h) (Or.inl ⟨by rfl, ?_⟩) hHeld ?_
  rotate_left
  · intro w hSw; (try dsimp only at hSw); go_simp; (try with_reducible rfl)
  simp only [Act.put, List.setIfInBounds_toArray, List.set_cons_zero, List.set_cons_succ]
  refine wpAnyH_take (i := 3) (oi := { dst := some 35, op := Op.load 25 (Operand.tmp 4), type := 25, pos := "law.go:106", after := #[], guard := none }) (v := ?_) rfl (by kernel_rfl) (by kernel_rfl) (by kernel_rfl) (fun _ _ _ h => h) (Or.inl ⟨by rfl, ?_⟩) hHeld ?_
  rotate_left
  · intro w hSw; (try dsimp only at hSw); go_simp; (try with_reducible rfl)
  simp only [Act.put, List.setIfInBounds_toArray, List.set_cons_zero, List.set_cons_succ]
  refine wpAnyH_take (i := 4) (oi := { dst := some 36, op := Op.move (Operand.tmp 2), type := 3, pos := "law.go:106", after := #[], guard := none }) (v := ?_) rfl (by kernel_rfl) (by kernel_rfl) (by kernel_rfl) (fun _ _ _ h => h) (Or.inl ⟨by rfl, ?_⟩) hHeld ?_
  rotate_left
  · intro w hSw; (try dsimp only at hSw); go_simp; (try with_reducible rfl)
  simp only [Act.put, List.setIfInBounds_toArray, List.set_cons_zero, List.set_cons_succ]
  refine wpAnyH_ready (rs := [2, 6, 7]) (by kernel_rfl) (by simp) ?_
  refine AllReadyH.cons (o := { dst := some 34, op := Op.call { callee := Callee.value (Operand.func 25), args := #[Operand.tmp 32, Operand.tmp 33], argTypes := #[25, 3] }, type := 25, pos := "law.go:106", after := #[{ on := 0, ground := Ground.data }, { on := 1, ground := Ground.data }], guard := none }) rfl (fun K hK => ?_) (AllReadyH.cons (o := { dst := some 7, op := Op.alloc 25, type := 0, pos := "law.go:106", after := #[], guard := none }) rfl (fun K hK => ?_) (AllReadyH.cons (o := { dst := some 8, op := Op.alloc 25, type := 0, pos := "law.go:106", after := #[], guard := none }) rfl (fun K hK => ?_) AllReadyH.nil))
  · go_simp
    refine (orename_any w9.drew _ sa k (Fa9.out.bel RB0.out) Ka.out).mono ?_
    rintro e z10 ⟨v10, rfl, hsh, hb⟩
    have B10 := hid (RB0.out.trans (hb.mono RB0.out.size))
    clear RB0
    rw [Z.out.ra] at hsh
    have Fr10 := hid hsh.at
    obtain ⟨ar, cr, br, dr, rfl⟩ := hsh.at.form
    clear hsh hb
    refine hK.out _ _ (KH.out _ B10.out) (fun hHeld => ?_)
    clear hK
    refine wpAnyH_ready (rs := [5, 6, 7]) (by kernel_rfl) (by simp) ?_
    refine AllReadyH.cons (o := { dst := some 37, op := Op.call { callee := Callee.value (Operand.func 25), args := #[Operand.tmp 35, Operand.tmp 36], argTypes := #[25, 3] }, type := 25, pos := "law.go:106", after := #[{ on := 3, ground := Ground.data }, { on := 4, ground := Ground.data }, { on := 2, ground := Ground.chain }], guard := none }) rfl (fun K hK => ?_) (AllReadyH.cons (o := { dst := some 7, op := Op.alloc 25, type := 0, pos := "law.go:106", after := #[], guard := none }) rfl (fun K hK => ?_) (AllReadyH.cons (o := { dst := some 8, op := Op.alloc 25, type := 0, pos := "law.go:106", after := #[], guard := none }) rfl (fun K hK => ?_) AllReadyH.nil))
    · go_simp
      refine (orename_any z10 _ sb k (Fb9.out.bel B10.out) Kb.out).mono ?_
      rintro e z11 ⟨v11, rfl, hsh, hb⟩
      have B11 := hid (B10.out.trans (hb.mono B10.out.size))
      have Fr11 := hid (Fr10.out.bel hb)
      clear B10 Fr10
      rw [Z.out.rb] at hsh
      have Fs11 := hid hsh.at
      obtain ⟨aq, cq, bq, dq, rfl⟩ := hsh.at.form
      clear hsh hb
      refine hK.out _ _ (KH.out _ B11.out) (fun hHeld => ?_)
      clear hK
      refine wpAnyH_ready (rs := [6, 7]) (by kernel_rfl) (by simp) ?_
      refine AllReadyH.cons (o := { dst := some 7, op := Op.alloc 25, type := 0, pos := "law.go:106", after := #[], guard := none }) rfl (fun K hK => ?_) (AllReadyH.cons (o := { dst := some 8, op := Op.alloc 25, type := 0, pos := "law.go:106", after := #[], guard := none }) rfl (fun K hK => ?_) AllReadyH.nil)
      · obtain ⟨z12, hzz12⟩ : ∃ W, z11.alloc (.cells #[.slice none 0 0, .slice none 0 0] 25) = W := ⟨_, rfl⟩
        go_simp
        have hb : Below z11.heap.size z11 z12 := by rw [← hzz12]; exact (gr_new _ _).below
        have Nz7 : Hid (z12.heap[z11.heap.size]? = some (.cells #[.slice none 0 0, .slice none 0 0] 25 (0, 0))) := by unfold Hid; rw [← hzz12]; exact new_at _ _
        have Gz7 : Hid (w9.heap.size ≤ z11.heap.size) := B11.out.size
        have B12 := hid (B11.out.trans (hb.mono B11.out.size))
        have Fr12 := hid (Fr11.out.bel hb)
        have Fs12 := hid (Fs11.out.bel hb)
        clear B11 Fr11 Fs11
        clear hb hzz12
        refine hK.out _ _ (KH.out _ B12.out) (fun hHeld => ?_)
        clear hK
        refine wpAnyH_ready (rs := [7]) (by kernel_rfl) (by simp) ?_
        refine AllReadyH.cons (o := { dst := some 8, op := Op.alloc 25, type := 0, pos := "law.go:106", after := #[], guard := none }) rfl (fun K hK => ?_) AllReadyH.nil
        obtain ⟨z13, hzz13⟩ : ∃ W, z12.alloc (.cells #[.slice none 0 0, .slice none 0 0] 25) = W := ⟨_, rfl⟩
        go_simp
        have hb : Below z12.heap.size z12 z13 := by rw [← hzz13]; exact (gr_new _ _).below
        have Nz8 : Hid (z13.heap[z12.heap.size]? = some (.cells #[.slice none 0 0, .slice none 0 0] 25 (0, 0))) := by unfold Hid; rw [← hzz13]; exact new_at _ _
        have Gz8 : Hid (w9.heap.size ≤ z12.heap.size) := B12.out.size
        have GD : Hid (z11.heap.size < z12.heap.size) := (Array.getElem?_eq_some_iff.1 Nz7.out).1
        have B13 := hid (B12.out.trans (hb.mono B12.out.size))
        have Fr13 := hid (Fr12.out.bel hb)
        have Fs13 := hid (Fs12.out.bel hb)
        have Fz713 := hid (bx_bel Nz7.out hb)
        clear B12 Fr12 Fs12 Nz7
        clear hb hzz13
        refine hK.out _ _ (KH.out _ B13.out) (fun hHeld => ?_)
        clear hK
        refine wpAnyH_ready (rs := [8]) (by kernel_rfl) (by simp) ?_
        refine AllReadyH.cons (o := { dst := none, op := Op.store 25 (Operand.tmp 7) (Operand.tmp 34), type := 0, pos := "law.go:106", after := #[{ on := 6, ground := Ground.data }, { on := 2, ground := Ground.data }, { on := 5, ground := Ground.chain }, { on := 0, ground := Ground.phase }, { on := 1, ground := Ground.phase }, { on := 2, ground := Ground.phase }, { on := 3, ground := Ground.textOnly Departure.lateStores }, { on := 4, ground := Ground.textOnly Departure.lateStores }, { on := 5, ground := Ground.textOnly Departure.lateStoresUnsure }, { on := 6, ground := Ground.phase }, { on := 7, ground := Ground.phase }], guard := none }) rfl (fun K hK => ?_) AllReadyH.nil
        obtain ⟨y0, y1, yf⟩ := cells2 Fz713.out
        go_simp
        clear y0 y1 yf
        obtain ⟨z14, hzz14⟩ : ∃ W, ((z13.setCell ⟨z11.heap.size, 0, none⟩ (.slice ar sr.fs.length cr)).setCell ⟨z11.heap.size, 1, none⟩ (.slice br sr.pr.length dr)) = W := ⟨_, rfl⟩
        have B14 : Hid (Below w9.heap.size w9 z14) := by unfold Hid; rw [← hzz14]; exact set2b B13.out Gz7.out _ _
        have Fr14 : Hid (ShAt z14 (.agg #[.slice ar sr.fs.length cr, .slice br sr.pr.length dr]) sr) := by unfold Hid; rw [← hzz14]; exact Fr13.out.off2 Fz713.out _ _
        have Fs14 : Hid (ShAt z14 (.agg #[.slice aq ss.fs.length cq, .slice bq ss.pr.length dq]) ss) := by unfold Hid; rw [← hzz14]; exact Fs13.out.off2 Fz713.out _ _
        have Fz814 : Hid (z14.heap[z12.heap.size]? = some (.cells #[.slice none 0 0, .slice none 0 0] 25 (0, 0))) := by unfold Hid; rw [← hzz14]; exact (box_off (Nat.ne_of_gt GD.out) _ _).trans Nz8.out
        have Fz714 : Hid (z14.heap[z11.heap.size]? = some (.cells #[(.slice ar sr.fs.length cr), (.slice br sr.pr.length dr)] 25 (0, 0))) := by unfold Hid; rw [← hzz14]; exact box_set2 Fz713.out _ _
        clear B13 Fr13 Fs13 Fz713 Nz8
        try rw [hzz14]
        clear hzz14
        refine hK.out _ _ (KH.out _ B14.out) (fun hHeld => ?_)
        clear hK
        refine wpAnyH_ready (rs := [9]) (by kernel_rfl) (by simp) ?_
        refine AllReadyH.cons (o := { dst := none, op := Op.store 25 (Operand.tmp 8) (Operand.tmp 37), type := 0, pos := "law.go:106", after := #[{ on := 7, ground := Ground.data }, { on := 5, ground := Ground.data }, { on := 8, ground := Ground.chain }, { on := 0, ground := Ground.phase }, { on := 1, ground := Ground.phase }, { on := 2, ground := Ground.phase }, { on := 3, ground := Ground.phase }, { on := 4, ground := Ground.phase }, { on := 5, ground := Ground.phase }, { on := 6, ground := Ground.phase }, { on := 7, ground := Ground.phase }, { on := 8, ground := Ground.phase }], guard := none }) rfl (fun K hK => ?_) AllReadyH.nil
        obtain ⟨y0, y1, yf⟩ := cells2 Fz814.out
        go_simp
        clear y0 y1 yf
        obtain ⟨z15, hzz15⟩ : ∃ W, ((z14.setCell ⟨z12.heap.size, 0, none⟩ (.slice aq ss.fs.length cq)).setCell ⟨z12.heap.size, 1, none⟩ (.slice bq ss.pr.length dq)) = W := ⟨_, rfl⟩
        have B15 : Hid (Below w9.heap.size w9 z15) := by unfold Hid; rw [← hzz15]; exact set2b B14.out Gz8.out _ _
        have Fr15 : Hid (ShAt z15 (.agg #[.slice ar sr.fs.length cr, .slice br sr.pr.length dr]) sr) := by unfold Hid; rw [← hzz15]; exact Fr14.out.off2 Fz814.out _ _
        have Fs15 : Hid (ShAt z15 (.agg #[.slice aq ss.fs.length cq, .slice bq ss.pr.length dq]) ss) := by unfold Hid; rw [← hzz15]; exact Fs14.out.off2 Fz814.out _ _
        have Fz715 : Hid (z15.heap[z11.heap.size]? = some (.cells #[.slice ar sr.fs.length cr, .slice br sr.pr.length dr] 25 (0, 0))) := by unfold Hid; rw [← hzz15]; exact (box_off (Nat.ne_of_lt GD.out) _ _).trans Fz714.out
        have Fz815 : Hid (z15.heap[z12.heap.size]? = some (.cells #[(.slice aq ss.fs.length cq), (.slice bq ss.pr.length dq)] 25 (0, 0))) := by unfold Hid; rw [← hzz15]; exact box_set2 Fz814.out _ _
        clear B14 Fr14 Fs14 Fz814 Fz714
        try rw [hzz15]
        clear hzz15
        refine hK.out _ _ (KH.out _ B15.out) (fun hHeld => ?_)
        clear hK
        refine wpAnyH_done (by kernel_rfl) ?_ _
        show K3 _ _
        exact tail.out _ _ _ _ _ _ _ _ _ _ _ (B9.out.trans (B15.out.mono B9.out.size)) (Fa9.out.bel B15.out) (Fb9.out.bel B15.out) Fr15.out Fs15.out (bx_bel Fba9.out B15.out) (bx_bel Fbb9.out B15.out) Fz715.out Fz815.out
      · obtain ⟨z12, hzz12⟩ : ∃ W, z11.alloc (.cells #[.slice none 0 0, .slice none 0 0] 25) = W := ⟨_, rfl⟩
        go_simp
        have hb : Below z11.heap.size z11 z12 := by rw [← hzz12]; exact (gr_new _ _).below
        have Nz8 : Hid (z12.heap[z11.heap.size]? = some (.cells #[.slice none 0 0, .slice none 0 0] 25 (0, 0))) := by unfold Hid; rw [← hzz12]; exact new_at _ _
        have Gz8 : Hid (w9.heap.size ≤ z11.heap.size) := B11.out.size
        have B12 := hid (B11.out.trans (hb.mono B11.out.size))
        have Fr12 := hid (Fr11.out.bel hb)
        have Fs12 := hid (Fs11.out.bel hb)
        clear B11 Fr11 Fs11
        clear hb hzz12
        refine hK.out _ _ (KH.out _ B12.out) (fun hHeld => ?_)
        clear hK
        refine wpAnyH_ready (rs := [6]) (by kernel_rfl) (by simp) ?_
        refine AllReadyH.cons (o := { dst := some 7, op := Op.alloc 25, type := 0, pos := "law.go:106", after := #[], guard := none }) rfl (fun K hK => ?_) AllReadyH.nil
        obtain ⟨z13, hzz13⟩ : ∃ W, z12.alloc (.cells #[.slice none 0 0, .slice none 0 0] 25) = W := ⟨_, rfl⟩
        go_simp
        have hb : Below z12.heap.size z12 z13 := by rw [← hzz13]; exact (gr_new _ _).below
        have Nz7 : Hid (z13.heap[z12.heap.size]? = some (.cells #[.slice none 0 0, .slice none 0 0] 25 (0, 0))) := by unfold Hid; rw [← hzz13]; exact new_at _ _
        have Gz7 : Hid (w9.heap.size ≤ z12.heap.size) := B12.out.size
        have GD : Hid (z11.heap.size < z12.heap.size) := (Array.getElem?_eq_some_iff.1 Nz8.out).1
        have B13 := hid (B12.out.trans (hb.mono B12.out.size))
        have Fr13 := hid (Fr12.out.bel hb)
        have Fs13 := hid (Fs12.out.bel hb)
        have Fz813 := hid (bx_bel Nz8.out hb)
        clear B12 Fr12 Fs12 Nz8
        clear hb hzz13
        refine hK.out _ _ (KH.out _ B13.out) (fun hHeld => ?_)
        clear hK
        refine wpAnyH_ready (rs := [8]) (by kernel_rfl) (by simp) ?_
        refine AllReadyH.cons (o := { dst := none, op := Op.store 25 (Operand.tmp 7) (Operand.tmp 34), type := 0, pos := "law.go:106", after := #[{ on := 6, ground := Ground.data }, { on := 2, ground := Ground.data }, { on := 5, ground := Ground.chain }, { on := 0, ground := Ground.phase }, { on := 1, ground := Ground.phase }, { on := 2, ground := Ground.phase }, { on := 3, ground := Ground.textOnly Departure.lateStores }, { on := 4, ground := Ground.textOnly Departure.lateStores }, { on := 5, ground := Ground.textOnly Departure.lateStoresUnsure }, { on := 6, ground := Ground.phase }, { on := 7, ground := Ground.phase }], guard := none }) rfl (fun K hK => ?_) AllReadyH.nil
        obtain ⟨y0, y1, yf⟩ := cells2 Nz7.out
        go_simp
        clear y0 y1 yf
        obtain ⟨z14, hzz14⟩ : ∃ W, ((z13.setCell ⟨z12.heap.size, 0, none⟩ (.slice ar sr.fs.length cr)).setCell ⟨z12.heap.size, 1, none⟩ (.slice br sr.pr.length dr)) = W := ⟨_, rfl⟩
        have B14 : Hid (Below w9.heap.size w9 z14) := by unfold Hid; rw [← hzz14]; exact set2b B13.out Gz7.out _ _
        have Fr14 : Hid (ShAt z14 (.agg #[.slice ar sr.fs.length cr, .slice br sr.pr.length dr]) sr) := by unfold Hid; rw [← hzz14]; exact Fr13.out.off2 Nz7.out _ _
        have Fs14 : Hid (ShAt z14 (.agg #[.slice aq ss.fs.length cq, .slice bq ss.pr.length dq]) ss) := by unfold Hid; rw [← hzz14]; exact Fs13.out.off2 Nz7.out _ _
        have Fz814 : Hid (z14.heap[z11.heap.size]? = some (.cells #[.slice none 0 0, .slice none 0 0] 25 (0, 0))) := by unfold Hid; rw [← hzz14]; exact (box_off (Nat.ne_of_lt GD.out) _ _).trans Fz813.out
        have Fz714 : Hid (z14.heap[z12.heap.size]? = some (.cells #[(.slice ar sr.fs.length cr), (.slice br sr.pr.length dr)] 25 (0, 0))) := by unfold Hid; rw [← hzz14]; exact box_set2 Nz7.out _ _
        clear B13 Fr13 Fs13 Nz7 Fz813
        try rw [hzz14]
        clear hzz14
        refine hK.out _ _ (KH.out _ B14.out) (fun hHeld => ?_)
        clear hK
        refine wpAnyH_ready (rs := [9]) (by kernel_rfl) (by simp) ?_
        refine AllReadyH.cons (o := { dst := none, op := Op.store 25 (Operand.tmp 8) (Operand.tmp 37), type := 0, pos := "law.go:106", after := #[{ on := 7, ground := Ground.data }, { on := 5, ground := Ground.data }, { on := 8, ground := Ground.chain }, { on := 0, ground := Ground.phase }, { on := 1, ground := Ground.phase }, { on := 2, ground := Ground.phase }, { on := 3, ground := Ground.phase }, { on := 4, ground := Ground.phase }, { on := 5, ground := Ground.phase }, { on := 6, ground := Ground.phase }, { on := 7, ground := Ground.phase }, { on := 8, ground := Ground.phase }], guard := none }) rfl (fun K hK => ?_) AllReadyH.nil
        obtain ⟨y0, y1, yf⟩ := cells2 Fz814.out
        go_simp
        clear y0 y1 yf
        obtain ⟨z15, hzz15⟩ : ∃ W, ((z14.setCell ⟨z11.heap.size, 0, none⟩ (.slice aq ss.fs.length cq)).setCell ⟨z11.heap.size, 1, none⟩ (.slice bq ss.pr.length dq)) = W := ⟨_, rfl⟩
        have B15 : Hid (Below w9.heap.size w9 z15) := by unfold Hid; rw [← hzz15]; exact set2b B14.out Gz8.out _ _
        have Fr15 : Hid (ShAt z15 (.agg #[.slice ar sr.fs.length cr, .slice br sr.pr.length dr]) sr) := by unfold Hid; rw [← hzz15]; exact Fr14.out.off2 Fz814.out _ _
        have Fs15 : Hid (ShAt z15 (.agg #[.slice aq ss.fs.length cq, .slice bq ss.pr.length dq]) ss) := by unfold Hid; rw [← hzz15]; exact Fs14.out.off2 Fz814.out _ _
        have Fz715 : Hid (z15.heap[z12.heap.size]? = some (.cells #[.slice ar sr.fs.length cr, .slice br sr.pr.length dr] 25 (0, 0))) := by unfold Hid; rw [← hzz15]; exact (box_off (Nat.ne_of_gt GD.out) _ _).trans Fz714.out
        have Fz815 : Hid (z15.heap[z11.heap.size]? = some (.cells #[(.slice aq ss.fs.length cq), (.slice bq ss.pr.length dq)] 25 (0, 0))) := by unfold Hid; rw [← hzz15]; exact box_set2 Fz814.out _ _
        clear B14 Fr14 Fs14 Fz814 Fz714
        try rw [hzz15]
        clear hzz15
        refine hK.out _ _ (KH.out _ B15.out) (fun hHeld => ?_)
        clear hK
        refine wpAnyH_done (by kernel_rfl) ?_ _
        show K3 _ _
        exact tail.out _ _ _ _ _ _ _ _ _ _ _ (B9.out.trans (B15.out.mono B9.out.size)) (Fa9.out.bel B15.out) (Fb9.out.bel B15.out) Fr15.out Fs15.out (bx_bel Fba9.out B15.out) (bx_bel Fbb9.out B15.out) Fz715.out Fz815.out
    · obtain ⟨z11, hzz11⟩ : ∃ W, z10.alloc (.cells #[.slice none 0 0, .slice none 0 0] 25) = W := ⟨_, rfl⟩
      go_simp
      have hb : Below z10.heap.size z10 z11 := by rw [← hzz11]; exact (gr_new _ _).below
      have Nz7 : Hid (z11.heap[z10.heap.size]? = some (.cells #[.slice none 0 0, .slice none 0 0] 25 (0, 0))) := by unfold Hid; rw [← hzz11]; exact new_at _ _
      have Gz7 : Hid (w9.heap.size ≤ z10.heap.size) := B10.out.size
      have B11 := hid (B10.out.trans (hb.mono B10.out.size))
      have Fr11 := hid (Fr10.out.bel hb)
      clear B10 Fr10
      clear hb hzz11
      refine hK.out _ _ (KH.out _ B11.out) (fun hHeld => ?_)
      clear hK
      refine wpAnyH_ready (rs := [5, 7]) (by kernel_rfl) (by simp) ?_
      refine AllReadyH.cons (o := { dst := some 37, op := Op.call { callee := Callee.value (Operand.func 25), args := #[Operand.tmp 35, Operand.tmp 36], argTypes := #[25, 3] }, type := 25, pos := "law.go:106", after := #[{ on := 3, ground := Ground.data }, { on := 4, ground := Ground.data }, { on := 2, ground := Ground.chain }], guard := none }) rfl (fun K hK => ?_) (AllReadyH.cons (o := { dst := some 8, op := Op.alloc 25, type := 0, pos := "law.go:106", after := #[], guard := none }) rfl (fun K hK => ?_) AllReadyH.nil)
      · go_simp
        refine (orename_any z11 _ sb k (Fb9.out.bel B11.out) Kb.out).mono ?_
        rintro e z12 ⟨v12, rfl, hsh, hb⟩
        have B12 := hid (B11.out.trans (hb.mono B11.out.size))
        have Fr12 := hid (Fr11.out.bel hb)
        have Fz712 := hid (bx_bel Nz7.out hb)
        clear B11 Fr11 Nz7
        rw [Z.out.rb] at hsh
        have Fs12 := hid hsh.at
        obtain ⟨aq, cq, bq, dq, rfl⟩ := hsh.at.form
        clear hsh hb
        refine hK.out _ _ (KH.out _ B12.out) (fun hHeld => ?_)
        clear hK
        refine wpAnyH_ready (rs := [7]) (by kernel_rfl) (by simp) ?_
        refine AllReadyH.cons (o := { dst := some 8, op := Op.alloc 25, type := 0, pos := "law.go:106", after := #[], guard := none }) rfl (fun K hK => ?_) AllReadyH.nil
        obtain ⟨z13, hzz13⟩ : ∃ W, z12.alloc (.cells #[.slice none 0 0, .slice none 0 0] 25) = W := ⟨_, rfl⟩
        go_simp
        have hb : Below z12.heap.size z12 z13 := by rw [← hzz13]; exact (gr_new _ _).below
        have Nz8 : Hid (z13.heap[z12.heap.size]? = some (.cells #[.slice none 0 0, .slice none 0 0] 25 (0, 0))) := by unfold Hid; rw [← hzz13]; exact new_at _ _
        have Gz8 : Hid (w9.heap.size ≤ z12.heap.size) := B12.out.size
        have GD : Hid (z10.heap.size < z12.heap.size) := (Array.getElem?_eq_some_iff.1 Fz712.out).1
        have B13 := hid (B12.out.trans (hb.mono B12.out.size))
        have Fr13 := hid (Fr12.out.bel hb)
        have Fz713 := hid (bx_bel Fz712.out hb)
        have Fs13 := hid (Fs12.out.bel hb)
        clear B12 Fr12 Fz712 Fs12
        clear hb hzz13
        refine hK.out _ _ (KH.out _ B13.out) (fun hHeld => ?_)
        clear hK
        refine wpAnyH_ready (rs := [8]) (by kernel_rfl) (by simp) ?_
        refine AllReadyH.cons (o := { dst := none, op := Op.store 25 (Operand.tmp 7) (Operand.tmp 34), type := 0, pos := "law.go:106", after := #[{ on := 6, ground := Ground.data }, { on := 2, ground := Ground.data }, { on := 5, ground := Ground.chain }, { on := 0, ground := Ground.phase }, { on := 1, ground := Ground.phase }, { on := 2, ground := Ground.phase }, { on := 3, ground := Ground.textOnly Departure.lateStores }, { on := 4, ground := Ground.textOnly Departure.lateStores }, { on := 5, ground := Ground.textOnly Departure.lateStoresUnsure }, { on := 6, ground := Ground.phase }, { on := 7, ground := Ground.phase }], guard := none }) rfl (fun K hK => ?_) AllReadyH.nil
        obtain ⟨y0, y1, yf⟩ := cells2 Fz713.out
        go_simp
        clear y0 y1 yf
        obtain ⟨z14, hzz14⟩ : ∃ W, ((z13.setCell ⟨z10.heap.size, 0, none⟩ (.slice ar sr.fs.length cr)).setCell ⟨z10.heap.size, 1, none⟩ (.slice br sr.pr.length dr)) = W := ⟨_, rfl⟩
        have B14 : Hid (Below w9.heap.size w9 z14) := by unfold Hid; rw [← hzz14]; exact set2b B13.out Gz7.out _ _
        have Fr14 : Hid (ShAt z14 (.agg #[.slice ar sr.fs.length cr, .slice br sr.pr.length dr]) sr) := by unfold Hid; rw [← hzz14]; exact Fr13.out.off2 Fz713.out _ _
        have Fs14 : Hid (ShAt z14 (.agg #[.slice aq ss.fs.length cq, .slice bq ss.pr.length dq]) ss) := by unfold Hid; rw [← hzz14]; exact Fs13.out.off2 Fz713.out _ _
        have Fz814 : Hid (z14.heap[z12.heap.size]? = some (.cells #[.slice none 0 0, .slice none 0 0] 25 (0, 0))) := by unfold Hid; rw [← hzz14]; exact (box_off (Nat.ne_of_gt GD.out) _ _).trans Nz8.out
        have Fz714 : Hid (z14.heap[z10.heap.size]? = some (.cells #[(.slice ar sr.fs.length cr), (.slice br sr.pr.length dr)] 25 (0, 0))) := by unfold Hid; rw [← hzz14]; exact box_set2 Fz713.out _ _
        clear B13 Fr13 Fs13 Fz713 Nz8
        try rw [hzz14]
        clear hzz14
        refine hK.out _ _ (KH.out _ B14.out) (fun hHeld => ?_)
        clear hK
        refine wpAnyH_ready (rs := [9]) (by kernel_rfl) (by simp) ?_
        refine AllReadyH.cons (o := { dst := none, op := Op.store 25 (Operand.tmp 8) (Operand.tmp 37), type := 0, pos := "law.go:106", after := #[{ on := 7, ground := Ground.data }, { on := 5, ground := Ground.data }, { on := 8, ground := Ground.chain }, { on := 0, ground := Ground.phase }, { on := 1, ground := Ground.phase }, { on := 2, ground := Ground.phase }, { on := 3, ground := Ground.phase }, { on := 4, ground := Ground.phase }, { on := 5, ground := Ground.phase }, { on := 6, ground := Ground.phase }, { on := 7, ground := Ground.phase }, { on := 8, ground := Ground.phase }], guard := none }) rfl (fun K hK => ?_) AllReadyH.nil
        obtain ⟨y0, y1, yf⟩ := cells2 Fz814.out
        go_simp
        clear y0 y1 yf
        obtain ⟨z15, hzz15⟩ : ∃ W, ((z14.setCell ⟨z12.heap.size, 0, none⟩ (.slice aq ss.fs.length cq)).setCell ⟨z12.heap.size, 1, none⟩ (.slice bq ss.pr.length dq)) = W := ⟨_, rfl⟩
        have B15 : Hid (Below w9.heap.size w9 z15) := by unfold Hid; rw [← hzz15]; exact set2b B14.out Gz8.out _ _
        have Fr15 : Hid (ShAt z15 (.agg #[.slice ar sr.fs.length cr, .slice br sr.pr.length dr]) sr) := by unfold Hid; rw [← hzz15]; exact Fr14.out.off2 Fz814.out _ _
        have Fs15 : Hid (ShAt z15 (.agg #[.slice aq ss.fs.length cq, .slice bq ss.pr.length dq]) ss) := by unfold Hid; rw [← hzz15]; exact Fs14.out.off2 Fz814.out _ _
        have Fz715 : Hid (z15.heap[z10.heap.size]? = some (.cells #[.slice ar sr.fs.length cr, .slice br sr.pr.length dr] 25 (0, 0))) := by unfold Hid; rw [← hzz15]; exact (box_off (Nat.ne_of_lt GD.out) _ _).trans Fz714.out
        have Fz815 : Hid (z15.heap[z12.heap.size]? = some (.cells #[(.slice aq ss.fs.length cq), (.slice bq ss.pr.length dq)] 25 (0, 0))) := by unfold Hid; rw [← hzz15]; exact box_set2 Fz814.out _ _
        clear B14 Fr14 Fs14 Fz814 Fz714
        try rw [hzz15]
        clear hzz15
        refine hK.out _ _ (KH.out _ B15.out) (fun hHeld => ?_)
        clear hK
        refine wpAnyH_done (by kernel_rfl) ?_ _
        show K3 _ _
        exact tail.out _ _ _ _ _ _ _ _ _ _ _ (B9.out.trans (B15.out.mono B9.out.size)) (Fa9.out.bel B15.out) (Fb9.out.bel B15.out) Fr15.out Fs15.out (bx_bel Fba9.out B15.out) (bx_bel Fbb9.out B15.out) Fz715.out Fz815.out
      · obtain ⟨z12, hzz12⟩ : ∃ W, z11.alloc (.cells #[.slice none 0 0, .slice none 0 0] 25) = W := ⟨_, rfl⟩
        go_simp
        have hb : Below z11.heap.size z11 z12 := by rw [← hzz12]; exact (gr_new _ _).below
        have Nz8 : Hid (z12.heap[z11.heap.size]? = some (.cells #[.slice none 0 0, .slice none 0 0] 25 (0, 0))) := by unfold Hid; rw [← hzz12]; exact new_at _ _
        have Gz8 : Hid (w9.heap.size ≤ z11.heap.size) := B11.out.size
        have GD : Hid (z10.heap.size < z11.heap.size) := (Array.getElem?_eq_some_iff.1 Nz7.out).1
        have B12 := hid (B11.out.trans (hb.mono B11.out.size))
        have Fr12 := hid (Fr11.out.bel hb)
        have Fz712 := hid (bx_bel Nz7.out hb)
        clear B11 Fr11 Nz7
        clear hb hzz12
        refine hK.out _ _ (KH.out _ B12.out) (fun hHeld => ?_)
        clear hK
        refine wpAnyH_ready (rs := [5]) (by kernel_rfl) (by simp) ?_
        refine AllReadyH.cons (o := { dst := some 37, op := Op.call { callee := Callee.value (Operand.func 25), args := #[Operand.tmp 35, Operand.tmp 36], argTypes := #[25, 3] }, type := 25, pos := "law.go:106", after := #[{ on := 3, ground := Ground.data }, { on := 4, ground := Ground.data }, { on := 2, ground := Ground.chain }], guard := none }) rfl (fun K hK => ?_) AllReadyH.nil
        go_simp
        refine (orename_any z12 _ sb k (Fb9.out.bel B12.out) Kb.out).mono ?_
        rintro e z13 ⟨v13, rfl, hsh, hb⟩
        have B13 := hid (B12.out.trans (hb.mono B12.out.size))
        have Fr13 := hid (Fr12.out.bel hb)
        have Fz713 := hid (bx_bel Fz712.out hb)
        have Fz813 := hid (bx_bel Nz8.out hb)
        clear B12 Fr12 Fz712 Nz8
        rw [Z.out.rb] at hsh
        have Fs13 := hid hsh.at
        obtain ⟨aq, cq, bq, dq, rfl⟩ := hsh.at.form
        clear hsh hb
        refine hK.out _ _ (KH.out _ B13.out) (fun hHeld => ?_)
        clear hK
        refine wpAnyH_ready (rs := [8]) (by kernel_rfl) (by simp) ?_
        refine AllReadyH.cons (o := { dst := none, op := Op.store 25 (Operand.tmp 7) (Operand.tmp 34), type := 0, pos := "law.go:106", after := #[{ on := 6, ground := Ground.data }, { on := 2, ground := Ground.data }, { on := 5, ground := Ground.chain }, { on := 0, ground := Ground.phase }, { on := 1, ground := Ground.phase }, { on := 2, ground := Ground.phase }, { on := 3, ground := Ground.textOnly Departure.lateStores }, { on := 4, ground := Ground.textOnly Departure.lateStores }, { on := 5, ground := Ground.textOnly Departure.lateStoresUnsure }, { on := 6, ground := Ground.phase }, { on := 7, ground := Ground.phase }], guard := none }) rfl (fun K hK => ?_) AllReadyH.nil
        obtain ⟨y0, y1, yf⟩ := cells2 Fz713.out
        go_simp
        clear y0 y1 yf
        obtain ⟨z14, hzz14⟩ : ∃ W, ((z13.setCell ⟨z10.heap.size, 0, none⟩ (.slice ar sr.fs.length cr)).setCell ⟨z10.heap.size, 1, none⟩ (.slice br sr.pr.length dr)) = W := ⟨_, rfl⟩
        have B14 : Hid (Below w9.heap.size w9 z14) := by unfold Hid; rw [← hzz14]; exact set2b B13.out Gz7.out _ _
        have Fr14 : Hid (ShAt z14 (.agg #[.slice ar sr.fs.length cr, .slice br sr.pr.length dr]) sr) := by unfold Hid; rw [← hzz14]; exact Fr13.out.off2 Fz713.out _ _
        have Fs14 : Hid (ShAt z14 (.agg #[.slice aq ss.fs.length cq, .slice bq ss.pr.length dq]) ss) := by unfold Hid; rw [← hzz14]; exact Fs13.out.off2 Fz713.out _ _
        have Fz814 : Hid (z14.heap[z11.heap.size]? = some (.cells #[.slice none 0 0, .slice none 0 0] 25 (0, 0))) := by unfold Hid; rw [← hzz14]; exact (box_off (Nat.ne_of_gt GD.out) _ _).trans Fz813.out
        have Fz714 : Hid (z14.heap[z10.heap.size]? = some (.cells #[(.slice ar sr.fs.length cr), (.slice br sr.pr.length dr)] 25 (0, 0))) := by unfold Hid; rw [← hzz14]; exact box_set2 Fz713.out _ _
        clear B13 Fr13 Fs13 Fz713 Fz813
        try rw [hzz14]
        clear hzz14
        refine hK.out _ _ (KH.out _ B14.out) (fun hHeld => ?_)
        clear hK
        refine wpAnyH_ready (rs := [9]) (by kernel_rfl) (by simp) ?_
        refine AllReadyH.cons (o := { dst := none, op := Op.store 25 (Operand.tmp 8) (Operand.tmp 37), type := 0, pos := "law.go:106", after := #[{ on := 7, ground := Ground.data }, { on := 5, ground := Ground.data }, { on := 8, ground := Ground.chain }, { on := 0, ground := Ground.phase }, { on := 1, ground := Ground.phase }, { on := 2, ground := Ground.phase }, { on := 3, ground := Ground.phase }, { on := 4, ground := Ground.phase }, { on := 5, ground := Ground.phase }, { on := 6, ground := Ground.phase }, { on := 7, ground := Ground.phase }, { on := 8, ground := Ground.phase }], guard := none }) rfl (fun K hK => ?_) AllReadyH.nil
        obtain ⟨y0, y1, yf⟩ := cells2 Fz814.out
        go_simp
        clear y0 y1 yf
        obtain ⟨z15, hzz15⟩ : ∃ W, ((z14.setCell ⟨z11.heap.size, 0, none⟩ (.slice aq ss.fs.length cq)).setCell ⟨z11.heap.size, 1, none⟩ (.slice bq ss.pr.length dq)) = W := ⟨_, rfl⟩
        have B15 : Hid (Below w9.heap.size w9 z15) := by unfold Hid; rw [← hzz15]; exact set2b B14.out Gz8.out _ _
        have Fr15 : Hid (ShAt z15 (.agg #[.slice ar sr.fs.length cr, .slice br sr.pr.length dr]) sr) := by unfold Hid; rw [← hzz15]; exact Fr14.out.off2 Fz814.out _ _
        have Fs15 : Hid (ShAt z15 (.agg #[.slice aq ss.fs.length cq, .slice bq ss.pr.length dq]) ss) := by unfold Hid; rw [← hzz15]; exact Fs14.out.off2 Fz814.out _ _
        have Fz715 : Hid (z15.heap[z10.heap.size]? = some (.cells #[.slice ar sr.fs.length cr, .slice br sr.pr.length dr] 25 (0, 0))) := by unfold Hid; rw [← hzz15]; exact (box_off (Nat.ne_of_lt GD.out) _ _).trans Fz714.out
        have Fz815 : Hid (z15.heap[z11.heap.size]? = some (.cells #[(.slice aq ss.fs.length cq), (.slice bq ss.pr.length dq)] 25 (0, 0))) := by unfold Hid; rw [← hzz15]; exact box_set2 Fz814.out _ _
        clear B14 Fr14 Fs14 Fz814 Fz714
        try rw [hzz15]
        clear hzz15
        refine hK.out _ _ (KH.out _ B15.out) (fun hHeld => ?_)
        clear hK
        refine wpAnyH_done (by kernel_rfl) ?_ _
        show K3 _ _
        exact tail.out _ _ _ _ _ _ _ _ _ _ _ (B9.out.trans (B15.out.mono B9.out.size)) (Fa9.out.bel B15.out) (Fb9.out.bel B15.out) Fr15.out Fs15.out (bx_bel Fba9.out B15.out) (bx_bel Fbb9.out B15.out) Fz715.out Fz815.out
    · obtain ⟨z11, hzz11⟩ : ∃ W, z10.alloc (.cells #[.slice none 0 0, .slice none 0 0] 25) = W := ⟨_, rfl⟩
      go_simp
      have hb : Below z10.heap.size z10 z11 := by rw [← hzz11]; exact (gr_new _ _).below
      have Nz8 : Hid (z11.heap[z10.heap.size]? = some (.cells #[.slice none 0 0, .slice none 0 0] 25 (0, 0))) := by unfold Hid; rw [← hzz11]; exact new_at _ _
      have Gz8 : Hid (w9.heap.size ≤ z10.heap.size) := B10.out.size
      have B11 := hid (B10.out.trans (hb.mono B10.out.size))
      have Fr11 := hid (Fr10.out.bel hb)
      clear B10 Fr10
      clear hb hzz11
      refine hK.out _ _ (KH.out _ B11.out) (fun hHeld => ?_)
      clear hK
      refine wpAnyH_ready (rs := [5, 6]) (by kernel_rfl) (by simp) ?_
      refine AllReadyH.cons (o := { dst := some 37, op := Op.call { callee := Callee.value (Operand.func 25), args := #[Operand.tmp 35, Operand.tmp 36], argTypes := #[25, 3] }, type := 25, pos := "law.go:106", after := #[{ on := 3, ground := Ground.data }, { on := 4, ground := Ground.data }, { on := 2, ground := Ground.chain }], guard := none }) rfl (fun K hK => ?_) (AllReadyH.cons (o := { dst := some 7, op := Op.alloc 25, type := 0, pos := "law.go:106", after := #[], guard := none }) rfl (fun K hK => ?_) AllReadyH.nil)
      · go_simp
        refine (orename_any z11 _ sb k (Fb9.out.bel B11.out) Kb.out).mono ?_
        rintro e z12 ⟨v12, rfl, hsh, hb⟩
        have B12 := hid (B11.out.trans (hb.mono B11.out.size))
        have Fr12 := hid (Fr11.out.bel hb)
        have Fz812 := hid (bx_bel Nz8.out hb)
        clear B11 Fr11 Nz8
        rw [Z.out.rb] at hsh
        have Fs12 := hid hsh.at
        obtain ⟨aq, cq, bq, dq, rfl⟩ := hsh.at.form
        clear hsh hb
        refine hK.out _ _ (KH.out _ B12.out) (fun hHeld => ?_)
        clear hK
        refine wpAnyH_ready (rs := [6]) (by kernel_rfl) (by simp) ?_
        refine AllReadyH.cons (o := { dst := some 7, op := Op.alloc 25, type := 0, pos := "law.go:106", after := #[], guard := none }) rfl (fun K hK => ?_) AllReadyH.nil
        obtain ⟨z13, hzz13⟩ : ∃ W, z12.alloc (.cells #[.slice none 0 0, .slice none 0 0] 25) = W := ⟨_, rfl⟩
        go_simp
        have hb : Below z12.heap.size z12 z13 := by rw [← hzz13]; exact (gr_new _ _).below
        have Nz7 : Hid (z13.heap[z12.heap.size]? = some (.cells #[.slice none 0 0, .slice none 0 0] 25 (0, 0))) := by unfold Hid; rw [← hzz13]; exact new_at _ _
        have Gz7 : Hid (w9.heap.size ≤ z12.heap.size) := B12.out.size
        have GD : Hid (z10.heap.size < z12.heap.size) := (Array.getElem?_eq_some_iff.1 Fz812.out).1
        have B13 := hid (B12.out.trans (hb.mono B12.out.size))
        have Fr13 := hid (Fr12.out.bel hb)
        have Fz813 := hid (bx_bel Fz812.out hb)
        have Fs13 := hid (Fs12.out.bel hb)
        clear B12 Fr12 Fz812 Fs12
        clear hb hzz13
        refine hK.out _ _ (KH.out _ B13.out) (fun hHeld => ?_)
        clear hK
        refine wpAnyH_ready (rs := [8]) (by kernel_rfl) (by simp) ?_
        refine AllReadyH.cons (o := { dst := none, op := Op.store 25 (Operand.tmp 7) (Operand.tmp 34), type := 0, pos := "law.go:106", after := #[{ on := 6, ground := Ground.data }, { on := 2, ground := Ground.data }, { on := 5, ground := Ground.chain }, { on := 0, ground := Ground.phase }, { on := 1, ground := Ground.phase }, { on := 2, ground := Ground.phase }, { on := 3, ground := Ground.textOnly Departure.lateStores }, { on := 4, ground := Ground.textOnly Departure.lateStores }, { on := 5, ground := Ground.textOnly Departure.lateStoresUnsure }, { on := 6, ground := Ground.phase }, { on := 7, ground := Ground.phase }], guard := none }) rfl (fun K hK => ?_) AllReadyH.nil
        obtain ⟨y0, y1, yf⟩ := cells2 Nz7.out
        go_simp
        clear y0 y1 yf
        obtain ⟨z14, hzz14⟩ : ∃ W, ((z13.setCell ⟨z12.heap.size, 0, none⟩ (.slice ar sr.fs.length cr)).setCell ⟨z12.heap.size, 1, none⟩ (.slice br sr.pr.length dr)) = W := ⟨_, rfl⟩
        have B14 : Hid (Below w9.heap.size w9 z14) := by unfold Hid; rw [← hzz14]; exact set2b B13.out Gz7.out _ _
        have Fr14 : Hid (ShAt z14 (.agg #[.slice ar sr.fs.length cr, .slice br sr.pr.length dr]) sr) := by unfold Hid; rw [← hzz14]; exact Fr13.out.off2 Nz7.out _ _
        have Fs14 : Hid (ShAt z14 (.agg #[.slice aq ss.fs.length cq, .slice bq ss.pr.length dq]) ss) := by unfold Hid; rw [← hzz14]; exact Fs13.out.off2 Nz7.out _ _
        have Fz814 : Hid (z14.heap[z10.heap.size]? = some (.cells #[.slice none 0 0, .slice none 0 0] 25 (0, 0))) := by unfold Hid; rw [← hzz14]; exact (box_off (Nat.ne_of_lt GD.out) _ _).trans Fz813.out
        have Fz714 : Hid (z14.heap[z12.heap.size]? = some (.cells #[(.slice ar sr.fs.length cr), (.slice br sr.pr.length dr)] 25 (0, 0))) := by unfold Hid; rw [← hzz14]; exact box_set2 Nz7.out _ _
        clear B13 Fr13 Fs13 Nz7 Fz813
        try rw [hzz14]
        clear hzz14
        refine hK.out _ _ (KH.out _ B14.out) (fun hHeld => ?_)
        clear hK
        refine wpAnyH_ready (rs := [9]) (by kernel_rfl) (by simp) ?_
        refine AllReadyH.cons (o := { dst := none, op := Op.store 25 (Operand.tmp 8) (Operand.tmp 37), type := 0, pos := "law.go:106", after := #[{ on := 7, ground := Ground.data }, { on := 5, ground := Ground.data }, { on := 8, ground := Ground.chain }, { on := 0, ground := Ground.phase }, { on := 1, ground := Ground.phase }, { on := 2, ground := Ground.phase }, { on := 3, ground := Ground.phase }, { on := 4, ground := Ground.phase }, { on := 5, ground := Ground.phase }, { on := 6, ground := Ground.phase }, { on := 7, ground := Ground.phase }, { on := 8, ground := Ground.phase }], guard := none }) rfl (fun K hK => ?_) AllReadyH.nil
        obtain ⟨y0, y1, yf⟩ := cells2 Fz814.out
        go_simp
        clear y0 y1 yf
        obtain ⟨z15, hzz15⟩ : ∃ W, ((z14.setCell ⟨z10.heap.size, 0, none⟩ (.slice aq ss.fs.length cq)).setCell ⟨z10.heap.size, 1, none⟩ (.slice bq ss.pr.length dq)) = W := ⟨_, rfl⟩
        have B15 : Hid (Below w9.heap.size w9 z15) := by unfold Hid; rw [← hzz15]; exact set2b B14.out Gz8.out _ _
        have Fr15 : Hid (ShAt z15 (.agg #[.slice ar sr.fs.length cr, .slice br sr.pr.length dr]) sr) := by unfold Hid; rw [← hzz15]; exact Fr14.out.off2 Fz814.out _ _
        have Fs15 : Hid (ShAt z15 (.agg #[.slice aq ss.fs.length cq, .slice bq ss.pr.length dq]) ss) := by unfold Hid; rw [← hzz15]; exact Fs14.out.off2 Fz814.out _ _
        have Fz715 : Hid (z15.heap[z12.heap.size]? = some (.cells #[.slice ar sr.fs.length cr, .slice br sr.pr.length dr] 25 (0, 0))) := by unfold Hid; rw [← hzz15]; exact (box_off (Nat.ne_of_gt GD.out) _ _).trans Fz714.out
        have Fz815 : Hid (z15.heap[z10.heap.size]? = some (.cells #[(.slice aq ss.fs.length cq), (.slice bq ss.pr.length dq)] 25 (0, 0))) := by unfold Hid; rw [← hzz15]; exact box_set2 Fz814.out _ _
        clear B14 Fr14 Fs14 Fz814 Fz714
        try rw [hzz15]
        clear hzz15
        refine hK.out _ _ (KH.out _ B15.out) (fun hHeld => ?_)
        clear hK
        refine wpAnyH_done (by kernel_rfl) ?_ _
        show K3 _ _
        exact tail.out _ _ _ _ _ _ _ _ _ _ _ (B9.out.trans (B15.out.mono B9.out.size)) (Fa9.out.bel B15.out) (Fb9.out.bel B15.out) Fr15.out Fs15.out (bx_bel Fba9.out B15.out) (bx_bel Fbb9.out B15.out) Fz715.out Fz815.out
      · obtain ⟨z12, hzz12⟩ : ∃ W, z11.alloc (.cells #[.slice none 0 0, .slice none 0 0] 25) = W := ⟨_, rfl⟩
        go_simp
        have hb : Below z11.heap.size z11 z12 := by rw [← hzz12]; exact (gr_new _ _).below
        have Nz7 : Hid (z12.heap[z11.heap.size]? = some (.cells #[.slice none 0 0, .slice none 0 0] 25 (0, 0))) := by unfold Hid; rw [← hzz12]; exact new_at _ _
        have Gz7 : Hid (w9.heap.size ≤ z11.heap.size) := B11.out.size
        have GD : Hid (z10.heap.size < z11.heap.size) := (Array.getElem?_eq_some_iff.1 Nz8.out).1
        have B12 := hid (B11.out.trans (hb.mono B11.out.size))
        have Fr12 := hid (Fr11.out.bel hb)
        have Fz812 := hid (bx_bel Nz8.out hb)
        clear B11 Fr11 Nz8
        clear hb hzz12
        refine hK.out _ _ (KH.out _ B12.out) (fun hHeld => ?_)
        clear hK
        refine wpAnyH_ready (rs := [5]) (by kernel_rfl) (by simp) ?_
        refine AllReadyH.cons (o := { dst := some 37, op := Op.call { callee := Callee.value (Operand.func 25), args := #[Operand.tmp 35, Operand.tmp 36], argTypes := #[25, 3] }, type := 25, pos := "law.go:106", after := #[{ on := 3, ground := Ground.data }, { on := 4, ground := Ground.data }, { on := 2, ground := Ground.chain }], guard := none }) rfl (fun K hK => ?_) AllReadyH.nil
        go_simp
        refine (orename_any z12 _ sb k (Fb9.out.bel B12.out) Kb.out).mono ?_
        rintro e z13 ⟨v13, rfl, hsh, hb⟩
        have B13 := hid (B12.out.trans (hb.mono B12.out.size))
        have Fr13 := hid (Fr12.out.bel hb)
        have Fz813 := hid (bx_bel Fz812.out hb)
        have Fz713 := hid (bx_bel Nz7.out hb)
        clear B12 Fr12 Fz812 Nz7
        rw [Z.out.rb] at hsh
        have Fs13 := hid hsh.at
        obtain ⟨aq, cq, bq, dq, rfl⟩ := hsh.at.form
        clear hsh hb
        refine hK.out _ _ (KH.out _ B13.out) (fun hHeld => ?_)
        clear hK
        refine wpAnyH_ready (rs := [8]) (by kernel_rfl) (by simp) ?_
        refine AllReadyH.cons (o := { dst := none, op := Op.store 25 (Operand.tmp 7) (Operand.tmp 34), type := 0, pos := "law.go:106", after := #[{ on := 6, ground := Ground.data }, { on := 2, ground := Ground.data }, { on := 5, ground := Ground.chain }, { on := 0, ground := Ground.phase }, { on := 1, ground := Ground.phase }, { on := 2, ground := Ground.phase }, { on := 3, ground := Ground.textOnly Departure.lateStores }, { on := 4, ground := Ground.textOnly Departure.lateStores }, { on := 5, ground := Ground.textOnly Departure.lateStoresUnsure }, { on := 6, ground := Ground.phase }, { on := 7, ground := Ground.phase }], guard := none }) rfl (fun K hK => ?_) AllReadyH.nil
        obtain ⟨y0, y1, yf⟩ := cells2 Fz713.out
        go_simp
        clear y0 y1 yf
        obtain ⟨z14, hzz14⟩ : ∃ W, ((z13.setCell ⟨z11.heap.size, 0, none⟩ (.slice ar sr.fs.length cr)).setCell ⟨z11.heap.size, 1, none⟩ (.slice br sr.pr.length dr)) = W := ⟨_, rfl⟩
        have B14 : Hid (Below w9.heap.size w9 z14) := by unfold Hid; rw [← hzz14]; exact set2b B13.out Gz7.out _ _
        have Fr14 : Hid (ShAt z14 (.agg #[.slice ar sr.fs.length cr, .slice br sr.pr.length dr]) sr) := by unfold Hid; rw [← hzz14]; exact Fr13.out.off2 Fz713.out _ _
        have Fs14 : Hid (ShAt z14 (.agg #[.slice aq ss.fs.length cq, .slice bq ss.pr.length dq]) ss) := by unfold Hid; rw [← hzz14]; exact Fs13.out.off2 Fz713.out _ _
        have Fz814 : Hid (z14.heap[z10.heap.size]? = some (.cells #[.slice none 0 0, .slice none 0 0] 25 (0, 0))) := by unfold Hid; rw [← hzz14]; exact (box_off (Nat.ne_of_lt GD.out) _ _).trans Fz813.out
        have Fz714 : Hid (z14.heap[z11.heap.size]? = some (.cells #[(.slice ar sr.fs.length cr), (.slice br sr.pr.length dr)] 25 (0, 0))) := by unfold Hid; rw [← hzz14]; exact box_set2 Fz713.out _ _
        clear B13 Fr13 Fs13 Fz713 Fz813
        try rw [hzz14]
        clear hzz14
        refine hK.out _ _ (KH.out _ B14.out) (fun hHeld => ?_)
        clear hK
        refine wpAnyH_ready (rs := [9]) (by kernel_rfl) (by simp) ?_
        refine AllReadyH.cons (o := { dst := none, op := Op.store 25 (Operand.tmp 8) (Operand.tmp 37), type := 0, pos := "law.go:106", after := #[{ on := 7, ground := Ground.data }, { on := 5, ground := Ground.data }, { on := 8, ground := Ground.chain }, { on := 0, ground := Ground.phase }, { on := 1, ground := Ground.phase }, { on := 2, ground := Ground.phase }, { on := 3, ground := Ground.phase }, { on := 4, ground := Ground.phase }, { on := 5, ground := Ground.phase }, { on := 6, ground := Ground.phase }, { on := 7, ground := Ground.phase }, { on := 8, ground := Ground.phase }], guard := none }) rfl (fun K hK => ?_) AllReadyH.nil
        obtain ⟨y0, y1, yf⟩ := cells2 Fz814.out
        go_simp
        clear y0 y1 yf
        obtain ⟨z15, hzz15⟩ : ∃ W, ((z14.setCell ⟨z10.heap.size, 0, none⟩ (.slice aq ss.fs.length cq)).setCell ⟨z10.heap.size, 1, none⟩ (.slice bq ss.pr.length dq)) = W := ⟨_, rfl⟩
        have B15 : Hid (Below w9.heap.size w9 z15) := by unfold Hid; rw [← hzz15]; exact set2b B14.out Gz8.out _ _
        have Fr15 : Hid (ShAt z15 (.agg #[.slice ar sr.fs.length cr, .slice br sr.pr.length dr]) sr) := by unfold Hid; rw [← hzz15]; exact Fr14.out.off2 Fz814.out _ _
        have Fs15 : Hid (ShAt z15 (.agg #[.slice aq ss.fs.length cq, .slice bq ss.pr.length dq]) ss) := by unfold Hid; rw [← hzz15]; exact Fs14.out.off2 Fz814.out _ _
        have Fz715 : Hid (z15.heap[z11.heap.size]? = some (.cells #[.slice ar sr.fs.length cr, .slice br sr.pr.length dr] 25 (0, 0))) := by unfold Hid; rw [← hzz15]; exact (box_off (Nat.ne_of_gt GD.out) _ _).trans Fz714.out
        have Fz815 : Hid (z15.heap[z10.heap.size]? = some (.cells #[(.slice aq ss.fs.length cq), (.slice bq ss.pr.length dq)] 25 (0, 0))) := by unfold Hid; rw [← hzz15]; exact box_set2 Fz814.out _ _
        clear B14 Fr14 Fs14 Fz814 Fz714
        try rw [hzz15]
        clear hzz15
        refine hK.out _ _ (KH.out _ B15.out) (fun hHeld => ?_)
        clear hK
        refine wpAnyH_done (by kernel_rfl) ?_ _
        show K3 _ _
        exact tail.out _ _ _ _ _ _ _ _ _ _ _ (B9.out.trans (B15.out.mono B9.out.size)) (Fa9.out.bel B15.out) (Fb9.out.bel B15.out) Fr15.out Fs15.out (bx_bel Fba9.out B15.out) (bx_bel Fbb9.out B15.out) Fz715.out Fz815.out
  · obtain ⟨z10, hzz10⟩ : ∃ W, w9.drew.alloc (.cells #[.slice none 0 0, .slice none 0 0] 25) = W := ⟨_, rfl⟩
    go_simp
    have hb : Below w9.drew.heap.size w9.drew z10 := by rw [← hzz10]; exact (gr_new _ _).below
    have Nz7 : Hid (z10.heap[w9.heap.size]? = some (.cells #[.slice none 0 0, .slice none 0 0] 25 (0, 0))) := by unfold Hid; rw [← hzz10]; exact new_at _ _
    have Gz7 : Hid (w9.heap.size ≤ w9.heap.size) := RB0.out.size
    have B10 := hid (RB0.out.trans (hb.mono RB0.out.size))
    clear RB0
    clear hb hzz10
    refine hK.out _ _ (KH.out _ B10.out) (fun hHeld => ?_)
    clear hK
    refine wpAnyH_ready (rs := [2, 7]) (by kernel_rfl) (by simp) ?_
    refine AllReadyH.cons (o := { dst := some 34, op := Op.call { callee := Callee.value (Operand.func 25), args := #[Operand.tmp 32, Operand.tmp 33], argTypes := #[25, 3] }, type := 25, pos := "law.go:106", after := #[{ on := 0, ground := Ground.data }, { on := 1, ground := Ground.data }], guard := none }) rfl (fun K hK => ?_) (AllReadyH.cons (o := { dst := some 8, op := Op.alloc 25, type := 0, pos := "law.go:106", after := #[], guard := none }) rfl (fun K hK => ?_) AllReadyH.nil)
    · go_simp
      refine (orename_any z10 _ sa k (Fa9.out.bel B10.out) Ka.out).mono ?_
      rintro e z11 ⟨v11, rfl, hsh, hb⟩
      have B11 := hid (B10.out.trans (hb.mono B10.out.size))
      have Fz711 := hid (bx_bel Nz7.out hb)
      clear B10 Nz7
      rw [Z.out.ra] at hsh
      have Fr11 := hid hsh.at
      obtain ⟨ar, cr, br, dr, rfl⟩ := hsh.at.form
      clear hsh hb
      refine hK.out _ _ (KH.out _ B11.out) (fun hHeld => ?_)
      clear hK
      refine wpAnyH_ready (rs := [5, 7]) (by kernel_rfl) (by simp) ?_
      refine AllReadyH.cons (o := { dst := some 37, op := Op.call { callee := Callee.value (Operand.func 25), args := #[Operand.tmp 35, Operand.tmp 36], argTypes := #[25, 3] }, type := 25, pos := "law.go:106", after := #[{ on := 3, ground := Ground.data }, { on := 4, ground := Ground.data }, { on := 2, ground := Ground.chain }], guard := none }) rfl (fun K hK => ?_) (AllReadyH.cons (o := { dst := some 8, op := Op.alloc 25, type := 0, pos := "law.go:106", after := #[], guard := none }) rfl (fun K hK => ?_) AllReadyH.nil)
      · go_simp
        refine (orename_any z11 _ sb k (Fb9.out.bel B11.out) Kb.out).mono ?_
        rintro e z12 ⟨v12, rfl, hsh, hb⟩
        have B12 := hid (B11.out.trans (hb.mono B11.out.size))
        have Fz712 := hid (bx_bel Fz711.out hb)
        have Fr12 := hid (Fr11.out.bel hb)
        clear B11 Fz711 Fr11
        rw [Z.out.rb] at hsh
        have Fs12 := hid hsh.at
        obtain ⟨aq, cq, bq, dq, rfl⟩ := hsh.at.form
        clear hsh hb
        refine hK.out _ _ (KH.out _ B12.out) (fun hHeld => ?_)
        clear hK
        refine wpAnyH_ready (rs := [7]) (by kernel_rfl) (by simp) ?_
        refine AllReadyH.cons (o := { dst := some 8, op := Op.alloc 25, type := 0, pos := "law.go:106", after := #[], guard := none }) rfl (fun K hK => ?_) AllReadyH.nil
        obtain ⟨z13, hzz13⟩ : ∃ W, z12.alloc (.cells #[.slice none 0 0, .slice none 0 0] 25) = W := ⟨_, rfl⟩
        go_simp
        have hb : Below z12.heap.size z12 z13 := by rw [← hzz13]; exact (gr_new _ _).below
        have Nz8 : Hid (z13.heap[z12.heap.size]? = some (.cells #[.slice none 0 0, .slice none 0 0] 25 (0, 0))) := by unfold Hid; rw [← hzz13]; exact new_at _ _
        have Gz8 : Hid (w9.heap.size ≤ z12.heap.size) := B12.out.size
        have GD : Hid (w9.heap.size < z12.heap.size) := (Array.getElem?_eq_some_iff.1 Fz712.out).1
        have B13 := hid (B12.out.trans (hb.mono B12.out.size))
        have Fz713 := hid (bx_bel Fz712.out hb)
        have Fr13 := hid (Fr12.out.bel hb)
        have Fs13 := hid (Fs12.out.bel hb)
        clear B12 Fz712 Fr12 Fs12
        clear hb hzz13
        refine hK.out _ _ (KH.out _ B13.out) (fun hHeld => ?_)
        clear hK
        refine wpAnyH_ready (rs := [8]) (by kernel_rfl) (by simp) ?_
        refine AllReadyH.cons (o := { dst := none, op := Op.store 25 (Operand.tmp 7) (Operand.tmp 34), type := 0, pos := "law.go:106", after := #[{ on := 6, ground := Ground.data }, { on := 2, ground := Ground.data }, { on := 5, ground := Ground.chain }, { on := 0, ground := Ground.phase }, { on := 1, ground := Ground.phase }, { on := 2, ground := Ground.phase }, { on := 3, ground := Ground.textOnly Departure.lateStores }, { on := 4, ground := Ground.textOnly Departure.lateStores }, { on := 5, ground := Ground.textOnly Departure.lateStoresUnsure }, { on := 6, ground := Ground.phase }, { on := 7, ground := Ground.phase }], guard := none }) rfl (fun K hK => ?_) AllReadyH.nil
        obtain ⟨y0, y1, yf⟩ := cells2 Fz713.out
        go_simp
        clear y0 y1 yf
        obtain ⟨z14, hzz14⟩ : ∃ W, ((z13.setCell ⟨w9.heap.size, 0, none⟩ (.slice ar sr.fs.length cr)).setCell ⟨w9.heap.size, 1, none⟩ (.slice br sr.pr.length dr)) = W := ⟨_, rfl⟩
        have B14 : Hid (Below w9.heap.size w9 z14) := by unfold Hid; rw [← hzz14]; exact set2b B13.out Gz7.out _ _
        have Fr14 : Hid (ShAt z14 (.agg #[.slice ar sr.fs.length cr, .slice br sr.pr.length dr]) sr) := by unfold Hid; rw [← hzz14]; exact Fr13.out.off2 Fz713.out _ _
        have Fs14 : Hid (ShAt z14 (.agg #[.slice aq ss.fs.length cq, .slice bq ss.pr.length dq]) ss) := by unfold Hid; rw [← hzz14]; exact Fs13.out.off2 Fz713.out _ _
        have Fz814 : Hid (z14.heap[z12.heap.size]? = some (.cells #[.slice none 0 0, .slice none 0 0] 25 (0, 0))) := by unfold Hid; rw [← hzz14]; exact (box_off (Nat.ne_of_gt GD.out) _ _).trans Nz8.out
        have Fz714 : Hid (z14.heap[w9.heap.size]? = some (.cells #[(.slice ar sr.fs.length cr), (.slice br sr.pr.length dr)] 25 (0, 0))) := by unfold Hid; rw [← hzz14]; exact box_set2 Fz713.out _ _
        clear B13 Fr13 Fs13 Fz713 Nz8
        try rw [hzz14]
        clear hzz14
        refine hK.out _ _ (KH.out _ B14.out) (fun hHeld => ?_)
        clear hK
        refine wpAnyH_ready (rs := [9]) (by kernel_rfl) (by simp) ?_
        refine AllReadyH.cons (o := { dst := none, op := Op.store 25 (Operand.tmp 8) (Operand.tmp 37), type := 0, pos := "law.go:106", after := #[{ on := 7, ground := Ground.data }, { on := 5, ground := Ground.data }, { on := 8, ground := Ground.chain }, { on := 0, ground := Ground.phase }, { on := 1, ground := Ground.phase }, { on := 2, ground := Ground.phase }, { on := 3, ground := Ground.phase }, { on := 4, ground := Ground.phase }, { on := 5, ground := Ground.phase }, { on := 6, ground := Ground.phase }, { on := 7, ground := Ground.phase }, { on := 8, ground := Ground.phase }], guard := none }) rfl (fun K hK => ?_) AllReadyH.nil
        obtain ⟨y0, y1, yf⟩ := cells2 Fz814.out
        go_simp
        clear y0 y1 yf
        obtain ⟨z15, hzz15⟩ : ∃ W, ((z14.setCell ⟨z12.heap.size, 0, none⟩ (.slice aq ss.fs.length cq)).setCell ⟨z12.heap.size, 1, none⟩ (.slice bq ss.pr.length dq)) = W := ⟨_, rfl⟩
        have B15 : Hid (Below w9.heap.size w9 z15) := by unfold Hid; rw [← hzz15]; exact set2b B14.out Gz8.out _ _
        have Fr15 : Hid (ShAt z15 (.agg #[.slice ar sr.fs.length cr, .slice br sr.pr.length dr]) sr) := by unfold Hid; rw [← hzz15]; exact Fr14.out.off2 Fz814.out _ _
        have Fs15 : Hid (ShAt z15 (.agg #[.slice aq ss.fs.length cq, .slice bq ss.pr.length dq]) ss) := by unfold Hid; rw [← hzz15]; exact Fs14.out.off2 Fz814.out _ _
        have Fz715 : Hid (z15.heap[w9.heap.size]? = some (.cells #[.slice ar sr.fs.length cr, .slice br sr.pr.length dr] 25 (0, 0))) := by unfold Hid; rw [← hzz15]; exact (box_off (Nat.ne_of_lt GD.out) _ _).trans Fz714.out
        have Fz815 : Hid (z15.heap[z12.heap.size]? = some (.cells #[(.slice aq ss.fs.length cq), (.slice bq ss.pr.length dq)] 25 (0, 0))) := by unfold Hid; rw [← hzz15]; exact box_set2 Fz814.out _ _
        clear B14 Fr14 Fs14 Fz814 Fz714
        try rw [hzz15]
        clear hzz15
        refine hK.out _ _ (KH.out _ B15.out) (fun hHeld => ?_)
        clear hK
        refine wpAnyH_done (by kernel_rfl) ?_ _
        show K3 _ _
        exact tail.out _ _ _ _ _ _ _ _ _ _ _ (B9.out.trans (B15.out.mono B9.out.size)) (Fa9.out.bel B15.out) (Fb9.out.bel B15.out) Fr15.out Fs15.out (bx_bel Fba9.out B15.out) (bx_bel Fbb9.out B15.out) Fz715.out Fz815.out
      · obtain ⟨z12, hzz12⟩ : ∃ W, z11.alloc (.cells #[.slice none 0 0, .slice none 0 0] 25) = W := ⟨_, rfl⟩
        go_simp
        have hb : Below z11.heap.size z11 z12 := by rw [← hzz12]; exact (gr_new _ _).below
        have Nz8 : Hid (z12.heap[z11.heap.size]? = some (.cells #[.slice none 0 0, .slice none 0 0] 25 (0, 0))) := by unfold Hid; rw [← hzz12]; exact new_at _ _
        have Gz8 : Hid (w9.heap.size ≤ z11.heap.size) := B11.out.size
        have GD : Hid (w9.heap.size < z11.heap.size) := (Array.getElem?_eq_some_iff.1 Fz711.out).1
        have B12 := hid (B11.out.trans (hb.mono B11.out.size))
        have Fz712 := hid (bx_bel Fz711.out hb)
        have Fr12 := hid (Fr11.out.bel hb)
        clear B11 Fz711 Fr11
        clear hb hzz12
        refine hK.out _ _ (KH.out _ B12.out) (fun hHeld => ?_)
        clear hK
        refine wpAnyH_ready (rs := [5]) (by kernel_rfl) (by simp) ?_
        refine AllReadyH.cons (o := { dst := some 37, op := Op.call { callee := Callee.value (Operand.func 25), args := #[Operand.tmp 35, Operand.tmp 36], argTypes := #[25, 3] }, type := 25, pos := "law.go:106", after := #[{ on := 3, ground := Ground.data }, { on := 4, ground := Ground.data }, { on := 2, ground := Ground.chain }], guard := none }) rfl (fun K hK => ?_) AllReadyH.nil
        go_simp
        refine (orename_any z12 _ sb k (Fb9.out.bel B12.out) Kb.out).mono ?_
        rintro e z13 ⟨v13, rfl, hsh, hb⟩
        have B13 := hid (B12.out.trans (hb.mono B12.out.size))
        have Fz713 := hid (bx_bel Fz712.out hb)
        have Fr13 := hid (Fr12.out.bel hb)
        have Fz813 := hid (bx_bel Nz8.out hb)
        clear B12 Fz712 Fr12 Nz8
        rw [Z.out.rb] at hsh
        have Fs13 := hid hsh.at
        obtain ⟨aq, cq, bq, dq, rfl⟩ := hsh.at.form
        clear hsh hb
        refine hK.out _ _ (KH.out _ B13.out) (fun hHeld => ?_)
        clear hK
        refine wpAnyH_ready (rs := [8]) (by kernel_rfl) (by simp) ?_
        refine AllReadyH.cons (o := { dst := none, op := Op.store 25 (Operand.tmp 7) (Operand.tmp 34), type := 0, pos := "law.go:106", after := #[{ on := 6, ground := Ground.data }, { on := 2, ground := Ground.data }, { on := 5, ground := Ground.chain }, { on := 0, ground := Ground.phase }, { on := 1, ground := Ground.phase }, { on := 2, ground := Ground.phase }, { on := 3, ground := Ground.textOnly Departure.lateStores }, { on := 4, ground := Ground.textOnly Departure.lateStores }, { on := 5, ground := Ground.textOnly Departure.lateStoresUnsure }, { on := 6, ground := Ground.phase }, { on := 7, ground := Ground.phase }], guard := none }) rfl (fun K hK => ?_) AllReadyH.nil
        obtain ⟨y0, y1, yf⟩ := cells2 Fz713.out
        go_simp
        clear y0 y1 yf
        obtain ⟨z14, hzz14⟩ : ∃ W, ((z13.setCell ⟨w9.heap.size, 0, none⟩ (.slice ar sr.fs.length cr)).setCell ⟨w9.heap.size, 1, none⟩ (.slice br sr.pr.length dr)) = W := ⟨_, rfl⟩
        have B14 : Hid (Below w9.heap.size w9 z14) := by unfold Hid; rw [← hzz14]; exact set2b B13.out Gz7.out _ _
        have Fr14 : Hid (ShAt z14 (.agg #[.slice ar sr.fs.length cr, .slice br sr.pr.length dr]) sr) := by unfold Hid; rw [← hzz14]; exact Fr13.out.off2 Fz713.out _ _
        have Fs14 : Hid (ShAt z14 (.agg #[.slice aq ss.fs.length cq, .slice bq ss.pr.length dq]) ss) := by unfold Hid; rw [← hzz14]; exact Fs13.out.off2 Fz713.out _ _
        have Fz814 : Hid (z14.heap[z11.heap.size]? = some (.cells #[.slice none 0 0, .slice none 0 0] 25 (0, 0))) := by unfold Hid; rw [← hzz14]; exact (box_off (Nat.ne_of_gt GD.out) _ _).trans Fz813.out
        have Fz714 : Hid (z14.heap[w9.heap.size]? = some (.cells #[(.slice ar sr.fs.length cr), (.slice br sr.pr.length dr)] 25 (0, 0))) := by unfold Hid; rw [← hzz14]; exact box_set2 Fz713.out _ _
        clear B13 Fr13 Fs13 Fz713 Fz813
        try rw [hzz14]
        clear hzz14
        refine hK.out _ _ (KH.out _ B14.out) (fun hHeld => ?_)
        clear hK
        refine wpAnyH_ready (rs := [9]) (by kernel_rfl) (by simp) ?_
        refine AllReadyH.cons (o := { dst := none, op := Op.store 25 (Operand.tmp 8) (Operand.tmp 37), type := 0, pos := "law.go:106", after := #[{ on := 7, ground := Ground.data }, { on := 5, ground := Ground.data }, { on := 8, ground := Ground.chain }, { on := 0, ground := Ground.phase }, { on := 1, ground := Ground.phase }, { on := 2, ground := Ground.phase }, { on := 3, ground := Ground.phase }, { on := 4, ground := Ground.phase }, { on := 5, ground := Ground.phase }, { on := 6, ground := Ground.phase }, { on := 7, ground := Ground.phase }, { on := 8, ground := Ground.phase }], guard := none }) rfl (fun K hK => ?_) AllReadyH.nil
        obtain ⟨y0, y1, yf⟩ := cells2 Fz814.out
        go_simp
        clear y0 y1 yf
        obtain ⟨z15, hzz15⟩ : ∃ W, ((z14.setCell ⟨z11.heap.size, 0, none⟩ (.slice aq ss.fs.length cq)).setCell ⟨z11.heap.size, 1, none⟩ (.slice bq ss.pr.length dq)) = W := ⟨_, rfl⟩
        have B15 : Hid (Below w9.heap.size w9 z15) := by unfold Hid; rw [← hzz15]; exact set2b B14.out Gz8.out _ _
        have Fr15 : Hid (ShAt z15 (.agg #[.slice ar sr.fs.length cr, .slice br sr.pr.length dr]) sr) := by unfold Hid; rw [← hzz15]; exact Fr14.out.off2 Fz814.out _ _
        have Fs15 : Hid (ShAt z15 (.agg #[.slice aq ss.fs.length cq, .slice bq ss.pr.length dq]) ss) := by unfold Hid; rw [← hzz15]; exact Fs14.out.off2 Fz814.out _ _
        have Fz715 : Hid (z15.heap[w9.heap.size]? = some (.cells #[.slice ar sr.fs.length cr, .slice br sr.pr.length dr] 25 (0, 0))) := by unfold Hid; rw [← hzz15]; exact (box_off (Nat.ne_of_lt GD.out) _ _).trans Fz714.out
        have Fz815 : Hid (z15.heap[z11.heap.size]? = some (.cells #[(.slice aq ss.fs.length cq), (.slice bq ss.pr.length dq)] 25 (0, 0))) := by unfold Hid; rw [← hzz15]; exact box_set2 Fz814.out _ _
        clear B14 Fr14 Fs14 Fz814 Fz714
        try rw [hzz15]
        clear hzz15
        refine hK.out _ _ (KH.out _ B15.out) (fun hHeld => ?_)
        clear hK
        refine wpAnyH_done (by kernel_rfl) ?_ _
        show K3 _ _
        exact tail.out _ _ _ _ _ _ _ _ _ _ _ (B9.out.trans (B15.out.mono B9.out.size)) (Fa9.out.bel B15.out) (Fb9.out.bel B15.out) Fr15.out Fs15.out (bx_bel Fba9.out B15.out) (bx_bel Fbb9.out B15.out) Fz715.out Fz815.out
    · obtain ⟨z11, hzz11⟩ : ∃ W, z10.alloc (.cells #[.slice none 0 0, .slice none 0 0] 25) = W := ⟨_, rfl⟩
      go_simp
      have hb : Below z10.heap.size z10 z11 := by rw [← hzz11]; exact (gr_new _ _).below
      have Nz8 : Hid (z11.heap[z10.heap.size]? = some (.cells #[.slice none 0 0, .slice none 0 0] 25 (0, 0))) := by unfold Hid; rw [← hzz11]; exact new_at _ _
      have Gz8 : Hid (w9.heap.size ≤ z10.heap.size) := B10.out.size
      have GD : Hid (w9.heap.size < z10.heap.size) := (Array.getElem?_eq_some_iff.1 Nz7.out).1
      have B11 := hid (B10.out.trans (hb.mono B10.out.size))
      have Fz711 := hid (bx_bel Nz7.out hb)
      clear B10 Nz7
      clear hb hzz11
      refine hK.out _ _ (KH.out _ B11.out) (fun hHeld => ?_)
      clear hK
      refine wpAnyH_ready (rs := [2]) (by kernel_rfl) (by simp) ?_
      refine AllReadyH.cons (o := { dst := some 34, op := Op.call { callee := Callee.value (Operand.func 25), args := #[Operand.tmp 32, Operand.tmp 33], argTypes := #[25, 3] }, type := 25, pos := "law.go:106", after := #[{ on := 0, ground := Ground.data }, { on := 1, ground := Ground.data }], guard := none }) rfl (fun K hK => ?_) AllReadyH.nil
      go_simp
      refine (orename_any z11 _ sa k (Fa9.out.bel B11.out) Ka.out).mono ?_
      rintro e z12 ⟨v12, rfl, hsh, hb⟩
      have B12 := hid (B11.out.trans (hb.mono B11.out.size))
      have Fz712 := hid (bx_bel Fz711.out hb)
      have Fz812 := hid (bx_bel Nz8.out hb)
      clear B11 Fz711 Nz8
      rw [Z.out.ra] at hsh
      have Fr12 := hid hsh.at
      obtain ⟨ar, cr, br, dr, rfl⟩ := hsh.at.form
      clear hsh hb
      refine hK.out _ _ (KH.out _ B12.out) (fun hHeld => ?_)
      clear hK
      refine wpAnyH_ready (rs := [5]) (by kernel_rfl) (by simp) ?_
      refine AllReadyH.cons (o := { dst := some 37, op := Op.call { callee := Callee.value (Operand.func 25), args := #[Operand.tmp 35, Operand.tmp 36], argTypes := #[25, 3] }, type := 25, pos := "law.go:106", after := #[{ on := 3, ground := Ground.data }, { on := 4, ground := Ground.data }, { on := 2, ground := Ground.chain }], guard := none }) rfl (fun K hK => ?_) AllReadyH.nil
      go_simp
      refine (orename_any z12 _ sb k (Fb9.out.bel B12.out) Kb.out).mono ?_
      rintro e z13 ⟨v13, rfl, hsh, hb⟩
      have B13 := hid (B12.out.trans (hb.mono B12.out.size))
      have Fz713 := hid (bx_bel Fz712.out hb)
      have Fz813 := hid (bx_bel Fz812.out hb)
      have Fr13 := hid (Fr12.out.bel hb)
      clear B12 Fz712 Fz812 Fr12
      rw [Z.out.rb] at hsh
      have Fs13 := hid hsh.at
      obtain ⟨aq, cq, bq, dq, rfl⟩ := hsh.at.form
      clear hsh hb
      refine hK.out _ _ (KH.out _ B13.out) (fun hHeld => ?_)
      clear hK
      refine wpAnyH_ready (rs := [8]) (by kernel_rfl) (by simp) ?_
      refine AllReadyH.cons (o := { dst := none, op := Op.store 25 (Operand.tmp 7) (Operand.tmp 34), type := 0, pos := "law.go:106", after := #[{ on := 6, ground := Ground.data }, { on := 2, ground := Ground.data }, { on := 5, ground := Ground.chain }, { on := 0, ground := Ground.phase }, { on := 1, ground := Ground.phase }, { on := 2, ground := Ground.phase }, { on := 3, ground := Ground.textOnly Departure.lateStores }, { on := 4, ground := Ground.textOnly Departure.lateStores }, { on := 5, ground := Ground.textOnly Departure.lateStoresUnsure }, { on := 6, ground := Ground.phase }, { on := 7, ground := Ground.phase }], guard := none }) rfl (fun K hK => ?_) AllReadyH.nil
      obtain ⟨y0, y1, yf⟩ := cells2 Fz713.out
      go_simp
      clear y0 y1 yf
      obtain ⟨z14, hzz14⟩ : ∃ W, ((z13.setCell ⟨w9.heap.size, 0, none⟩ (.slice ar sr.fs.length cr)).setCell ⟨w9.heap.size, 1, none⟩ (.slice br sr.pr.length dr)) = W := ⟨_, rfl⟩
      have B14 : Hid (Below w9.heap.size w9 z14) := by unfold Hid; rw [← hzz14]; exact set2b B13.out Gz7.out _ _
      have Fr14 : Hid (ShAt z14 (.agg #[.slice ar sr.fs.length cr, .slice br sr.pr.length dr]) sr) := by unfold Hid; rw [← hzz14]; exact Fr13.out.off2 Fz713.out _ _
      have Fs14 : Hid (ShAt z14 (.agg #[.slice aq ss.fs.length cq, .slice bq ss.pr.length dq]) ss) := by unfold Hid; rw [← hzz14]; exact Fs13.out.off2 Fz713.out _ _
      have Fz814 : Hid (z14.heap[z10.heap.size]? = some (.cells #[.slice none 0 0, .slice none 0 0] 25 (0, 0))) := by unfold Hid; rw [← hzz14]; exact (box_off (Nat.ne_of_gt GD.out) _ _).trans Fz813.out
      have Fz714 : Hid (z14.heap[w9.heap.size]? = some (.cells #[(.slice ar sr.fs.length cr), (.slice br sr.pr.length dr)] 25 (0, 0))) := by unfold Hid; rw [← hzz14]; exact box_set2 Fz713.out _ _
      clear B13 Fr13 Fs13 Fz713 Fz813
      try rw [hzz14]
      clear hzz14
      refine hK.out _ _ (KH.out _ B14.out) (fun hHeld => ?_)
      clear hK
      refine wpAnyH_ready (rs := [9]) (by kernel_rfl) (by simp) ?_
      refine AllReadyH.cons (o := { dst := none, op := Op.store 25 (Operand.tmp 8) (Operand.tmp 37), type := 0, pos := "law.go:106", after := #[{ on := 7, ground := Ground.data }, { on := 5, ground := Ground.data }, { on := 8, ground := Ground.chain }, { on := 0, ground := Ground.phase }, { on := 1, ground := Ground.phase }, { on := 2, ground := Ground.phase }, { on := 3, ground := Ground.phase }, { on := 4, ground := Ground.phase }, { on := 5, ground := Ground.phase }, { on := 6, ground := Ground.phase }, { on := 7, ground := Ground.phase }, { on := 8, ground := Ground.phase }], guard := none }) rfl (fun K hK => ?_) AllReadyH.nil
      obtain ⟨y0, y1, yf⟩ := cells2 Fz814.out
      go_simp
      clear y0 y1 yf
      obtain ⟨z15, hzz15⟩ : ∃ W, ((z14.setCell ⟨z10.heap.size, 0, none⟩ (.slice aq ss.fs.length cq)).setCell ⟨z10.heap.size, 1, none⟩ (.slice bq ss.pr.length dq)) = W := ⟨_, rfl⟩
      have B15 : Hid (Below w9.heap.size w9 z15) := by unfold Hid; rw [← hzz15]; exact set2b B14.out Gz8.out _ _
      have Fr15 : Hid (ShAt z15 (.agg #[.slice ar sr.fs.length cr, .slice br sr.pr.length dr]) sr) := by unfold Hid; rw [← hzz15]; exact Fr14.out.off2 Fz814.out _ _
      have Fs15 : Hid (ShAt z15 (.agg #[.slice aq ss.fs.length cq, .slice bq ss.pr.length dq]) ss) := by unfold Hid; rw [← hzz15]; exact Fs14.out.off2 Fz814.out _ _
      have Fz715 : Hid (z15.heap[w9.heap.size]? = some (.cells #[.slice ar sr.fs.length cr, .slice br sr.pr.length dr] 25 (0, 0))) := by unfold Hid; rw [← hzz15]; exact (box_off (Nat.ne_of_lt GD.out) _ _).trans Fz714.out
      have Fz815 : Hid (z15.heap[z10.heap.size]? = some (.cells #[(.slice aq ss.fs.length cq), (.slice bq ss.pr.length dq)] 25 (0, 0))) := by unfold Hid; rw [← hzz15]; exact box_set2 Fz814.out _ _
      clear B14 Fr14 Fs14 Fz814 Fz714
      try rw [hzz15]
      clear hzz15
      refine hK.out _ _ (KH.out _ B15.out) (fun hHeld => ?_)
      clear hK
      refine wpAnyH_done (by kernel_rfl) ?_ _
      show K3 _ _
      exact tail.out _ _ _ _ _ _ _ _ _ _ _ (B9.out.trans (B15.out.mono B9.out.size)) (Fa9.out.bel B15.out) (Fb9.out.bel B15.out) Fr15.out Fs15.out (bx_bel Fba9.out B15.out) (bx_bel Fbb9.out B15.out) Fz715.out Fz815.out
  · obtain ⟨z10, hzz10⟩ : ∃ W, w9.drew.alloc (.cells #[.slice none 0 0, .slice none 0 0] 25) = W := ⟨_, rfl⟩
    go_simp
    have hb : Below w9.drew.heap.size w9.drew z10 := by rw [← hzz10]; exact (gr_new _ _).below
    have Nz8 : Hid (z10.heap[w9.heap.size]? = some (.cells #[.slice none 0 0, .slice none 0 0] 25 (0, 0))) := by unfold Hid; rw [← hzz10]; exact new_at _ _
    have Gz8 : Hid (w9.heap.size ≤ w9.heap.size) := RB0.out.size
    have B10 := hid (RB0.out.trans (hb.mono RB0.out.size))
    clear RB0
    clear hb hzz10
    refine hK.out _ _ (KH.out _ B10.out) (fun hHeld => ?_)
    clear hK
    refine wpAnyH_ready (rs := [2, 6]) (by kernel_rfl) (by simp) ?_
    refine AllReadyH.cons (o := { dst := some 34, op := Op.call { callee := Callee.value (Operand.func 25), args := #[Operand.tmp 32, Operand.tmp 33], argTypes := #[25, 3] }, type := 25, pos := "law.go:106", after := #[{ on := 0, ground := Ground.data }, { on := 1, ground := Ground.data }], guard := none }) rfl (fun K hK => ?_) (AllReadyH.cons (o := { dst := some 7, op := Op.alloc 25, type := 0, pos := "law.go:106", after := #[], guard := none }) rfl (fun K hK => ?_) AllReadyH.nil)
    · go_simp
      refine (orename_any z10 _ sa k (Fa9.out.bel B10.out) Ka.out).mono ?_
      rintro e z11 ⟨v11, rfl, hsh, hb⟩
      have B11 := hid (B10.out.trans (hb.mono B10.out.size))
      have Fz811 := hid (bx_bel Nz8.out hb)
      clear B10 Nz8
      rw [Z.out.ra] at hsh
      have Fr11 := hid hsh.at
      obtain ⟨ar, cr, br, dr, rfl⟩ := hsh.at.form
      clear hsh hb
      refine hK.out _ _ (KH.out _ B11.out) (fun hHeld => ?_)
      clear hK
      refine wpAnyH_ready (rs := [5, 6]) (by kernel_rfl) (by simp) ?_
      refine AllReadyH.cons (o := { dst := some 37, op := Op.call { callee := Callee.value (Operand.func 25), args := #[Operand.tmp 35, Operand.tmp 36], argTypes := #[25, 3] }, type := 25, pos := "law.go:106", after := #[{ on := 3, ground := Ground.data }, { on := 4, ground := Ground.data }, { on := 2, ground := Ground.chain }], guard := none }) rfl (fun K hK => ?_) (AllReadyH.cons (o := { dst := some 7, op := Op.alloc 25, type := 0, pos := "law.go:106", after := #[], guard := none }) rfl (fun K hK => ?_) AllReadyH.nil)
      · go_simp
        refine (orename_any z11 _ sb k (Fb9.out.bel B11.out) Kb.out).mono ?_
        rintro e z12 ⟨v12, rfl, hsh, hb⟩
        have B12 := hid (B11.out.trans (hb.mono B11.out.size))
        have Fz812 := hid (bx_bel Fz811.out hb)
        have Fr12 := hid (Fr11.out.bel hb)
        clear B11 Fz811 Fr11
        rw [Z.out.rb] at hsh
        have Fs12 := hid hsh.at
        obtain ⟨aq, cq, bq, dq, rfl⟩ := hsh.at.form
        clear hsh hb
        refine hK.out _ _ (KH.out _ B12.out) (fun hHeld => ?_)
        clear hK
        refine wpAnyH_ready (rs := [6]) (by kernel_rfl) (by simp) ?_
        refine AllReadyH.cons (o := { dst := some 7, op := Op.alloc 25, type := 0, pos := "law.go:106", after := #[], guard := none }) rfl (fun K hK => ?_) AllReadyH.nil
        obtain ⟨z13, hzz13⟩ : ∃ W, z12.alloc (.cells #[.slice none 0 0, .slice none 0 0] 25) = W := ⟨_, rfl⟩
        go_simp
        have hb : Below z12.heap.size z12 z13 := by rw [← hzz13]; exact (gr_new _ _).below
        have Nz7 : Hid (z13.heap[z12.heap.size]? = some (.cells #[.slice none 0 0, .slice none 0 0] 25 (0, 0))) := by unfold Hid; rw [← hzz13]; exact new_at _ _
        have Gz7 : Hid (w9.heap.size ≤ z12.heap.size) := B12.out.size
        have GD : Hid (w9.heap.size < z12.heap.size) := (Array.getElem?_eq_some_iff.1 Fz812.out).1
        have B13 := hid (B12.out.trans (hb.mono B12.out.size))
        have Fz813 := hid (bx_bel Fz812.out hb)
        have Fr13 := hid (Fr12.out.bel hb)
        have Fs13 := hid (Fs12.out.bel hb)
        clear B12 Fz812 Fr12 Fs12
        clear hb hzz13
        refine hK.out _ _ (KH.out _ B13.out) (fun hHeld => ?_)
        clear hK
        refine wpAnyH_ready (rs := [8]) (by kernel_rfl) (by simp) ?_
        refine AllReadyH.cons (o := { dst := none, op := Op.store 25 (Operand.tmp 7) (Operand.tmp 34), type := 0, pos := "law.go:106", after := #[{ on := 6, ground := Ground.data }, { on := 2, ground := Ground.data }, { on := 5, ground := Ground.chain }, { on := 0, ground := Ground.phase }, { on := 1, ground := Ground.phase }, { on := 2, ground := Ground.phase }, { on := 3, ground := Ground.textOnly Departure.lateStores }, { on := 4, ground := Ground.textOnly Departure.lateStores }, { on := 5, ground := Ground.textOnly Departure.lateStoresUnsure }, { on := 6, ground := Ground.phase }, { on := 7, ground := Ground.phase }], guard := none }) rfl (fun K hK => ?_) AllReadyH.nil
        obtain ⟨y0, y1, yf⟩ := cells2 Nz7.out
        go_simp
        clear y0 y1 yf
        obtain ⟨z14, hzz14⟩ : ∃ W, ((z13.setCell ⟨z12.heap.size, 0, none⟩ (.slice ar sr.fs.length cr)).setCell ⟨z12.heap.size, 1, none⟩ (.slice br sr.pr.length dr)) = W := ⟨_, rfl⟩
        have B14 : Hid (Below w9.heap.size w9 z14) := by unfold Hid; rw [← hzz14]; exact set2b B13.out Gz7.out _ _
        have Fr14 : Hid (ShAt z14 (.agg #[.slice ar sr.fs.length cr, .slice br sr.pr.length dr]) sr) := by unfold Hid; rw [← hzz14]; exact Fr13.out.off2 Nz7.out _ _
        have Fs14 : Hid (ShAt z14 (.agg #[.slice aq ss.fs.length cq, .slice bq ss.pr.length dq]) ss) := by unfold Hid; rw [← hzz14]; exact Fs13.out.off2 Nz7.out _ _
        have Fz814 : Hid (z14.heap[w9.heap.size]? = some (.cells #[.slice none 0 0, .slice none 0 0] 25 (0, 0))) := by unfold Hid; rw [← hzz14]; exact (box_off (Nat.ne_of_lt GD.out) _ _).trans Fz813.out
        have Fz714 : Hid (z14.heap[z12.heap.size]? = some (.cells #[(.slice ar sr.fs.length cr), (.slice br sr.pr.length dr)] 25 (0, 0))) := by unfold Hid; rw [← hzz14]; exact box_set2 Nz7.out _ _
        clear B13 Fr13 Fs13 Nz7 Fz813
        try rw [hzz14]
        clear hzz14
        refine hK.out _ _ (KH.out _ B14.out) (fun hHeld => ?_)
        clear hK
        refine wpAnyH_ready (rs := [9]) (by kernel_rfl) (by simp) ?_
        refine AllReadyH.cons (o := { dst := none, op := Op.store 25 (Operand.tmp 8) (Operand.tmp 37), type := 0, pos := "law.go:106", after := #[{ on := 7, ground := Ground.data }, { on := 5, ground := Ground.data }, { on := 8, ground := Ground.chain }, { on := 0, ground := Ground.phase }, { on := 1, ground := Ground.phase }, { on := 2, ground := Ground.phase }, { on := 3, ground := Ground.phase }, { on := 4, ground := Ground.phase }, { on := 5, ground := Ground.phase }, { on := 6, ground := Ground.phase }, { on := 7, ground := Ground.phase }, { on := 8, ground := Ground.phase }], guard := none }) rfl (fun K hK => ?_) AllReadyH.nil
        obtain ⟨y0, y1, yf⟩ := cells2 Fz814.out
        go_simp
        clear y0 y1 yf
        obtain ⟨z15, hzz15⟩ : ∃ W, ((z14.setCell ⟨w9.heap.size, 0, none⟩ (.slice aq ss.fs.length cq)).setCell ⟨w9.heap.size, 1, none⟩ (.slice bq ss.pr.length dq)) = W := ⟨_, rfl⟩
        have B15 : Hid (Below w9.heap.size w9 z15) := by unfold Hid; rw [← hzz15]; exact set2b B14.out Gz8.out _ _
        have Fr15 : Hid (ShAt z15 (.agg #[.slice ar sr.fs.length cr, .slice br sr.pr.length dr]) sr) := by unfold Hid; rw [← hzz15]; exact Fr14.out.off2 Fz814.out _ _
        have Fs15 : Hid (ShAt z15 (.agg #[.slice aq ss.fs.length cq, .slice bq ss.pr.length dq]) ss) := by unfold Hid; rw [← hzz15]; exact Fs14.out.off2 Fz814.out _ _
        have Fz715 : Hid (z15.heap[z12.heap.size]? = some (.cells #[.slice ar sr.fs.length cr, .slice br sr.pr.length dr] 25 (0, 0))) := by unfold Hid; rw [← hzz15]; exact (box_off (Nat.ne_of_gt GD.out) _ _).trans Fz714.out
        have Fz815 : Hid (z15.heap[w9.heap.size]? = some (.cells #[(.slice aq ss.fs.length cq), (.slice bq ss.pr.length dq)] 25 (0, 0))) := by unfold Hid; rw [← hzz15]; exact box_set2 Fz814.out _ _
        clear B14 Fr14 Fs14 Fz814 Fz714
        try rw [hzz15]
        clear hzz15
        refine hK.out _ _ (KH.out _ B15.out) (fun hHeld => ?_)
        clear hK
        refine wpAnyH_done (by kernel_rfl) ?_ _
        show K3 _ _
        exact tail.out _ _ _ _ _ _ _ _ _ _ _ (B9.out.trans (B15.out.mono B9.out.size)) (Fa9.out.bel B15.out) (Fb9.out.bel B15.out) Fr15.out Fs15.out (bx_bel Fba9.out B15.out) (bx_bel Fbb9.out B15.out) Fz715.out Fz815.out
      · obtain ⟨z12, hzz12⟩ : ∃ W, z11.alloc (.cells #[.slice none 0 0, .slice none 0 0] 25) = W := ⟨_, rfl⟩
        go_simp
        have hb : Below z11.heap.size z11 z12 := by rw [← hzz12]; exact (gr_new _ _).below
        have Nz7 : Hid (z12.heap[z11.heap.size]? = some (.cells #[.slice none 0 0, .slice none 0 0] 25 (0, 0))) := by unfold Hid; rw [← hzz12]; exact new_at _ _
        have Gz7 : Hid (w9.heap.size ≤ z11.heap.size) := B11.out.size
        have GD : Hid (w9.heap.size < z11.heap.size) := (Array.getElem?_eq_some_iff.1 Fz811.out).1
        have B12 := hid (B11.out.trans (hb.mono B11.out.size))
        have Fz812 := hid (bx_bel Fz811.out hb)
        have Fr12 := hid (Fr11.out.bel hb)
        clear B11 Fz811 Fr11
        clear hb hzz12
        refine hK.out _ _ (KH.out _ B12.out) (fun hHeld => ?_)
        clear hK
        refine wpAnyH_ready (rs := [5]) (by kernel_rfl) (by simp) ?_
        refine AllReadyH.cons (o := { dst := some 37, op := Op.call { callee := Callee.value (Operand.func 25), args := #[Operand.tmp 35, Operand.tmp 36], argTypes := #[25, 3] }, type := 25, pos := "law.go:106", after := #[{ on := 3, ground := Ground.data }, { on := 4, ground := Ground.data }, { on := 2, ground := Ground.chain }], guard := none }) rfl (fun K hK => ?_) AllReadyH.nil
        go_simp
        refine (orename_any z12 _ sb k (Fb9.out.bel B12.out) Kb.out).mono ?_
        rintro e z13 ⟨v13, rfl, hsh, hb⟩
        have B13 := hid (B12.out.trans (hb.mono B12.out.size))
        have Fz813 := hid (bx_bel Fz812.out hb)
        have Fr13 := hid (Fr12.out.bel hb)
        have Fz713 := hid (bx_bel Nz7.out hb)
        clear B12 Fz812 Fr12 Nz7
        rw [Z.out.rb] at hsh
        have Fs13 := hid hsh.at
        obtain ⟨aq, cq, bq, dq, rfl⟩ := hsh.at.form
        clear hsh hb
        refine hK.out _ _ (KH.out _ B13.out) (fun hHeld => ?_)
        clear hK
        refine wpAnyH_ready (rs := [8]) (by kernel_rfl) (by simp) ?_
        refine AllReadyH.cons (o := { dst := none, op := Op.store 25 (Operand.tmp 7) (Operand.tmp 34), type := 0, pos := "law.go:106", after := #[{ on := 6, ground := Ground.data }, { on := 2, ground := Ground.data }, { on := 5, ground := Ground.chain }, { on := 0, ground := Ground.phase }, { on := 1, ground := Ground.phase }, { on := 2, ground := Ground.phase }, { on := 3, ground := Ground.textOnly Departure.lateStores }, { on := 4, ground := Ground.textOnly Departure.lateStores }, { on := 5, ground := Ground.textOnly Departure.lateStoresUnsure }, { on := 6, ground := Ground.phase }, { on := 7, ground := Ground.phase }], guard := none }) rfl (fun K hK => ?_) AllReadyH.nil
        obtain ⟨y0, y1, yf⟩ := cells2 Fz713.out
        go_simp
        clear y0 y1 yf
        obtain ⟨z14, hzz14⟩ : ∃ W, ((z13.setCell ⟨z11.heap.size, 0, none⟩ (.slice ar sr.fs.length cr)).setCell ⟨z11.heap.size, 1, none⟩ (.slice br sr.pr.length dr)) = W := ⟨_, rfl⟩
        have B14 : Hid (Below w9.heap.size w9 z14) := by unfold Hid; rw [← hzz14]; exact set2b B13.out Gz7.out _ _
        have Fr14 : Hid (ShAt z14 (.agg #[.slice ar sr.fs.length cr, .slice br sr.pr.length dr]) sr) := by unfold Hid; rw [← hzz14]; exact Fr13.out.off2 Fz713.out _ _
        have Fs14 : Hid (ShAt z14 (.agg #[.slice aq ss.fs.length cq, .slice bq ss.pr.length dq]) ss) := by unfold Hid; rw [← hzz14]; exact Fs13.out.off2 Fz713.out _ _
        have Fz814 : Hid (z14.heap[w9.heap.size]? = some (.cells #[.slice none 0 0, .slice none 0 0] 25 (0, 0))) := by unfold Hid; rw [← hzz14]; exact (box_off (Nat.ne_of_lt GD.out) _ _).trans Fz813.out
        have Fz714 : Hid (z14.heap[z11.heap.size]? = some (.cells #[(.slice ar sr.fs.length cr), (.slice br sr.pr.length dr)] 25 (0, 0))) := by unfold Hid; rw [← hzz14]; exact box_set2 Fz713.out _ _
        clear B13 Fr13 Fs13 Fz713 Fz813
        try rw [hzz14]
        clear hzz14
        refine hK.out _ _ (KH.out _ B14.out) (fun hHeld => ?_)
        clear hK
        refine wpAnyH_ready (rs := [9]) (by kernel_rfl) (by simp) ?_
        refine AllReadyH.cons (o := { dst := none, op := Op.store 25 (Operand.tmp 8) (Operand.tmp 37), type := 0, pos := "law.go:106", after := #[{ on := 7, ground := Ground.data }, { on := 5, ground := Ground.data }, { on := 8, ground := Ground.chain }, { on := 0, ground := Ground.phase }, { on := 1, ground := Ground.phase }, { on := 2, ground := Ground.phase }, { on := 3, ground := Ground.phase }, { on := 4, ground := Ground.phase }, { on := 5, ground := Ground.phase }, { on := 6, ground := Ground.phase }, { on := 7, ground := Ground.phase }, { on := 8, ground := Ground.phase }], guard := none }) rfl (fun K hK => ?_) AllReadyH.nil
        obtain ⟨y0, y1, yf⟩ := cells2 Fz814.out
        go_simp
        clear y0 y1 yf
        obtain ⟨z15, hzz15⟩ : ∃ W, ((z14.setCell ⟨w9.heap.size, 0, none⟩ (.slice aq ss.fs.length cq)).setCell ⟨w9.heap.size, 1, none⟩ (.slice bq ss.pr.length dq)) = W := ⟨_, rfl⟩
        have B15 : Hid (Below w9.heap.size w9 z15) := by unfold Hid; rw [← hzz15]; exact set2b B14.out Gz8.out _ _
        have Fr15 : Hid (ShAt z15 (.agg #[.slice ar sr.fs.length cr, .slice br sr.pr.length dr]) sr) := by unfold Hid; rw [← hzz15]; exact Fr14.out.off2 Fz814.out _ _
        have Fs15 : Hid (ShAt z15 (.agg #[.slice aq ss.fs.length cq, .slice bq ss.pr.length dq]) ss) := by unfold Hid; rw [← hzz15]; exact Fs14.out.off2 Fz814.out _ _
        have Fz715 : Hid (z15.heap[z11.heap.size]? = some (.cells #[.slice ar sr.fs.length cr, .slice br sr.pr.length dr] 25 (0, 0))) := by unfold Hid; rw [← hzz15]; exact (box_off (Nat.ne_of_gt GD.out) _ _).trans Fz714.out
        have Fz815 : Hid (z15.heap[w9.heap.size]? = some (.cells #[(.slice aq ss.fs.length cq), (.slice bq ss.pr.length dq)] 25 (0, 0))) := by unfold Hid; rw [← hzz15]; exact box_set2 Fz814.out _ _
        clear B14 Fr14 Fs14 Fz814 Fz714
        try rw [hzz15]
        clear hzz15
        refine hK.out _ _ (KH.out _ B15.out) (fun hHeld => ?_)
        clear hK
        refine wpAnyH_done (by kernel_rfl) ?_ _
        show K3 _ _
        exact tail.out _ _ _ _ _ _ _ _ _ _ _ (B9.out.trans (B15.out.mono B9.out.size)) (Fa9.out.bel B15.out) (Fb9.out.bel B15.out) Fr15.out Fs15.out (bx_bel Fba9.out B15.out) (bx_bel Fbb9.out B15.out) Fz715.out Fz815.out
    · obtain ⟨z11, hzz11⟩ : ∃ W, z10.alloc (.cells #[.slice none 0 0, .slice none 0 0] 25) = W := ⟨_, rfl⟩
      go_simp
      have hb : Below z10.heap.size z10 z11 := by rw [← hzz11]; exact (gr_new _ _).below
      have Nz7 : Hid (z11.heap[z10.heap.size]? = some (.cells #[.slice none 0 0, .slice none 0 0] 25 (0, 0))) := by unfold Hid; rw [← hzz11]; exact new_at _ _
      have Gz7 : Hid (w9.heap.size ≤ z10.heap.size) := B10.out.size
      have GD : Hid (w9.heap.size < z10.heap.size) := (Array.getElem?_eq_some_iff.1 Nz8.out).1
      have B11 := hid (B10.out.trans (hb.mono B10.out.size))
      have Fz811 := hid (bx_bel Nz8.out hb)
      clear B10 Nz8
      clear hb hzz11
      refine hK.out _ _ (KH.out _ B11.out) (fun hHeld => ?_)
      clear hK
      refine wpAnyH_ready (rs := [2]) (by kernel_rfl) (by simp) ?_
      refine AllReadyH.cons (o := { dst := some 34, op := Op.call { callee := Callee.value (Operand.func 25), args := #[Operand.tmp 32, Operand.tmp 33], argTypes := #[25, 3] }, type := 25, pos := "law.go:106", after := #[{ on := 0, ground := Ground.data }, { on := 1, ground := Ground.data }], guard := none }) rfl (fun K hK => ?_) AllReadyH.nil
      go_simp
      refine (orename_any z11 _ sa k (Fa9.out.bel B11.out) Ka.out).mono ?_
      rintro e z12 ⟨v12, rfl, hsh, hb⟩
      have B12 := hid (B11.out.trans (hb.mono B11.out.size))
      have Fz812 := hid (bx_bel Fz811.out hb)
      have Fz712 := hid (bx_bel Nz7.out hb)
      clear B11 Fz811 Nz7
      rw [Z.out.ra] at hsh
      have Fr12 := hid hsh.at
      obtain ⟨ar, cr, br, dr, rfl⟩ := hsh.at.form
      clear hsh hb
      refine hK.out _ _ (KH.out _ B12.out) (fun hHeld => ?_)
      clear hK
      refine wpAnyH_ready (rs := [5]) (by kernel_rfl) (by simp) ?_
      refine AllReadyH.cons (o := { dst := some 37, op := Op.call { callee := Callee.value (Operand.func 25), args := #[Operand.tmp 35, Operand.tmp 36], argTypes := #[25, 3] }, type := 25, pos := "law.go:106", after := #[{ on := 3, ground := Ground.data }, { on := 4, ground := Ground.data }, { on := 2, ground := Ground.chain }], guard := none }) rfl (fun K hK => ?_) AllReadyH.nil
      go_simp
      refine (orename_any z12 _ sb k (Fb9.out.bel B12.out) Kb.out).mono ?_
      rintro e z13 ⟨v13, rfl, hsh, hb⟩
      have B13 := hid (B12.out.trans (hb.mono B12.out.size))
      have Fz813 := hid (bx_bel Fz812.out hb)
      have Fz713 := hid (bx_bel Fz712.out hb)
      have Fr13 := hid (Fr12.out.bel hb)
      clear B12 Fz812 Fz712 Fr12
      rw [Z.out.rb] at hsh
      have Fs13 := hid hsh.at
      obtain ⟨aq, cq, bq, dq, rfl⟩ := hsh.at.form
      clear hsh hb
      refine hK.out _ _ (KH.out _ B13.out) (fun hHeld => ?_)
      clear hK
      refine wpAnyH_ready (rs := [8]) (by kernel_rfl) (by simp) ?_
      refine AllReadyH.cons (o := { dst := none, op := Op.store 25 (Operand.tmp 7) (Operand.tmp 34), type := 0, pos := "law.go:106", after := #[{ on := 6, ground := Ground.data }, { on := 2, ground := Ground.data }, { on := 5, ground := Ground.chain }, { on := 0, ground := Ground.phase }, { on := 1, ground := Ground.phase }, { on := 2, ground := Ground.phase }, { on := 3, ground := Ground.textOnly Departure.lateStores }, { on := 4, ground := Ground.textOnly Departure.lateStores }, { on := 5, ground := Ground.textOnly Departure.lateStoresUnsure }, { on := 6, ground := Ground.phase }, { on := 7, ground := Ground.phase }], guard := none }) rfl (fun K hK => ?_) AllReadyH.nil
      obtain ⟨y0, y1, yf⟩ := cells2 Fz713.out
      go_simp
      clear y0 y1 yf
      obtain ⟨z14, hzz14⟩ : ∃ W, ((z13.setCell ⟨z10.heap.size, 0, none⟩ (.slice ar sr.fs.length cr)).setCell ⟨z10.heap.size, 1, none⟩ (.slice br sr.pr.length dr)) = W := ⟨_, rfl⟩
      have B14 : Hid (Below w9.heap.size w9 z14) := by unfold Hid; rw [← hzz14]; exact set2b B13.out Gz7.out _ _
      have Fr14 : Hid (ShAt z14 (.agg #[.slice ar sr.fs.length cr, .slice br sr.pr.length dr]) sr) := by unfold Hid; rw [← hzz14]; exact Fr13.out.off2 Fz713.out _ _
      have Fs14 : Hid (ShAt z14 (.agg #[.slice aq ss.fs.length cq, .slice bq ss.pr.length dq]) ss) := by unfold Hid; rw [← hzz14]; exact Fs13.out.off2 Fz713.out _ _
      have Fz814 : Hid (z14.heap[w9.heap.size]? = some (.cells #[.slice none 0 0, .slice none 0 0] 25 (0, 0))) := by unfold Hid; rw [← hzz14]; exact (box_off (Nat.ne_of_lt GD.out) _ _).trans Fz813.out
      have Fz714 : Hid (z14.heap[z10.heap.size]? = some (.cells #[(.slice ar sr.fs.length cr), (.slice br sr.pr.length dr)] 25 (0, 0))) := by unfold Hid; rw [← hzz14]; exact box_set2 Fz713.out _ _
      clear B13 Fr13 Fs13 Fz713 Fz813
      try rw [hzz14]
      clear hzz14
      refine hK.out _ _ (KH.out _ B14.out) (fun hHeld => ?_)
      clear hK
      refine wpAnyH_ready (rs := [9]) (by kernel_rfl) (by simp) ?_
      refine AllReadyH.cons (o := { dst := none, op := Op.store 25 (Operand.tmp 8) (Operand.tmp 37), type := 0, pos := "law.go:106", after := #[{ on := 7, ground := Ground.data }, { on := 5, ground := Ground.data }, { on := 8, ground := Ground.chain }, { on := 0, ground := Ground.phase }, { on := 1, ground := Ground.phase }, { on := 2, ground := Ground.phase }, { on := 3, ground := Ground.phase }, { on := 4, ground := Ground.phase }, { on := 5, ground := Ground.phase }, { on := 6, ground := Ground.phase }, { on := 7, ground := Ground.phase }, { on := 8, ground := Ground.phase }], guard := none }) rfl (fun K hK => ?_) AllReadyH.nil
      obtain ⟨y0, y1, yf⟩ := cells2 Fz814.out
      go_simp
      clear y0 y1 yf
      obtain ⟨z15, hzz15⟩ : ∃ W, ((z14.setCell ⟨w9.heap.size, 0, none⟩ (.slice aq ss.fs.length cq)).setCell ⟨w9.heap.size, 1, none⟩ (.slice bq ss.pr.length dq)) = W := ⟨_, rfl⟩
      have B15 : Hid (Below w9.heap.size w9 z15) := by unfold Hid; rw [← hzz15]; exact set2b B14.out Gz8.out _ _
      have Fr15 : Hid (ShAt z15 (.agg #[.slice ar sr.fs.length cr, .slice br sr.pr.length dr]) sr) := by unfold Hid; rw [← hzz15]; exact Fr14.out.off2 Fz814.out _ _
      have Fs15 : Hid (ShAt z15 (.agg #[.slice aq ss.fs.length cq, .slice bq ss.pr.length dq]) ss) := by unfold Hid; rw [← hzz15]; exact Fs14.out.off2 Fz814.out _ _
      have Fz715 : Hid (z15.heap[z10.heap.size]? = some (.cells #[.slice ar sr.fs.length cr, .slice br sr.pr.length dr] 25 (0, 0))) := by unfold Hid; rw [← hzz15]; exact (box_off (Nat.ne_of_gt GD.out) _ _).trans Fz714.out
      have Fz815 : Hid (z15.heap[w9.heap.size]? = some (.cells #[(.slice aq ss.fs.length cq), (.slice bq ss.pr.length dq)] 25 (0, 0))) := by unfold Hid; rw [← hzz15]; exact box_set2 Fz814.out _ _
      clear B14 Fr14 Fs14 Fz814 Fz714
      try rw [hzz15]
      clear hzz15
      refine hK.out _ _ (KH.out _ B15.out) (fun hHeld => ?_)
      clear hK
      refine wpAnyH_done (by kernel_rfl) ?_ _
      show K3 _ _
      exact tail.out _ _ _ _ _ _ _ _ _ _ _ (B9.out.trans (B15.out.mono B9.out.size)) (Fa9.out.bel B15.out) (Fb9.out.bel B15.out) Fr15.out Fs15.out (bx_bel Fba9.out B15.out) (bx_bel Fbb9.out B15.out) Fz715.out Fz815.out
end Go.Proofs.Ytnllcfagdcepfaa
