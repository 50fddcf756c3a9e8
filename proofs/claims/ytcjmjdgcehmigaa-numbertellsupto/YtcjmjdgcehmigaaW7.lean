/-
  The walk of the law NumberTells. No conditions but bounds.
-/
import Derived.Test.YtcjmjdgcehmigaaW6
set_option linter.unusedVariables false
set_option linter.unusedSimpArgs false
namespace Go.Proofs.Ytcjmjdgcehmigaa
open Go.RowKit
namespace NumberTells

set_option maxRecDepth 16000 in
set_option maxHeartbeats 4000000 in
theorem walk (w : World) (v : Value) (t : M.Tr) (n : Int) (hv : StmAt w NoX v t) (hN : (M.nodes t).length ≤ 1048576) (hF : Few 4294967296 t) :
    Calls Try.prog 3 #[v, .int .i64 n] w fun e w' => e = .returned (.bool true) ∧ Below w.heap.size w w' := by
  have hsz : t.sz ≤ 1048576 := by rw [← M.nodes_len]; exact hN
  obtain ⟨va, vc, rfl⟩ := StmAt.form hv
  obtain ⟨si, so, HS⟩ : ∃ si so, Hid (M.site (M.nodes t) n = (si, so)) := ⟨_, _, rfl⟩
  obtain ⟨x1, x2, x3, HB⟩ : ∃ x1 x2 x3, Hid (M.blocks (M.nodes t) n = (x1, x2, x3)) := ⟨_, _, _, rfl⟩
  go_enter Try.func3, Try.ntmps3
  go_wp2_with (go_at_call 8; refine stopHere ?_)
  refine stopAt ?_
  refine (deep_any w _ t hv (by omega)).mono ?_
  rintro e w1 ⟨rfl, b1⟩
  by_cases hbig : M.big t = true
  · rw [hbig]
    go_wp2_with (go_at_call 9; refine stopHere ?_)
    refine stopAt ?_
    refine (fixed_any w1).mono ?_
    rintro e w2 ⟨rfl, b2⟩
    go_wp2
    go_ret
    exact ⟨rfl, b1.trans (b2.mono b1.size)⟩
  have hbf : M.big t = false := by simpa using hbig
  rw [hbf]
  clear hbig hbf
  go_wp2_with (go_at_call 10; refine stopHere ?_)
  refine stopAt ?_
  refine (site_any w1 _ t n (hv.bel b1) (by omega)).mono ?_
  rintro e w2 ⟨rfl, b2⟩
  rw [HS.out]
  have B2 := b1.trans (b2.mono b1.size)
  go_wp2_with (go_at_call 11; refine stopHere ?_)
  refine stopAt ?_
  refine (rsite_any w2 _ t n hsz (hv.bel B2)).mono ?_
  rintro e w3 ⟨rfl, b3⟩
  rw [HS.out]
  have B3 := B2.trans (b3.mono B2.size)
  go_wp2_with (go_at_call 12; refine stopHere ?_)
  refine stopAt ?_
  refine (blocks_any w3 _ t n (hv.bel B3) (by omega)).mono ?_
  rintro e w4 ⟨rfl, b4⟩
  rw [HB.out]
  have B4 := B3.trans (b4.mono B3.size)
  go_wp2_with (go_at_call 13; refine stopHere ?_)
  refine stopAt ?_
  refine (rblocks_any w4 _ t n hsz (hv.bel B4)).mono ?_
  rintro e w5 ⟨rfl, b5⟩
  rw [HB.out]
  have B5 := B4.trans (b5.mono B4.size)
  go_wp2_with (go_at_call 14; refine stopHere ?_)
  refine stopAt ?_
  refine (rlist_any w5 _ t hsz (hv.bel B5)).mono ?_
  rintro e w6 ⟨q6, m6, rfl, s6, b6⟩
  have B6 := B5.trans (b6.mono B5.size)
  go_wp2_with (go_at_call 9; refine stopHere ?_)
  refine stopAt ?_
  refine (fixed_any w6).mono ?_
  rintro e w7 ⟨rfl, b7⟩
  have B7 := B6.trans (b7.mono B6.size)
  have s7 := s6.bel b7
  go_wp2_with (go_at_call 16; refine stopHere ?_)
  refine stopAt ?_
  refine (list_any w7 _ t (hv.bel B7) (by omega) hF).mono ?_
  rintro e w8 ⟨q8, m8, rfl, s8, b8⟩
  have B8 := B7.trans (b8.mono B7.size)
  go_wp2_with (go_at_call 15; refine stopHere ?_)
  refine stopAt ?_
  refine (sameU _ w8 _ _ _ _ (Nat.le_refl _) s8 (s7.bel b8)).mono ?_
  rintro e w9 ⟨rfl, b9⟩
  rw [decide_eq_true rfl]
  have B9 := B8.trans (b9.mono B8.size)
  go_wp2_with (go_at_call 17; refine stopHere ?_)
  refine stopAt ?_
  refine (count_any w9 _ t (hv.bel B9) (by omega)).mono ?_
  rintro e w10 ⟨rfl, b10⟩
  have B10 := B9.trans (b10.mono B9.size)
  go_wp2_with (go_at_call 18; refine stopHere ?_)
  refine stopAt ?_
  refine (sites_any w10 _ t (hv.bel B10) (by omega)).mono ?_
  rintro e w11 ⟨rfl, b11⟩
  have B11 := B10.trans (b11.mono B10.size)
  go_wp2_with (go_at_call 19; refine stopHere ?_)
  refine stopAt ?_
  refine (rsites_any w11 _ t hsz (hv.bel B11)).mono ?_
  rintro e w12 ⟨rfl, b12⟩
  have B12 := B11.trans (b12.mono B11.size)
  go_wp2
  go_ret
  exact ⟨ret_bool (by simp), B12⟩
end NumberTells
end Go.Proofs.Ytcjmjdgcehmigaa
