/-
  proteanlaw02.ParseTexts, walked: whatever the string is: true, and all that was there is as it was. No conditions.
-/
import Derived.Test.YtkonkdhoakcmdaaGreatDoorT18
set_option linter.unusedVariables false
set_option linter.unusedSimpArgs false
namespace Go.Proofs.YtkonkdhoakcmdaaGreatDoor
open Go.RowKit
namespace ParseTexts

set_option maxRecDepth 16000 in
set_option maxHeartbeats 3200000 in
theorem walk (s : ByteArray) (w : World) (hs : s.size ≤ maxLen) :
    Calls Tryz.prog 4 #[.string s] w fun e w' => e = .returned (.bool true) ∧ Below w.heap.size w w' := by
  obtain ⟨p, x, y, H⟩ : ∃ p x y, Hid (M.parseR s.data.toList = (p, (x, y))) := ⟨_, _, _, rfl⟩
  have hs' := hs
  unfold maxLen at hs'
  go_enter Tryz.func4, Tryz.ntmps4
  go_wp2_with fail
  refine (parseAt _ _ _ _ _ hs rfl H.out).mono ?_
  rintro e w1 ⟨hbw1, b1, c1, rfl, hP1⟩
  go_wp2_with fail
  refine (rparseAt _ _ _ _ hs H.out).mono ?_
  rintro e w2 ⟨hb, b2, c2, rfl, hP2⟩
  obtain ⟨hA2, hB2, _, hbn⟩ := two_new hb
  have hbw2 := hbw1.trans (hbn.mono hbw1.size)
  have hQ1 := hP1.bel hbn
  clear hP1 hb hbn
  go_wp2_with fail
  refine (fixed_any _).mono ?_
  rintro e w3 ⟨rfl, hb⟩
  obtain ⟨hC3, hD3, _, hbn⟩ := two_new hb
  have hA3 := kept hbn hA2
  have hB3 := kept hbn hB2
  have hbw3 := hbw2.trans (hbn.mono hbw2.size)
  have hR1 := hQ1.bel hbn
  have hR2 := hP2.bel hbn
  clear hP2 hQ1 hb hbn hA2 hB2
  have k1 := cell0 hA3
  have k2 := cell0 hC3
  go_wp2_with fail
  refine (rsame_eq _ _ _ p hR1 hR2).mono ?_
  rintro e w4 ⟨rfl, hb⟩
  have hbw4 := hbw3.trans (hb.mono hbw3.size)
  obtain ⟨g0, g1, gf, gz⟩ := cells2 (kept hb hB3)
  obtain ⟨m0, m1, mf, mz'⟩ := cells2 (kept hb hD3)
  clear hb k1 k2
  go_wp2_with (first | (go_at_call 12; refine (keyword_any _ _).mono ?_; rintro e w5 ⟨rfl, hb5⟩) | (go_at_call 13; refine (rKeyword_any _ _).mono ?_; rintro e w6 ⟨rfl, hb6⟩))
  go_ret

  exact ⟨ret_bool (by simp), hbw4.trans (hb6.mono hbw4.size)⟩
end ParseTexts
end Go.Proofs.YtkonkdhoakcmdaaGreatDoor
