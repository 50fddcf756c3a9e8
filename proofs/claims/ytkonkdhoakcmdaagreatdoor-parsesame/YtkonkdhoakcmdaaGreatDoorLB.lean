/-
  The walks of lex.begins, lex.Word, lex.isNumber, lex.mayBe and strings.Clone.
-/
import Derived.Test.YtkonkdhoakcmdaaGreatDoorLA
import Derived.Deep.QuietTactic
import Derived.BigQuiet
set_option linter.unusedVariables false
namespace Go.Proofs.YtkonkdhoakcmdaaGreatDoor
open Go.RowKit

set_option maxHeartbeats 400000 in
theorem begins_any (s : ByteArray) (k : Int) (w : World) (hs : s.size ≤ maxLen) :
    Calls Tryz.prog 76 #[.string s, .int .i64 k] w fun e w' => e = .returned (.bool (M.begB s.data.toList k)) ∧ w' = w := by
  unfold maxLen at hs
  rcases hl : s.data.toList with _ | ⟨c, r⟩
  · obtain rfl : s = ⟨#[]⟩ := by cases s; simp_all
    go_enter Tryz.func76, Tryz.ntmps76
    go_wp2
    go_ret
    exact ⟨rfl, rfl⟩
  · have h0 : 0 < s.size := by rw [← len_list, hl]; simp
    have HL : Hid (s.data.toList = c :: r) := hl
    have hz : s.toList.isEmpty = false := by rw [ByteArray.toList_eq, hl]; rfl
    clear hl
    go_enter Tryz.func76, Tryz.ntmps76
    go_wp2_with (go_at_call 35; refine (classOf_byte _ _).mono ?_; rintro e w' ⟨rfl, rfl⟩)
    go_ret
    refine ⟨ret_bool ?_, rfl⟩
    have hc : s[0] = c := by
      have := at_list s 0 h0
      rw [← this]; simp [HL.out]
    simp [M.begB, hc]

set_option maxHeartbeats 400000 in
theorem word_any (s : ByteArray) (w : World) (hs : s.size ≤ maxLen) :
    Calls Tryz.prog 74 #[.string s] w fun e w' => e = .returned (.bool (M.wordB s.data.toList)) ∧ w' = w := by
  have hs' := hs
  unfold maxLen at hs'
  by_cases hz : s.size ≤ 65536
  · cases hb : M.begB s.data.toList 3
    · have HB : Hid (M.begB s.data.toList 3 = false) := hb
      go_enter Tryz.func74, Tryz.ntmps74
      go_wp2_with (go_at_call 76; refine (begins_any _ _ _ hs).mono ?_; rintro e w' ⟨rfl, rfl⟩)
      go_ret
      exact ⟨ret_bool (by simp [M.wordB, HB.out]), rfl⟩
    · have HB : Hid (M.begB s.data.toList 3 = true) := hb
      go_enter Tryz.func74, Tryz.ntmps74
      go_wp2_with (first | (go_at_call 76; refine (begins_any _ _ _ hs).mono ?_; rintro e w' ⟨rfl, rfl⟩) | (go_at_call 37; refine (wordEnd_any s 0 _ hz (Nat.zero_le _)).mono ?_; rintro e w' ⟨rfl, rfl⟩))
      go_ret
      refine ⟨ret_bool ?_, rfl⟩
      rw [M.wordB, HB.out, len_list, decide_eq_true hz, Bool.eq_iff_iff]; simp; omega
  · go_enter Tryz.func74, Tryz.ntmps74
    go_wp2
    go_ret
    exact ⟨ret_bool (by rw [M.wordB, len_list, decide_eq_false hz]; rfl), rfl⟩

set_option maxHeartbeats 400000 in
theorem isNumber_any (s : ByteArray) (w : World) (hs : s.size ≤ maxLen) :
    Calls Tryz.prog 75 #[.string s] w fun e w' => e = .returned (.bool (M.numB s.data.toList)) ∧ w' = w := by
  unfold maxLen at hs
  rcases hl : s.data.toList with _ | ⟨c, r⟩
  · obtain rfl : s = ⟨#[]⟩ := by cases s; simp_all
    go_enter Tryz.func75, Tryz.ntmps75
    go_wp2
    go_ret
    exact ⟨rfl, rfl⟩
  · rw [← hl]
    have HL : Hid (s.data.toList = c :: r) := hl
    have hz : s.toList.isEmpty = false := by rw [ByteArray.toList_eq, hl]; rfl
    clear hl
    by_cases h9 : s.size ≤ 9
    · go_enter Tryz.func75, Tryz.ntmps75
      go_wp2_with (go_at_call 38; refine (digitsEnd_any s 0 _ (by omega) (Nat.zero_le _)).mono ?_; rintro e w' ⟨rfl, rfl⟩)
      go_ret
      refine ⟨ret_bool ?_, rfl⟩
      rw [M.numB, len_list, decide_eq_true h9, Bool.eq_iff_iff]
      have : s.data.toList.isEmpty = false := by rw [HL.out]; rfl
      rw [this]; simp; omega
    · go_enter Tryz.func75, Tryz.ntmps75
      go_wp2
      go_ret
      exact ⟨ret_bool (by rw [M.numB, len_list, decide_eq_false h9]; simp), rfl⟩

set_option maxHeartbeats 400000 in
theorem clone_any (s : ByteArray) (w : World) (hs : s.size ≤ 281474976710656) :
    Calls Tryz.prog 40 #[.string s] w fun e w' => e = .returned (.string s) ∧ Below w.heap.size w w' := by
  go_enter Tryz.func40, Tryz.ntmps40
  go_wp2_with (go_at_call 59; refine (Tryz.stringslite_Clone _ _ hs).mono ?_; rintro e w' ⟨rfl, hb⟩)
  go_ret
  exact ⟨rfl, hb⟩

set_option maxHeartbeats 400000 in
theorem mayBe_any (x : M.Tok) (w : World) (hs : x.t.size ≤ maxLen) :
    Calls Tryz.prog 62 #[.agg #[.int .i64 x.k, .string x.t, .int .i64 x.p]] w fun e w' => e = .returned (.bool (M.may1 x)) ∧ Below w.heap.size w w' := by
  have hs' := hs
  unfold maxLen at hs'
  go_enter Tryz.func62, Tryz.ntmps62
  go_wp2_with (first | (go_at_call 74; refine (word_any _ _ hs).mono ?_; rintro e w' ⟨rfl, rfl⟩) | (go_at_call 75; refine (isNumber_any _ _ hs).mono ?_; rintro e w' ⟨rfl, rfl⟩) | (go_at_call 76; refine (begins_any _ _ _ hs).mono ?_; rintro e w' ⟨rfl, rfl⟩))
  all_goals
    go_ret
    refine ⟨ret_bool ?_, (Below.refl _ _).alloc (Nat.le_refl _) _⟩
    simp_all [M.may1]
  · intro _; omega
  · intro _; exfalso; omega
end Go.Proofs.YtkonkdhoakcmdaaGreatDoor
