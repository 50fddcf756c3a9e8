/-
  The walks of the small functions of package lex: what each call answers, for every argument that stands within the text.
-/
import Derived.Test.YtkonkdhoakcmdaaGreatDoorRows
import Derived.Test.YtkonkdhoakcmdaaGreatDoorMM
import Derived.Test.YtkonkdhoakcmdaaGreatDoorShelf
import Derived.WalkKit
import Derived.WalkSpells
import Derived.WalkLawsBesides
set_option linter.unusedVariables false
namespace Go.Proofs.YtkonkdhoakcmdaaGreatDoor
open Go.RowKit

theorem ret_int {k : IntKind} {a b : Int} (h : a = b) : Ending.returned (.int k a) = .returned (.int k b) := by rw [h]
theorem ret_bool {a b : Bool} (h : a = b) : Ending.returned (.bool a) = .returned (.bool b) := by rw [h]

set_option maxHeartbeats 1000000 in
theorem classOf_any (c : Int) (w : World) (h0 : 0 ≤ c) (h1 : c ≤ 255) :
    Calls Tryz.prog 35 #[.int .u8 c] w fun e w' => e = .returned (.int .i64 (M.cls c)) ∧ w' = w := by
  go_enter Tryz.func35, Tryz.ntmps35
  go_wp2_with (go_at_call 58; refine (Tryz.strings_IndexByte _ _ _).mono ?_; rintro e w' ⟨rfl, rfl⟩)
  all_goals
    go_ret
    refine ⟨ret_int ?_, rfl⟩
    try simp only [beq_iff_eq, beq_eq_false_iff_ne, ne_eq, M.idx_iff c h0 h1, M.idx_lt c h0 h1] at *
    first
      | (exfalso; omega)
      | (unfold M.cls; repeat (first | rw [if_pos (by omega)] | rw [if_neg (by omega)]))

theorem classOf_byte (b : UInt8) (w : World) :
    Calls Tryz.prog 35 #[.int .u8 b.toNat] w fun e w' => e = .returned (.int .i64 (M.cls b.toNat)) ∧ w' = w :=
  classOf_any b.toNat w (by omega) (by have := b.toNat_lt; omega)

theorem at_list (s : ByteArray) (k : Nat) (h : k < s.size) : s.data.toList[k]'(by simpa using h) = s[k] := rfl
theorem len_list (s : ByteArray) : s.data.toList.length = s.size := by simp

set_option maxHeartbeats 400000 in
theorem remarkEnd_any (s : ByteArray) (k : Nat) (w : World) (hs : s.size ≤ 65536) (hk : k ≤ s.size) :
    Calls Tryz.prog 36 #[.string s, .int .i64 k] w fun e w' => e = .returned (.int .i64 (M.ext M.pNl s.data.toList k : Nat)) ∧ w' = w := by
  go_enter Tryz.func36, Tryz.ntmps36
  go_wp2
  go_loop [1] (fun i => ∃ j : Nat, j ≤ s.size ∧ i = .int .i64 j ∧ M.ext M.pNl s.data.toList j = M.ext M.pNl s.data.toList k) (fun i => s.size - (intOf i).toNat)
  case atStart => exact ⟨k, hk, rfl, rfl⟩
  case round =>
    obtain ⟨j, hj, rfl, hx⟩ := hrel
    have HX : Hid (M.ext M.pNl s.data.toList j = M.ext M.pNl s.data.toList k) := hx
    clear hx
    by_cases hlt : j < s.size
    · go_wp2
      · refine ⟨⟨j + 1, by omega, by go_num, ?_⟩, by simp [intOf]; omega⟩
        rw [← HX.out]
        exact (M.ext_yes _ _ _ (by rw [len_list]; omega) (decide_eq_true (by rw [at_list s j hlt]; simp_all; omega))).symm
      · go_ret
        refine ⟨ret_int ?_, rfl⟩
        rw [← HX.out, M.ext_no _ _ _ (by rw [len_list]; omega) (decide_eq_false (by rw [at_list s j hlt]; simp_all; omega))]
    · go_wp2
      go_ret
      exact ⟨ret_int (by rw [← HX.out, M.ext_end _ _ _ (by rw [len_list]; omega)]), rfl⟩

set_option maxHeartbeats 400000 in
theorem goesOn_any (s : ByteArray) (k : Nat) (w : World) (hs : s.size ≤ 65536) (hk : k ≤ s.size) :
    Calls Tryz.prog 39 #[.string s, .int .i64 k] w fun e w' => e = .returned (.bool (M.goB s.data.toList k)) ∧ w' = w := by
  by_cases hlt : k < s.size
  · go_enter Tryz.func39, Tryz.ntmps39
    go_wp2_with (go_at_call 35; refine (classOf_byte _ _).mono ?_; rintro e w' ⟨rfl, rfl⟩)
    · go_ret
      exact ⟨ret_bool (M.goB_true _ _ (by rw [len_list]; omega) (.inl ‹_›)).symm, rfl⟩
    · go_ret
      exact ⟨ret_bool (M.goB_true _ _ (by rw [len_list]; omega) (.inr (.inl ‹_›))).symm, rfl⟩
    · go_ret
      refine ⟨ret_bool ?_, rfl⟩
      rw [M.goB_in _ _ (by rw [len_list]; omega), at_list s k hlt, M.pInn_eq]
  · go_enter Tryz.func39, Tryz.ntmps39
    go_wp2
    go_ret
    exact ⟨ret_bool (M.goB_end _ _ (by rw [len_list]; omega)).symm, rfl⟩

set_option maxHeartbeats 400000 in
theorem wordEnd_any (s : ByteArray) (k : Nat) (w : World) (hs : s.size ≤ 65536) (hk : k ≤ s.size) :
    Calls Tryz.prog 37 #[.string s, .int .i64 k] w fun e w' => e = .returned (.int .i64 (M.ext M.pInn s.data.toList k : Nat)) ∧ w' = w := by
  go_enter Tryz.func37, Tryz.ntmps37
  go_wp2
  go_loop [1] (fun i => ∃ j : Nat, j ≤ s.size ∧ i = .int .i64 j ∧ M.ext M.pInn s.data.toList j = M.ext M.pInn s.data.toList k) (fun i => s.size - (intOf i).toNat)
  case atStart => exact ⟨k, hk, rfl, rfl⟩
  case round =>
    obtain ⟨j, hj, rfl, hx⟩ := hrel
    have HX : Hid (M.ext M.pInn s.data.toList j = M.ext M.pInn s.data.toList k) := hx
    clear hx
    cases hg : M.goB s.data.toList j
    · have HG : Hid (M.goB s.data.toList j = false) := hg
      go_wp2_with (go_at_call 39; refine (goesOn_any s j _ hs hj).mono ?_; rintro e w' ⟨rfl, rfl⟩)
      go_ret
      refine ⟨ret_int ?_, rfl⟩
      rw [← HX.out]
      by_cases hlt : j < s.size
      · rw [M.ext_no _ _ _ (by rw [len_list]; omega) (by rw [← M.goB_in]; exact HG.out)]
      · rw [M.ext_end _ _ _ (by rw [len_list]; omega)]
    · have HG : Hid (M.goB s.data.toList j = true) := hg
      have hlt : j < s.size := by have := M.goB_lt _ _ hg; rw [len_list] at this; exact this
      go_wp2_with (go_at_call 39; refine (goesOn_any s j _ hs hj).mono ?_; rintro e w' ⟨rfl, rfl⟩)
      refine ⟨⟨j + 1, by omega, by go_num, ?_⟩, by simp [intOf]; omega⟩
      rw [← HX.out]
      exact (M.ext_yes _ _ _ (by rw [len_list]; omega) (by rw [← M.goB_in]; exact HG.out)).symm

set_option maxHeartbeats 400000 in
theorem digitsEnd_any (s : ByteArray) (k : Nat) (w : World) (hs : s.size ≤ 65536) (hk : k ≤ s.size) :
    Calls Tryz.prog 38 #[.string s, .int .i64 k] w fun e w' => e = .returned (.int .i64 (M.ext M.pDig s.data.toList k : Nat)) ∧ w' = w := by
  go_enter Tryz.func38, Tryz.ntmps38
  go_wp2
  go_loop [1] (fun i => ∃ j : Nat, j ≤ s.size ∧ i = .int .i64 j ∧ M.ext M.pDig s.data.toList j = M.ext M.pDig s.data.toList k) (fun i => s.size - (intOf i).toNat)
  case atStart => exact ⟨k, hk, rfl, rfl⟩
  case round =>
    obtain ⟨j, hj, rfl, hx⟩ := hrel
    have HX : Hid (M.ext M.pDig s.data.toList j = M.ext M.pDig s.data.toList k) := hx
    clear hx
    by_cases hlt : j < s.size
    · by_cases h4 : M.cls s[j].toNat = 4
      · have HG : Hid (M.cls s[j].toNat = 4) := h4
        have hb : (M.cls s[j].toNat == 4) = true := by simp [h4]
        clear h4
        go_wp2_with (go_at_call 35; refine (classOf_byte _ _).mono ?_; rintro e w' ⟨rfl, rfl⟩)
        refine ⟨⟨j + 1, by omega, by go_num, ?_⟩, by simp [intOf]; omega⟩
        rw [← HX.out]
        exact (M.ext_yes _ _ _ (by rw [len_list]; omega) (decide_eq_true (by rw [at_list s j hlt]; exact HG.out))).symm
      · have HG : Hid (¬ M.cls s[j].toNat = 4) := h4
        have hb : (M.cls s[j].toNat == 4) = false := by simp [h4]
        clear h4
        go_wp2_with (go_at_call 35; refine (classOf_byte _ _).mono ?_; rintro e w' ⟨rfl, rfl⟩)
        go_ret
        refine ⟨ret_int ?_, rfl⟩
        rw [← HX.out, M.ext_no _ _ _ (by rw [len_list]; omega) (decide_eq_false (by rw [at_list s j hlt]; exact HG.out))]
    · go_wp2
      go_ret
      exact ⟨ret_int (by rw [← HX.out, M.ext_end _ _ _ (by rw [len_list]; omega)]), rfl⟩
end Go.Proofs.YtkonkdhoakcmdaaGreatDoor
