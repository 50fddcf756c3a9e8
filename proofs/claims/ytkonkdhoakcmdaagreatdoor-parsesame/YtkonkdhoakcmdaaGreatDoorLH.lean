/-
  The walks of the document's own small functions (proteanref01: Blank, Letter, Digit, Inner, Sign): each tells a class of bytes.
-/
import Derived.Test.YtkonkdhoakcmdaaGreatDoorLG
import Derived.Test.YtkonkdhoakcmdaaGreatDoorMM
set_option linter.unusedVariables false
namespace Go.Proofs.YtkonkdhoakcmdaaGreatDoor
open Go.RowKit

theorem cls1 (c : Int) : M.cls c = 1 ↔ (c = 9 ∨ c = 10 ∨ c = 13 ∨ c = 32) := by unfold M.cls; repeat (split; omega); omega
theorem cls3 (c : Int) : M.cls c = 3 ↔ ((97 ≤ c ∧ c ≤ 122) ∨ (65 ≤ c ∧ c ≤ 90)) := by unfold M.cls; repeat (split; omega); omega
theorem cls4 (c : Int) : M.cls c = 4 ↔ (48 ≤ c ∧ c ≤ 57) := by unfold M.cls; repeat (split; omega); omega
theorem cls6 (c : Int) : M.cls c = 6 ↔ c = 95 := by unfold M.cls; repeat (split; omega); omega
theorem cls2 (c : Int) : M.cls c = 2 ↔ c = 35 := by unfold M.cls; repeat (split; omega); omega
theorem cls5 (c : Int) : M.cls c = 5 ↔ (c = 123 ∨ c = 125 ∨ c = 40 ∨ c = 41 ∨ c = 44 ∨ c = 59 ∨ c = 46 ∨ c = 61 ∨ c = 43 ∨ c = 45 ∨ c = 42 ∨ c = 60 ∨ c = 38 ∨ c = 58) := by unfold M.cls; repeat (split; omega); omega

/-- is a byte of that class? -/
def isC (k : Int) (b : UInt8) : Bool := decide (M.cls b.toNat = k)
theorem isC_true {k : Int} {b : UInt8} (h : M.cls b.toNat = k) : isC k b = true := decide_eq_true h
theorem isC_false {k : Int} {b : UInt8} (h : ¬ M.cls b.toNat = k) : isC k b = false := decide_eq_false h

set_option maxHeartbeats 400000 in
theorem rBlank_any (b : UInt8) (w : World) :
    Calls Tryz.prog 41 #[.int .u8 b.toNat] w fun e w' => e = .returned (.bool (isC 1 b)) ∧ w' = w := by
  obtain ⟨c, hc⟩ : ∃ c : Int, (b.toNat : Int) = c := ⟨_, rfl⟩
  have HC : Hid ((b.toNat : Int) = c) := hc
  rw [hc]
  clear hc
  go_enter Tryz.func41, Tryz.ntmps41
  go_wp2
  all_goals
    go_ret
    refine ⟨ret_bool ?_, rfl⟩
    rw [isC, HC.out, Bool.eq_iff_iff]
    simp [cls1]
    try omega

set_option maxHeartbeats 400000 in
theorem rLetter_any (b : UInt8) (w : World) :
    Calls Tryz.prog 42 #[.int .u8 b.toNat] w fun e w' => e = .returned (.bool (isC 3 b)) ∧ w' = w := by
  obtain ⟨c, hc⟩ : ∃ c : Int, (b.toNat : Int) = c := ⟨_, rfl⟩
  have HC : Hid ((b.toNat : Int) = c) := hc
  rw [hc]
  clear hc
  go_enter Tryz.func42, Tryz.ntmps42
  go_wp2
  all_goals
    go_ret
    refine ⟨ret_bool ?_, rfl⟩
    rw [isC, HC.out, Bool.eq_iff_iff]
    simp [cls3]
    try omega

set_option maxHeartbeats 400000 in
theorem rDigit_any (b : UInt8) (w : World) :
    Calls Tryz.prog 44 #[.int .u8 b.toNat] w fun e w' => e = .returned (.bool (isC 4 b)) ∧ w' = w := by
  obtain ⟨c, hc⟩ : ∃ c : Int, (b.toNat : Int) = c := ⟨_, rfl⟩
  have HC : Hid ((b.toNat : Int) = c) := hc
  rw [hc]
  clear hc
  go_enter Tryz.func44, Tryz.ntmps44
  go_wp2
  all_goals
    go_ret
    refine ⟨ret_bool ?_, rfl⟩
    rw [isC, HC.out, Bool.eq_iff_iff]
    simp [cls4]
    try omega

set_option maxHeartbeats 400000 in
theorem rInner_any (b : UInt8) (w : World) :
    Calls Tryz.prog 43 #[.int .u8 b.toNat] w fun e w' => e = .returned (.bool (M.pInn b)) ∧ w' = w := by
  by_cases h3 : M.cls b.toNat = 3
  · have HP : Hid (M.pInn b = true) := M.cls_pInn b (.inl h3)
    have hi := isC_true h3
    clear h3
    go_enter Tryz.func43, Tryz.ntmps43
    go_wp2_with (go_at_call 42; refine (rLetter_any _ _).mono ?_; rintro e w' ⟨rfl, rfl⟩)
    go_ret
    exact ⟨ret_bool HP.out.symm, rfl⟩
  · by_cases h4 : M.cls b.toNat = 4
    · have HP : Hid (M.pInn b = true) := M.cls_pInn b (.inr (.inl h4))
      have hi := isC_false h3
      have hi4 := isC_true h4
      clear h3 h4
      go_enter Tryz.func43, Tryz.ntmps43
      go_wp2_with (first | (go_at_call 42; refine (rLetter_any _ _).mono ?_; rintro e w' ⟨rfl, rfl⟩) | (go_at_call 44; refine (rDigit_any _ _).mono ?_; rintro e w' ⟨rfl, rfl⟩))
      go_ret
      exact ⟨ret_bool HP.out.symm, rfl⟩
    · have HP : Hid (M.pInn b = (((b.toNat : Int)) == 95)) := by
        unfold Hid
        rw [Bool.eq_iff_iff]
        simp [M.pInn, h3, h4, cls6]
      have hi := isC_false h3
      have hi4 := isC_false h4
      clear h3 h4
      go_enter Tryz.func43, Tryz.ntmps43
      go_wp2_with (first | (go_at_call 42; refine (rLetter_any _ _).mono ?_; rintro e w' ⟨rfl, rfl⟩) | (go_at_call 44; refine (rDigit_any _ _).mono ?_; rintro e w' ⟨rfl, rfl⟩))
      go_ret
      exact ⟨ret_bool HP.out.symm, rfl⟩

def sg : ByteArray := ⟨#[123, 125, 40, 41, 44, 59, 46, 61, 43, 45, 42, 60, 38, 58]⟩
theorem sg_cls : ∀ j : Fin 14, M.cls (sg[j.val]'j.isLt).toNat = 5 := by decide
theorem sg_has (c : Int) (h : M.cls c = 5) : ∃ j : Fin 14, ((sg[j.val]'j.isLt).toNat : Int) = c := by
  rw [cls5] at h
  rcases h with rfl | rfl | rfl | rfl | rfl | rfl | rfl | rfl | rfl | rfl | rfl | rfl | rfl | rfl
  · exact ⟨0, rfl⟩
  · exact ⟨1, rfl⟩
  · exact ⟨2, rfl⟩
  · exact ⟨3, rfl⟩
  · exact ⟨4, rfl⟩
  · exact ⟨5, rfl⟩
  · exact ⟨6, rfl⟩
  · exact ⟨7, rfl⟩
  · exact ⟨8, rfl⟩
  · exact ⟨9, rfl⟩
  · exact ⟨10, rfl⟩
  · exact ⟨11, rfl⟩
  · exact ⟨12, rfl⟩
  · exact ⟨13, rfl⟩

set_option maxHeartbeats 400000 in
theorem rSign_any (b : UInt8) (w : World) :
    Calls Tryz.prog 45 #[.int .u8 b.toNat] w fun e w' => e = .returned (.bool (isC 5 b)) ∧ w' = w := by
  go_enter Tryz.func45, Tryz.ntmps45
  go_wp2
  go_loop [4] (fun i => ∃ j : Nat, j ≤ 14 ∧ i = .int .i64 j ∧ ∀ i (h : i < 14), i < j → ¬ (sg[i]'h).toNat = b.toNat) (fun i => 14 - (intOf i).toNat)
  case atStart => exact ⟨0, by omega, rfl, fun i _ h => by omega⟩
  case round =>
    obtain ⟨j, hj, rfl, hn⟩ := hrel
    have HN := hid hn
    clear hn
    by_cases hlt : j < 14
    · by_cases he : (sg[j]'hlt).toNat = b.toNat
      · have hb : (((((⟨#[123, 125, 40, 41, 44, 59, 46, 61, 43, 45, 42, 60, 38, 58]⟩ : ByteArray)[j]'hlt).toNat : Int)) == (b.toNat : Int)) = true := beq_iff_eq.2 (congrArg (fun n : Nat => (n : Int)) he)
        have HE := hid he
        clear he
        go_wp2
        go_ret
        refine ⟨ret_bool ?_, rfl⟩
        rw [isC_true]
        have := sg_cls ⟨j, hlt⟩
        simp only at this
        rw [HE.out] at this
        exact this
      · have hb : (((((⟨#[123, 125, 40, 41, 44, 59, 46, 61, 43, 45, 42, 60, 38, 58]⟩ : ByteArray)[j]'hlt).toNat : Int)) == (b.toNat : Int)) = false := beq_eq_false_iff_ne.2 (fun h => he (Int.ofNat.inj h))
        have HE := hid he
        clear he
        go_wp2
        refine ⟨⟨j + 1, by omega, by go_num, fun i h hi => ?_⟩, by simp [intOf]; omega⟩
        by_cases hij : i = j
        · subst hij; exact HE.out
        · exact HN.out i h (by omega)
    · go_wp2
      go_ret
      refine ⟨ret_bool ?_, rfl⟩
      rw [isC_false]
      intro h
      obtain ⟨i, hi⟩ := sg_has _ h
      exact HN.out i.val i.isLt (by omega) (by omega)
end Go.Proofs.YtkonkdhoakcmdaaGreatDoor
