/-
  PROVED: the law LexWords holds for every two strings: two words of at most 1000 bytes, parted by a blank, are read as two tokens, at their places, and are printed as they were; the call returns true and leaves all that was there as it was. Conditions: none beyond the given statement's own.
-/
import Derived.Test.YtilkkopgbdppjaaG
import Derived.Test.YtilkkopgbdppjaaMathE
import Derived.ProofKit
import Derived.OpenShut
import Derived.ShutString
set_option linter.unusedVariables false
namespace Go.Proofs.Ytilkkopgbdppjaa
open Go.ChangeShapes Go.WideShapes Go.ChangeAt Go.RowKit
open Go.ChangeMaps (open_string shut_string)

namespace LexWords

theorem join_list (a b : ByteArray) : (a ++ (⟨#[32]⟩ : ByteArray) ++ b).data.toList = a.data.toList ++ (32 :: b.data.toList) := by
  simp

/-- the two calls of the fixed part, where no more is asked -/
theorem walk_short (a0 a1 : ByteArray) (w : World) (h0 : a0.size ≤ maxLen) (h1 : a1.size ≤ maxLen) (hc : ¬ (a0.size ≤ 1000 ∧ a1.size ≤ 1000 ∧ M.wordB a0.data.toList = true ∧ M.wordB a1.data.toList = true)) :
    Calls Try.prog 7 #[.string a0, .string a1] w fun e w' => e = .returned (.bool true) ∧ Below w.heap.size w w' := by
  have h0' := h0
  have h1' := h1
  unfold maxLen at h0' h1'
  by_cases c0 : a0.size ≤ 1000
  · by_cases c1 : a1.size ≤ 1000
    · cases c2 : M.wordB a0.data.toList
      · clear hc
        go_enter Try.func7, Try.ntmps7
        go_wp2_with fail
        refine (fixed_any _).mono ?_
        rintro e w1 ⟨rfl, hb1⟩
        go_wp2_with (first | (go_at_call 15; refine (word_any _ _ ?hs).mono ?_; (case hs => first | exact h0 | exact h1); rintro e w' ⟨rfl, rfl⟩) | (go_at_call 10; refine (fixed_any _).mono ?_; rintro e w2 ⟨rfl, hb2⟩))
        go_ret
        exact ⟨rfl, hb1.trans (hb2.mono hb1.size)⟩
      · cases c3 : M.wordB a1.data.toList
        · clear hc
          go_enter Try.func7, Try.ntmps7
          go_wp2_with fail
          refine (fixed_any _).mono ?_
          rintro e w1 ⟨rfl, hb1⟩
          go_wp2_with (first | (go_at_call 15; refine (word_any _ _ ?hs).mono ?_; (case hs => first | exact h0 | exact h1); rintro e w' ⟨rfl, rfl⟩) | (go_at_call 10; refine (fixed_any _).mono ?_; rintro e w2 ⟨rfl, hb2⟩))
          go_ret
          exact ⟨rfl, hb1.trans (hb2.mono hb1.size)⟩
        · exact absurd ⟨c0, c1, c2, c3⟩ hc
    · clear hc
      go_enter Try.func7, Try.ntmps7
      go_wp2_with fail
      refine (fixed_any _).mono ?_
      rintro e w1 ⟨rfl, hb1⟩
      go_wp2_with (first | (go_at_call 15; refine (word_any _ _ ?hs).mono ?_; (case hs => first | exact h0 | exact h1); rintro e w' ⟨rfl, rfl⟩) | (go_at_call 10; refine (fixed_any _).mono ?_; rintro e w2 ⟨rfl, hb2⟩))
      go_ret
      exact ⟨rfl, hb1.trans (hb2.mono hb1.size)⟩
  · clear hc
    go_enter Try.func7, Try.ntmps7
    go_wp2_with fail
    refine (fixed_any _).mono ?_
    rintro e w1 ⟨rfl, hb1⟩
    go_wp2_with (first | (go_at_call 15; refine (word_any _ _ ?hs).mono ?_; (case hs => first | exact h0 | exact h1); rintro e w' ⟨rfl, rfl⟩) | (go_at_call 10; refine (fixed_any _).mono ?_; rintro e w2 ⟨rfl, hb2⟩))
    go_ret
    exact ⟨rfl, hb1.trans (hb2.mono hb1.size)⟩

set_option maxHeartbeats 1000000 in
theorem walk_full (a0 a1 : ByteArray) (w : World) (h0 : a0.size ≤ maxLen) (h1 : a1.size ≤ maxLen) (c0 : a0.size ≤ 1000) (c1 : a1.size ≤ 1000) (c2 : M.wordB a0.data.toList = true) (c3 : M.wordB a1.data.toList = true) :
    Calls Try.prog 7 #[.string a0, .string a1] w fun e w' => e = .returned (.bool true) ∧ Below w.heap.size w w' := by
  have HX : Hid (M.lex (a0 ++ (⟨#[32]⟩ : ByteArray) ++ a1).data.toList = ([⟨0, a0, 0⟩, ⟨0, a1, a0.size + 1⟩], 0, 0)) := by
    unfold Hid; rw [join_list]; exact M.lex_words a0 a1 c2 c3 c0 c1
  have HP : Hid (M.print [⟨0, a0, 0⟩, ⟨0, a1, a0.size + 1⟩] = a0.data.toList ++ (32 :: a1.data.toList)) := M.print_words a0 a1 _ _ c2 c3
  go_enter Try.func7, Try.ntmps7
  go_wp2_with fail
  refine (fixed_any _).mono ?_
  rintro e w1 ⟨rfl, hb1⟩
  go_wp2_with (go_at_call 15; refine (word_any _ _ ?hs).mono ?_; (case hs => first | exact h0 | exact h1); rintro e w' ⟨rfl, rfl⟩)
  have hjs : (a0 ++ (⟨#[32]⟩ : ByteArray) ++ a1).size = a0.size + 1 + a1.size := by rw [← len_list, join_list]; simp; omega
  refine (lexAt _ _ _ _ ?hs rfl HX.out).mono ?_
  case hs => rw [hjs]; unfold maxLen; omega
  rintro e w2 ⟨v, rfl, hown, hb2⟩
  have T2 : TokAt w2 v [⟨0, a0, 0⟩, ⟨0, a1, a0.size + 1⟩] := tokAt_of_owns hown (by simp) (by intro x hx; simp at hx; rcases hx with rfl | rfl <;> assumption)
  go_wp2_with fail
  refine (same_any _ _ [⟨0, a0, 0⟩, ⟨0, a1, a0.size + 1⟩] [⟨0, a0, 0⟩, ⟨0, a1, a0.size + 1⟩] _ ?t1 ?t2).mono ?_
  case t1 => exact (T2.alloc _).alloc _
  case t2 => exact tokAt_new _ _ _ _ _ _ (by simp) rfl rfl (by simp) (by intro x hx; simp at hx; rcases hx with rfl | rfl <;> assumption)
  rw [(M.same_iff _ _).2 rfl]
  rintro e w3 ⟨rfl, n, rfl⟩
  go_wp2_with fail
  refine (printAt _ _ (a0 ++ (⟨#[32]⟩ : ByteArray) ++ a1) _ (((T2.alloc _).alloc _).drewN n) ?hp ?hl).mono ?_
  case hp => rw [join_list]; exact HP.out
  case hl => rw [hjs]; omega
  rintro e w4 ⟨rfl, hb4⟩
  go_wp2
  go_ret
  have z1 := hb1.size
  have z2 := hb2.size
  exact ⟨rfl, (below_drewN (((hb1.trans (hb2.mono z1)).alloc (by omega) _).alloc (by simp; omega) _) n).trans (hb4.mono (by simp [World.drewN]; omega))⟩

theorem walk (a0 a1 : ByteArray) (h0 : a0.size ≤ maxLen) (h1 : a1.size ≤ maxLen) (w : World) :
    Calls Try.prog 7 #[.string a0, .string a1] w fun e w' => e = .returned (.bool true) ∧ Below w.heap.size w w' := by
  by_cases hc : a0.size ≤ 1000 ∧ a1.size ≤ 1000 ∧ M.wordB a0.data.toList = true ∧ M.wordB a1.data.toList = true
  · exact walk_full a0 a1 w h0 h1 hc.1 hc.2.1 hc.2.2.1 hc.2.2.2
  · exact walk_short a0 a1 w h0 h1 hc

theorem own : ownKnob Try.prog.godebug = none := by kernel_rfl

set_option maxRecDepth 100000 in
theorem lifted (os : Os) (started : os.Started) (H : Type) (enc : TypeId × Value → H) :
    ReturnsInHanded {} Try.checked os 7 .any (Rows.lexWordsSpec.pre6 enc Try.prog Try.f7 Rows.lexWordsRow.domain false) (Rows.lexWordsSpec.post enc Try.prog Try.f7 false true false false) := by
  refine returnsInHanded_of_change (C := Try.checked) own started (by kernel_rfl) Try.func7
    (ChangeSpec.witness6 (enc := enc) (C := Try.checked) false ⟨#[], #[.string ByteArray.empty, .string ByteArray.empty], []⟩ 8 (by kernel_rfl) (by kernel_rfl) (by kernel_rfl) (by kernel_rfl)) ?_
  intro W base args ds gs before hval0 hW _ _
  have hval : ∀ (j : Nat) t v, Try.f7.params[j]? = some t → args[j]? = some v → Value.okWide Try.prog W .any base t v := hval0
  have hW' := hW
  obtain ⟨p, q, hA0, hV, rfl, hfz, hnd⟩ := hW
  have hA : DataW.TrodAll enc Try.prog W 0 (fun _ => true) true Try.f7.params.toList args.toList ds p := hA0
  rw [Try.params7] at hA hval
  obtain ⟨v0, vs0, d0, ds0, p0, q0, hargs, rfl, rfl, h0, r0⟩ := trodAll_cons hA
  obtain ⟨v1, vs1, d1, ds1, p1, q1, rfl, rfl, rfl, h1, r1⟩ := trodAll_cons r0
  obtain ⟨rfl, rfl, rfl⟩ := trodAll_nil r1
  obtain rfl : args = #[v0, v1] := by cases args; simp_all
  obtain ⟨rfl, rfl⟩ := trodVars_none hV
  obtain ⟨a0, rfl, rfl, rfl, w0⟩ := open_string Try.underlying9 (hval 0 9 v0 rfl rfl) h0
  obtain ⟨a1, rfl, rfl, rfl, w1⟩ := open_string Try.underlying9 (hval 1 9 v1 rfl rfl) h1
  clear hA0 hval0
  simp only [List.append_nil] at hW'
  refine (walk a0 a1 w0 w1 W).mono fun e W' ⟨he, hb⟩ => ?_
  subst he
  exact ⟨_, rfl, _, _, _, [], [], [], hW', trodAll_cons_mk (shut_bool Try.underlying4 _) trodAll_mk0, trodAll_cons_mk (shut_string Try.underlying9 w0) (trodAll_cons_mk (shut_string Try.underlying9 w1) trodAll_mk0), rfl, hb.frame _, fun h => by cases h⟩

theorem proved : Rows.LexWordsSaid :=
  OpenClaim.holds_of_wide 7 Try.f7 rfl rfl rfl rfl rfl rfl rfl ⟨rfl, rfl, rfl, rfl, rfl⟩ rfl rfl rfl rfl rfl (by kernel_rfl) Try.func7 (by kernel_rfl)
    (of_decide_eq_true (by kernel_rfl)) (by unfold Func.isWrapper; first | (rw [if_pos (by decide +kernel)]; kernel_rfl) | (rw [if_neg (by decide +kernel)]; exact ⟨rfl, rfl⟩))
    (fun os started H enc _ => lifted os started H enc)
end LexWords

theorem lexWords_holds : Rows.LexWordsSaid := LexWords.proved
end Go.Proofs.Ytilkkopgbdppjaa
