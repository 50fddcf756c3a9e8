/-
  The walk of the document's own reading (proteanref01.Lex): it answers what the plain function of the notes answers, whatever the text.
-/
import Derived.Test.YtkonkdhoakcmdaaGreatDoorLM
set_option linter.unusedVariables false
namespace Go.Proofs.YtkonkdhoakcmdaaGreatDoor
open Go.RowKit

theorem one3 (a : Int) (b : ByteArray) (c : Int) : ∀ u, u ∈ [Value.int .i64 a, .string b, .int .i64 c] → u.oneCell' = true := by
  intro u hu; simp at hu; rcases hu with rfl | rfl | rfl <;> rfl
theorem base_le {w w' : World} {o' : Obj} (h : Below (w.heap.size + 1) (w.alloc o') w') (o : Obj) : w.heap.size + 1 ≤ (w'.alloc o).heap.size := by
  have := h.size
  simp at this ⊢; omega

/-- an answer that leaves the world as it was (kept shut, so that a walk stops behind it) -/
def Ans (x : Value) (w : World) (e : Ending) (w' : World) : Prop := e = .returned x ∧ w' = w
theorem rInner_hid (b : UInt8) (w : World) : Calls Tryz.prog 43 #[.int .u8 b.toNat] w (Ans (.bool (M.pInn b)) w) := rInner_any b w
theorem rSign_hid (b : UInt8) (w : World) : Calls Tryz.prog 45 #[.int .u8 b.toNat] w (Ans (.bool (isC 5 b)) w) := rSign_any b w

set_option maxHeartbeats 2000000 in
set_option maxRecDepth 100000 in
theorem rLex_any (s : ByteArray) (w : World) (hs : s.size ≤ maxLen) :
    Calls Tryz.prog 26 #[.string s] w fun e w' => ∃ v, e = .returned (.tuple #[v, .agg #[.int .i64 (M.lex s.data.toList).2.1, .int .i64 (M.lex s.data.toList).2.2]]) ∧ w'.ownsRow w.heap.size 69 3 v (M.lex s.data.toList).1.length (M.row (M.lex s.data.toList).1) ∧ Below w.heap.size w w' := by
  have hs' := hs
  unfold maxLen at hs'
  by_cases hlong : 65536 < s.size
  · have HL : Hid (M.lex s.data.toList = ([], 11, 0)) := M.lex_long (by rw [len_list]; exact hlong)
    go_enter Tryz.func26, Tryz.ntmps26
    go_wp2
    refine bodyPost_ret (v := .tuple #[.slice none 0 0, .agg #[.int .i64 11, .int .i64 0]]) (by simp [results, Tryz.results26, go_sem]) rfl ⟨.slice none 0 0, ?_, ?_, ?_⟩
    · rw [HL.out]
    · rw [HL.out]; exact World.ownsRow_nil _ _ _ _
    · exact (Below.refl _ _).alloc (Nat.le_refl _) _
  · have hdl : decide (65536 < (s.size : Int)) = false := by simp; omega
    have hl6 : s.data.toList.length ≤ 65536 := by rw [len_list]; omega
    go_enter Tryz.func26, Tryz.ntmps26
    go_wp2
    go_loopw [4, 5] (fun v p w' => LexRel s w v p w') (fun _ p _ => s.size - (intOf p).toNat)
    case atStart =>
      refine ⟨0, [], rfl, M.At.start _, ?_, (Below.refl _ _).alloc (by simp) _⟩
      have := World.ownsRow_made (base := w.heap.size + 1) (e := 69) (size := 3) (w.alloc (.cells #[.int .i64 0, .int .i64 0] 28)) #[] 0 (by simp) (by unfold maxLen; omega) rfl
      rw [World.size_alloc] at this
      exact this
    case round =>
      obtain ⟨k, acc, rfl, hat, hown, hbw⟩ := hrel
      have hk : k ≤ s.size := by have := hat.1; rw [len_list] at this; exact this
      obtain ⟨fc0, fc1, ff0, ff1⟩ := fault_cells hbw
      by_cases hlt : k < s.size
      · have hnx := M.nxt_at s.data.toList k (by rw [len_list]; exact hlt)
        rw [at_list s k hlt] at hnx
        by_cases k1 : M.cls s[k].toNat = 1
        · rw [if_pos k1] at hnx
          have HN := hid hnx
          clear hnx
          have i1 := isC_true k1
          go_wp2_with (first | (go_at_call 41; refine (rBlank_any _ _).mono ?_; rintro e w' ⟨rfl, rfl⟩) | (go_at_call 42; refine (rLetter_any _ _).mono ?_; rintro e w' ⟨rfl, rfl⟩) | (go_at_call 43; refine (rInner_any _ _).mono ?_; rintro e w' ⟨rfl, rfl⟩) | (go_at_call 44; refine (rDigit_any _ _).mono ?_; rintro e w' ⟨rfl, rfl⟩) | (go_at_call 45; refine (rSign_any _ _).mono ?_; rintro e w' ⟨rfl, rfl⟩))
          exact ⟨⟨k + 1, acc, by go_num, hat.skip HN.out, hown, hbw⟩, by simp [intOf]; omega⟩
        · rw [if_neg k1] at hnx
          have i1 := isC_false k1
          by_cases k2 : M.cls s[k].toNat = 2
          · rw [if_pos k2] at hnx
            have HN := hid hnx
            clear hnx
            have hh : ((s[k].toNat : Int) == 35) = true := beq_iff_eq.2 ((cls2 _).1 k2)
            clear k1 k2
            go_wp2_with (first | (go_at_call 41; refine (rBlank_any _ _).mono ?_; rintro e w' ⟨rfl, rfl⟩) | (go_at_call 42; refine (rLetter_any _ _).mono ?_; rintro e w' ⟨rfl, rfl⟩) | (go_at_call 43; refine (rInner_any _ _).mono ?_; rintro e w' ⟨rfl, rfl⟩) | (go_at_call 44; refine (rDigit_any _ _).mono ?_; rintro e w' ⟨rfl, rfl⟩) | (go_at_call 45; refine (rSign_any _ _).mono ?_; rintro e w' ⟨rfl, rfl⟩))
            go_loop [5] (fun i => ∃ j : Nat, k ≤ j ∧ j ≤ s.size ∧ i = .int .i64 j ∧ M.ext M.pNl s.data.toList j = M.ext M.pNl s.data.toList k) (fun i => s.size - (intOf i).toNat)
            case atStart => exact ⟨k, Nat.le_refl _, hk, rfl, rfl⟩
            case round =>
              obtain ⟨j, hkj, hj, rfl, hx⟩ := hrel
              have HX := hid hx
              clear hx
              have hst := hat.skip HN.out
              have hnb := M.nxt_bounds HN.out
              have hge := M.ext_ge M.pNl s.data.toList k
              rw [show k + (M.ext M.pNl s.data.toList k - k) = M.ext M.pNl s.data.toList k by omega] at hst
              have HST := hid hst
              clear hst
              by_cases hjl : j < s.size
              · by_cases h10 : s[j].toNat = 10
                · have hb10 : ((s[j].toNat : Int) != 10) = false := by simp; omega
                  have he := M.ext_no M.pNl s.data.toList j (by rw [len_list]; exact hjl) (decide_eq_false (by rw [at_list s j hjl]; simp; exact h10))
                  have HE : Hid (M.ext M.pNl s.data.toList k = j) := by unfold Hid; rw [← HX.out]; exact he
                  clear he h10
                  go_wp2
                  have := HE.out
                  have hst := HST.out
                  rw [this] at hst
                  exact ⟨⟨j, acc, rfl, hst, hown, hbw⟩, by simp [intOf]; omega⟩
                · have hb10 : ((s[j].toNat : Int) != 10) = true := by simp; omega
                  have he := M.ext_yes M.pNl s.data.toList j (by rw [len_list]; exact hjl) (decide_eq_true (by rw [at_list s j hjl]; exact h10))
                  have HE : Hid (M.ext M.pNl s.data.toList (j + 1) = M.ext M.pNl s.data.toList k) := by unfold Hid; rw [← HX.out]; exact he.symm
                  clear he h10
                  go_wp2
                  exact ⟨⟨j + 1, by omega, by omega, by go_num, HE.out⟩, by simp [intOf]; omega⟩
              · have he := M.ext_end M.pNl s.data.toList j (by rw [len_list]; omega)
                have HE : Hid (M.ext M.pNl s.data.toList k = j) := by unfold Hid; rw [← HX.out]; exact he
                clear he
                go_wp2
                have := HE.out
                have hst := HST.out
                rw [this] at hst
                exact ⟨⟨j, acc, rfl, hst, hown, hbw⟩, by simp [intOf]; omega⟩
          · rw [if_neg k2] at hnx
            have hh : ((s[k].toNat : Int) == 35) = false := beq_eq_false_iff_ne.2 (fun h => k2 ((cls2 _).2 h))
            obtain ⟨i0, hi, hz0, hz1, hz2⟩ := info_parts infoTok
            have hal := hat.2.1
            have q63 : acc.length + 1 ≤ maxLen := by unfold maxLen; omega
            have qb : (acc.length + 1) * 32 ≤ 140737488355328 := by omega
            by_cases k3 : M.cls s[k].toNat = 3
            · rw [if_pos k3] at hnx
              have i3 := isC_true k3
              have HN := hid hnx
              have HY := hid (M.ext_yes M.pInn s.data.toList k (by rw [len_list]; exact hlt) (by rw [at_list s k hlt]; exact M.cls_pInn _ (.inl k3)))
              clear hnx k1 k2 k3
              go_wp2_with (first | (go_at_call 41; refine (rBlank_any _ _).mono ?_; rintro e w' ⟨rfl, rfl⟩) | (go_at_call 42; refine (rLetter_any _ _).mono ?_; rintro e w' ⟨rfl, rfl⟩) | (go_at_call 43; refine (rInner_any _ _).mono ?_; rintro e w' ⟨rfl, rfl⟩) | (go_at_call 44; refine (rDigit_any _ _).mono ?_; rintro e w' ⟨rfl, rfl⟩) | (go_at_call 45; refine (rSign_any _ _).mono ?_; rintro e w' ⟨rfl, rfl⟩))
              go_loop [7] (fun i => ∃ j : Nat, k + 1 ≤ j ∧ j ≤ s.size ∧ i = .int .i64 j ∧ M.ext M.pInn s.data.toList j = M.ext M.pInn s.data.toList k) (fun i => s.size - (intOf i).toNat)
              case atStart => exact ⟨k + 1, Nat.le_refl _, by omega, by go_num, HY.out.symm⟩
              case round =>
                obtain ⟨j, hkj, hj, rfl, hx⟩ := hrel
                have HX := hid hx
                clear hx
                by_cases hjl : j < s.size
                · cases hin : M.pInn s[j]
                  · have HE : Hid (M.ext M.pInn s.data.toList k = j) := by
                      unfold Hid; rw [← HX.out]; exact M.ext_no _ _ _ (by rw [len_list]; exact hjl) (by rw [at_list s j hjl]; exact hin)
                    go_wp2_with (go_at_call 43; refine (rInner_hid _ _).mono ?_)
                    rintro e w' hww
                    obtain ⟨rfl, rfl⟩ := hww
                    go_wp2_with (at_builtin; refine wpList_append_own _ rfl _ _ 22 rfl (w.heap.size + 1) 69 i0 (.agg #[.int .i64 0, .string ⟨#[]⟩, .int .i64 0]) 3 32 Tryz.underlying22 hi hz0 hz1 hz2 rfl (by decide) _ _ _ rfl (hown.alloc _) ⟨w'.heap.size, 0, none⟩ 1 1 [.int .i64 0, .string (s.extract k (j)), .int .i64 k] rfl rfl (cell_three_new _ _ _ _ _) (one3 _ _ _) q63 qb (base_le hbw _) ?_)
                    intro v' w3 hown3 hgrow _
                    go_wp2
                    exact ⟨LexRel.next (E := j) hat (by rw [HN.out, HE.out]) (by omega) hbw hown (Below.refl _ _) _ hown3 hgrow, by simp [intOf]; omega⟩

                  · have HE : Hid (M.ext M.pInn s.data.toList (j + 1) = M.ext M.pInn s.data.toList k) := by
                      unfold Hid; rw [← HX.out]; exact (M.ext_yes _ _ _ (by rw [len_list]; exact hjl) (by rw [at_list s j hjl]; exact hin)).symm
                    go_wp2_with (first | (go_at_call 41; refine (rBlank_any _ _).mono ?_; rintro e w' ⟨rfl, rfl⟩) | (go_at_call 42; refine (rLetter_any _ _).mono ?_; rintro e w' ⟨rfl, rfl⟩) | (go_at_call 43; refine (rInner_any _ _).mono ?_; rintro e w' ⟨rfl, rfl⟩) | (go_at_call 44; refine (rDigit_any _ _).mono ?_; rintro e w' ⟨rfl, rfl⟩) | (go_at_call 45; refine (rSign_any _ _).mono ?_; rintro e w' ⟨rfl, rfl⟩))
                    exact ⟨⟨j + 1, by omega, by omega, by go_num, HE.out⟩, by simp [intOf]; omega⟩
                · have HE : Hid (M.ext M.pInn s.data.toList k = j) := by
                    unfold Hid; rw [← HX.out]; exact M.ext_end _ _ _ (by rw [len_list]; omega)
                  go_wp2_with (at_builtin; refine wpList_append_own _ rfl _ _ 22 rfl (w.heap.size + 1) 69 i0 (.agg #[.int .i64 0, .string ⟨#[]⟩, .int .i64 0]) 3 32 Tryz.underlying22 hi hz0 hz1 hz2 rfl (by decide) _ _ _ rfl (hown.alloc _) ⟨w'.heap.size, 0, none⟩ 1 1 [.int .i64 0, .string (s.extract k (j)), .int .i64 k] rfl rfl (cell_three_new _ _ _ _ _) (one3 _ _ _) q63 qb (base_le hbw _) ?_)
                  intro v' w3 hown3 hgrow _
                  go_wp2
                  exact ⟨LexRel.next (E := j) hat (by rw [HN.out, HE.out]) (by omega) hbw hown (Below.refl _ _) _ hown3 hgrow, by simp [intOf]; omega⟩

            · rw [if_neg k3] at hnx
              have i3 := isC_false k3
              by_cases k5 : M.cls s[k].toNat = 5
              · rw [if_pos k5] at hnx
                have i4 : isC 4 s[k] = false := isC_false (by rw [k5]; decide)
                have i5 := isC_true k5
                have HN := hid hnx
                clear hnx k1 k2 k3 k5
                go_wp2_with (first | (go_at_call 41; refine (rBlank_any _ _).mono ?_; rintro e w' ⟨rfl, rfl⟩) | (go_at_call 42; refine (rLetter_any _ _).mono ?_; rintro e w' ⟨rfl, rfl⟩) | (go_at_call 44; refine (rDigit_any _ _).mono ?_; rintro e w' ⟨rfl, rfl⟩) | (go_at_call 45; refine (rSign_hid _ _).mono ?_))
                rintro e w' hww
                obtain ⟨rfl, rfl⟩ := hww
                go_wp2_with (at_builtin; refine wpList_append_own _ rfl _ _ 22 rfl (w.heap.size + 1) 69 i0 (.agg #[.int .i64 0, .string ⟨#[]⟩, .int .i64 0]) 3 32 Tryz.underlying22 hi hz0 hz1 hz2 rfl (by decide) _ _ _ rfl (hown.alloc _) ⟨w'.heap.size, 0, none⟩ 1 1 [.int .i64 2, .string (s.extract k (k + 1)), .int .i64 k] rfl rfl (cell_three_new _ _ _ _ _) (one3 _ _ _) q63 qb (base_le hbw _) ?_)
                intro v' w3 hown3 hgrow _
                go_wp2
                exact ⟨LexRel.next (E := k + 1) hat (by rw [HN.out]; simp) (by omega) hbw hown (Below.refl _ _) _ hown3 hgrow, by simp [intOf]; omega⟩

              · rw [if_neg k5] at hnx
                have i5 := isC_false k5
                by_cases k4 : M.cls s[k].toNat = 4
                · rw [if_pos k4] at hnx
                  have i4 := isC_true k4
                  have HNX := hid hnx
                  have HY := hid (M.ext_yes M.pDig s.data.toList k (by rw [len_list]; exact hlt) (by rw [at_list s k hlt]; exact M.cls_pDig _ k4))
                  clear hnx k1 k2 k3 k4 k5
                  go_wp2_with (first | (go_at_call 41; refine (rBlank_any _ _).mono ?_; rintro e w' ⟨rfl, rfl⟩) | (go_at_call 42; refine (rLetter_any _ _).mono ?_; rintro e w' ⟨rfl, rfl⟩) | (go_at_call 43; refine (rInner_any _ _).mono ?_; rintro e w' ⟨rfl, rfl⟩) | (go_at_call 44; refine (rDigit_any _ _).mono ?_; rintro e w' ⟨rfl, rfl⟩) | (go_at_call 45; refine (rSign_any _ _).mono ?_; rintro e w' ⟨rfl, rfl⟩))
                  go_loop [7] (fun i => ∃ j : Nat, k + 1 ≤ j ∧ j ≤ s.size ∧ i = .int .i64 j ∧ M.ext M.pDig s.data.toList j = M.ext M.pDig s.data.toList k) (fun i => s.size - (intOf i).toNat)
                  case atStart => exact ⟨k + 1, Nat.le_refl _, by omega, by go_num, HY.out.symm⟩
                  case round =>
                    obtain ⟨j, hkj, hj, rfl, hx⟩ := hrel
                    have HX := hid hx
                    clear hx
                    by_cases hjl : j < s.size
                    · cases hin : M.pInn s[j]
                      · have HE : Hid (M.ext M.pDig s.data.toList k = j) := by
                          unfold Hid; rw [← HX.out]; exact M.ext_no _ _ _ (by rw [len_list]; exact hjl) (by rw [at_list s j hjl]; exact M.pDig_pInn hin)
                        have HG : Hid (M.goB s.data.toList j = false) := by
                          unfold Hid; rw [M.goB_in _ _ (by rw [len_list]; exact hjl), at_list s j hjl]; exact hin
                        by_cases h9 : j - k ≤ 9
                        · have HN : Hid (M.nxt (s.data.toList.drop k) = some (some 1, j - k)) := by
                            unfold Hid; rw [HNX.out, HE.out, if_pos ⟨h9, HG.out⟩]
                          have h9' : (j : Int) - k ≤ 9 := by omega
                          go_wp2_with (go_at_call 43; refine (rInner_hid _ _).mono ?_)
                          rintro e w' hww
                          obtain ⟨rfl, rfl⟩ := hww
                          go_wp2_with (at_builtin; refine wpList_append_own _ rfl _ _ 22 rfl (w.heap.size + 1) 69 i0 (.agg #[.int .i64 0, .string ⟨#[]⟩, .int .i64 0]) 3 32 Tryz.underlying22 hi hz0 hz1 hz2 rfl (by decide) _ _ _ rfl (hown.alloc _) ⟨w'.heap.size, 0, none⟩ 1 1 [.int .i64 1, .string (s.extract k (j)), .int .i64 k] rfl rfl (cell_three_new _ _ _ _ _) (one3 _ _ _) q63 qb (base_le hbw _) ?_)
                          intro v' w3 hown3 hgrow _
                          go_wp2
                          exact ⟨LexRel.next (E := j) hat HN.out (by omega) hbw hown (Below.refl _ _) _ hown3 hgrow, by simp [intOf]; omega⟩
                        · have HN : Hid (M.nxt (s.data.toList.drop k) = none) := by
                            unfold Hid; rw [HNX.out, HE.out, if_neg (fun h => h9 h.1)]
                          have HR : Hid (M.lexF 0 s.data.toList = .error k) := hat.bad (by rw [len_list]; exact hlt) HN.out
                          have h9' : ¬ (j : Int) - k ≤ 9 := by omega
                          go_wp2_with (first | (go_at_call 43; refine (rInner_any _ _).mono ?_; rintro e w' ⟨rfl, rfl⟩) | (go_at_call 44; refine (rDigit_any _ _).mono ?_; rintro e w' ⟨rfl, rfl⟩))
                          refine bodyPost_ret (v := .tuple #[.slice none 0 0, .agg #[.int .i64 10, .int .i64 k]]) (by simp [results, Tryz.results26, go_sem, fc0, fc1]) rfl ⟨.slice none 0 0, ?_, ?_, ?_⟩
                          · rw [M.lex_of_error hl6 HR.out]
                          · rw [M.lex_of_error hl6 HR.out]
                            exact World.ownsRow_nil _ _ _ _
                          · exact ((((Below.refl _ _).alloc (Nat.le_refl _) _).trans (hbw.mono (Nat.le_succ _))).setCell (p := ⟨w.heap.size, 0, none⟩) (Nat.le_refl _) _).setCell (p := ⟨w.heap.size, 1, none⟩) (Nat.le_refl _) _
                      · by_cases d4 : M.cls s[j].toNat = 4
                        · have j4 := isC_true d4
                          have HE : Hid (M.ext M.pDig s.data.toList (j + 1) = M.ext M.pDig s.data.toList k) := by
                            unfold Hid; rw [← HX.out]; exact (M.ext_yes _ _ _ (by rw [len_list]; exact hjl) (by rw [at_list s j hjl]; exact M.cls_pDig _ d4)).symm
                          clear d4
                          go_wp2_with (first | (go_at_call 43; refine (rInner_any _ _).mono ?_; rintro e w' ⟨rfl, rfl⟩) | (go_at_call 44; refine (rDigit_any _ _).mono ?_; rintro e w' ⟨rfl, rfl⟩))
                          exact ⟨⟨j + 1, by omega, by omega, by go_num, HE.out⟩, by simp [intOf]; omega⟩
                        · have j4 := isC_false d4
                          have HE : Hid (M.ext M.pDig s.data.toList k = j) := by
                            unfold Hid; rw [← HX.out]; exact M.ext_no _ _ _ (by rw [len_list]; exact hjl) (by rw [at_list s j hjl]; exact decide_eq_false d4)
                          have HG : Hid (M.goB s.data.toList j = true) := by
                            unfold Hid; rw [M.goB_in _ _ (by rw [len_list]; exact hjl), at_list s j hjl]; exact hin
                          have HN : Hid (M.nxt (s.data.toList.drop k) = none) := by
                            unfold Hid; rw [HNX.out, HE.out, if_neg (fun h => by have := h.2; rw [HG.out] at this; cases this)]
                          have HR : Hid (M.lexF 0 s.data.toList = .error k) := hat.bad (by rw [len_list]; exact hlt) HN.out
                          clear d4
                          go_wp2_with (first | (go_at_call 43; refine (rInner_any _ _).mono ?_; rintro e w' ⟨rfl, rfl⟩) | (go_at_call 44; refine (rDigit_any _ _).mono ?_; rintro e w' ⟨rfl, rfl⟩))
                          refine bodyPost_ret (v := .tuple #[.slice none 0 0, .agg #[.int .i64 10, .int .i64 k]]) (by simp [results, Tryz.results26, go_sem, fc0, fc1]) rfl ⟨.slice none 0 0, ?_, ?_, ?_⟩
                          · rw [M.lex_of_error hl6 HR.out]
                          · rw [M.lex_of_error hl6 HR.out]
                            exact World.ownsRow_nil _ _ _ _
                          · exact ((((Below.refl _ _).alloc (Nat.le_refl _) _).trans (hbw.mono (Nat.le_succ _))).setCell (p := ⟨w.heap.size, 0, none⟩) (Nat.le_refl _) _).setCell (p := ⟨w.heap.size, 1, none⟩) (Nat.le_refl _) _
                    · have HE : Hid (M.ext M.pDig s.data.toList k = j) := by
                        unfold Hid; rw [← HX.out]; exact M.ext_end _ _ _ (by rw [len_list]; omega)
                      have HG : Hid (M.goB s.data.toList j = false) := M.goB_end _ _ (by rw [len_list]; omega)
                      by_cases h9 : j - k ≤ 9
                      · have HN : Hid (M.nxt (s.data.toList.drop k) = some (some 1, j - k)) := by
                          unfold Hid; rw [HNX.out, HE.out, if_pos ⟨h9, HG.out⟩]
                        have h9' : (j : Int) - k ≤ 9 := by omega
                        go_wp2_with (at_builtin; refine wpList_append_own _ rfl _ _ 22 rfl (w.heap.size + 1) 69 i0 (.agg #[.int .i64 0, .string ⟨#[]⟩, .int .i64 0]) 3 32 Tryz.underlying22 hi hz0 hz1 hz2 rfl (by decide) _ _ _ rfl (hown.alloc _) ⟨w'.heap.size, 0, none⟩ 1 1 [.int .i64 1, .string (s.extract k (j)), .int .i64 k] rfl rfl (cell_three_new _ _ _ _ _) (one3 _ _ _) q63 qb (base_le hbw _) ?_)
                        intro v' w3 hown3 hgrow _
                        go_wp2
                        exact ⟨LexRel.next (E := j) hat HN.out (by omega) hbw hown (Below.refl _ _) _ hown3 hgrow, by simp [intOf]; omega⟩
                      · have HN : Hid (M.nxt (s.data.toList.drop k) = none) := by
                          unfold Hid; rw [HNX.out, HE.out, if_neg (fun h => h9 h.1)]
                        have HR : Hid (M.lexF 0 s.data.toList = .error k) := hat.bad (by rw [len_list]; exact hlt) HN.out
                        have h9' : ¬ (j : Int) - k ≤ 9 := by omega
                        go_wp2_with (first | (go_at_call 43; refine (rInner_any _ _).mono ?_; rintro e w' ⟨rfl, rfl⟩) | (go_at_call 44; refine (rDigit_any _ _).mono ?_; rintro e w' ⟨rfl, rfl⟩))
                        refine bodyPost_ret (v := .tuple #[.slice none 0 0, .agg #[.int .i64 10, .int .i64 k]]) (by simp [results, Tryz.results26, go_sem, fc0, fc1]) rfl ⟨.slice none 0 0, ?_, ?_, ?_⟩
                        · rw [M.lex_of_error hl6 HR.out]
                        · rw [M.lex_of_error hl6 HR.out]
                          exact World.ownsRow_nil _ _ _ _
                        · exact ((((Below.refl _ _).alloc (Nat.le_refl _) _).trans (hbw.mono (Nat.le_succ _))).setCell (p := ⟨w.heap.size, 0, none⟩) (Nat.le_refl _) _).setCell (p := ⟨w.heap.size, 1, none⟩) (Nat.le_refl _) _
                · rw [if_neg k4] at hnx
                  have i4 := isC_false k4
                  have HN := hid hnx
                  clear hnx k1 k2 k3 k4 k5
                  have HR : Hid (M.lexF 0 s.data.toList = .error k) := hat.bad (by rw [len_list]; exact hlt) HN.out
                  go_wp2_with (first | (go_at_call 41; refine (rBlank_any _ _).mono ?_; rintro e w' ⟨rfl, rfl⟩) | (go_at_call 42; refine (rLetter_any _ _).mono ?_; rintro e w' ⟨rfl, rfl⟩) | (go_at_call 43; refine (rInner_any _ _).mono ?_; rintro e w' ⟨rfl, rfl⟩) | (go_at_call 44; refine (rDigit_any _ _).mono ?_; rintro e w' ⟨rfl, rfl⟩) | (go_at_call 45; refine (rSign_any _ _).mono ?_; rintro e w' ⟨rfl, rfl⟩))
                  refine bodyPost_ret (v := .tuple #[.slice none 0 0, .agg #[.int .i64 10, .int .i64 k]]) (by simp [results, Tryz.results26, go_sem, fc0, fc1]) rfl ⟨.slice none 0 0, ?_, ?_, ?_⟩
                  · rw [M.lex_of_error hl6 HR.out]
                  · rw [M.lex_of_error hl6 HR.out]
                    exact World.ownsRow_nil _ _ _ _
                  · exact ((((Below.refl _ _).alloc (Nat.le_refl _) _).trans (hbw.mono (Nat.le_succ _))).setCell (p := ⟨w.heap.size, 0, none⟩) (Nat.le_refl _) _).setCell (p := ⟨w.heap.size, 1, none⟩) (Nat.le_refl _) _
      · have HR : Hid (M.lexF 0 s.data.toList = .ok acc) := hat.done (by rw [len_list]; omega)
        go_wp2
        refine bodyPost_ret (v := .tuple #[u4, .agg #[.int .i64 0, .int .i64 0]]) (by simp [results, Tryz.results26, go_sem, fc0, fc1]) rfl ⟨u4, ?_, ?_, ?_⟩
        · rw [M.lex_of_ok hl6 HR.out]
        · rw [M.lex_of_ok hl6 HR.out]
          exact ownsRow_base (ownsRow_setCell_below (ownsRow_setCell_below hown (Nat.lt_succ_self _) _) (Nat.lt_succ_self _) _) (Nat.le_succ _)
        · exact ((((Below.refl _ _).alloc (Nat.le_refl _) _).trans (hbw.mono (Nat.le_succ _))).setCell (p := ⟨w.heap.size, 0, none⟩) (Nat.le_refl _) _).setCell (p := ⟨w.heap.size, 1, none⟩) (Nat.le_refl _) _
end Go.Proofs.YtkonkdhoakcmdaaGreatDoor
