/-
  The walks of a reader's first steps: look, at, fail, must, Keyword, atName, pass, passIf, take, name. Conditions: those that each fact names.
-/
import Derived.Test.YtkonkdhoakcmdaaGreatDoorQ
set_option linter.unusedVariables false
namespace Go.Proofs.YtkonkdhoakcmdaaGreatDoor
open Go.RowKit

theorem beq_list (a b : ByteArray) : (a.toList == b.toList) = decide (a = b) := by
  rw [Bool.eq_iff_iff]; simp [toList_inj]
theorem beq_lit (a b : ByteArray) (l : List UInt8) (h : b.toList = l) : (a.toList == l) = decide (a = b) := by rw [← h]; exact beq_list a b
theorem nowNil (fin : Int) : M.now1 fin [] = ⟨-1, M.em, fin⟩ := rfl
theorem nowYes (fin : Int) (x : M.Tok) (l : List M.Tok) (h : M.may1 x = true) : M.now1 fin (x :: l) = x := by simp [M.now1, h]
theorem nowNo (fin : Int) (x : M.Tok) (l : List M.Tok) (h : M.may1 x = false) : M.now1 fin (x :: l) = ⟨-1, M.em, x.p⟩ := by simp [M.now1, h]

/-- three stores into the token that was looked at -/
theorem three {w : World} {r : Nat} {T : TypeId} {v0 v1 v2 v3 v4 v5 v6 : Value} (h : w.heap[r]? = some (.cells #[v0, v1, v2, v3, v4, v5, v6] T (0, 0))) (a b c : Value) :
    (((w.setCell ⟨r, 2, none⟩ a).setCell ⟨r, 3, none⟩ b).setCell ⟨r, 4, none⟩ c).heap[r]? = some (.cells #[v0, v1, a, b, c, v5, v6] T (0, 0)) := by
  rw [heap_setCell_same _ _ _ _ _ _ (heap_setCell_same _ _ _ _ _ _ (heap_setCell_same _ _ _ _ _ _ h))]
  rfl
theorem threeOnly (w : World) (r : Nat) (a b c : Value) : Only r w (((w.setCell ⟨r, 2, none⟩ a).setCell ⟨r, 3, none⟩ b).setCell ⟨r, 4, none⟩ c) :=
  (((Only.refl r w).setCell (.inl rfl) _).setCell (.inl rfl) _).setCell (.inl rfl) _

set_option maxHeartbeats 400000 in
theorem look_any (r : Nat) (S : M.St) (w : World) (h : Rd0 w r S) :
    Calls Tryz.prog 29 #[.pointer (some ⟨r, 0, none⟩)] w fun e w' => e = .returned (.tuple #[]) ∧ Rd w' r S ∧ Only r w w' := by
  obtain ⟨rest, fin, n, d⟩ := S
  obtain ⟨⟨v, va, vb, vc, hh, ⟨⟨hl1, hl2, a, cap, rfl, hT⟩, hap, hcap⟩⟩, hfew, hlim⟩ := h
  have hTC : TokC w r (.slice a rest.length cap) rest := ⟨⟨hl1, hl2, a, cap, rfl, hT⟩, hap, hcap⟩
  simp only at hh hl1 hl2 hT hap hcap hfew
  obtain ⟨hv, hfin, hk, ht, hp, hn, hd, hfree, hlt⟩ := cells7 hh
  cases rest with
  | nil =>
    go_enter Tryz.func29, Tryz.ntmps29
    go_wp2_with fail
    refine bodyPost_ret (results_none rfl _ _ _) rfl ⟨rfl, ⟨⟨_, ?_, hTC.only (threeOnly w r _ _ _)⟩, hfew, hlim⟩, threeOnly w r _ _ _⟩
    exact three hh _ _ _
  | cons x l =>
    rcases hT with hT | ⟨b, o, rfl, hbl, hc⟩
    · cases hT
    obtain ⟨c1, c2, c3⟩ := hc 0 (by simp)
    have hne : b ≠ r := Nat.ne_of_lt (hap b o _ _ rfl)
    have hne' : ¬ r = b := fun e => hne e.symm
    obtain ⟨hcp, hcm⟩ := hcap _ _ _ rfl
    unfold maxLen at hcm
    have hcp1 : 1 ≤ cap := by simp at hcp; omega
    simp at c1 c2 c3
    have hone : ∀ W, Only r w W → TokAt W (.slice (some ⟨b, o, none⟩) 1 cap) [x] := fun W hW =>
      ⟨by simp, fun y hy => by simp at hy; subst hy; exact hl2 _ (by simp), some ⟨b, o, none⟩, cap, rfl, .inr ⟨b, o, rfl, Nat.lt_of_lt_of_le hbl hW.size, fun i hi => by
        obtain rfl : i = 0 := by simp at hi; exact hi
        refine ⟨?_, ?_, ?_⟩
        · rw [hW.cell (p := ⟨b, _, none⟩) hbl hne]; simpa using c1
        · rw [hW.cell (p := ⟨b, _, none⟩) hbl hne]; simpa using c2
        · rw [hW.cell (p := ⟨b, _, none⟩) hbl hne]; simpa using c3⟩⟩
    have hmay : ∀ W, Only r w W → Calls Tryz.prog 48 #[.slice (some ⟨b, o, none⟩) 1 cap] W fun e w' => e = .returned (.bool (M.may1 x)) ∧ Below W.heap.size W w' := fun W hW => by
      have := may_any _ _ W (hone W hW)
      simp only [M.may, List.all_cons, List.all_nil, Bool.and_true] at this
      exact this
    go_enter Tryz.func29, Tryz.ntmps29
    go_wp2_with fail
    have hO := threeOnly w r (.int .i64 (-1)) (.string ⟨#[]⟩) (.int .i64 fin)
    have hH := three hh (.int .i64 (-1)) (.string ⟨#[]⟩) (.int .i64 fin)
    refine (hmay _ hO).mono ?_
    rintro e w1 ⟨rfl, hb1⟩
    have hO1 : Only r w w1 := hO.below hb1
    have hH1 := (hb1.block r (Array.getElem?_eq_some_iff.1 hH).1).trans hH
    clear hH
    obtain ⟨gv, gfin, gk, gt, gp, gn, gd, gfree, glt⟩ := cells7 hH1
    have d1 : w1.cell? ⟨b, o, none⟩ = some (.int .i64 x.k) := by rw [hO1.cell (p := ⟨b, _, none⟩) hbl hne]; exact c1
    have d2 : w1.cell? ⟨b, o + 1, none⟩ = some (.string x.t) := by rw [hO1.cell (p := ⟨b, _, none⟩) hbl hne]; exact c2
    have d3 : w1.cell? ⟨b, o + 2, none⟩ = some (.int .i64 x.p) := by rw [hO1.cell (p := ⟨b, _, none⟩) hbl hne]; exact c3
    clear hv hfin hk ht hp hn hd hfree
    cases hm : M.may1 x
    · have HM := hid hm
      clear hm
      go_wp2_with fail
      go_end0
      have hO2 : Only r w (w1.setCell ⟨r, 4, none⟩ (.int .i64 x.p)) := hO1.setCell (.inl rfl) _
      refine ⟨rfl, ⟨⟨_, ?_, hTC.only hO2⟩, hfew, hlim⟩, hO2⟩
      rw [heap_setCell_same _ _ _ _ _ _ hH1]
      simp only [M.St.now, nowNo _ _ _ HM.out]
      rfl
    · have HM := hid hm
      clear hm
      go_wp2_with fail
      go_end0
      have hO2 : Only r w ((((w1.setCell ⟨r, 2, none⟩ (.int .i64 x.k)).setCell ⟨r, 3, none⟩ (.string x.t)).setCell ⟨r, 4, none⟩ (.int .i64 x.p)).setCell ⟨r, 4, none⟩ (.int .i64 x.p)) :=
        (hO1.trans (threeOnly w1 r _ _ _)).setCell (.inl rfl) _
      refine ⟨rfl, ⟨⟨_, ?_, hTC.only hO2⟩, hfew, hlim⟩, hO2⟩
      rw [heap_setCell_same _ _ _ _ _ _ (three hH1 _ _ _)]
      simp only [M.St.now, nowYes _ _ _ HM.out]
      rfl

theorem fail_any (r : Nat) (S : M.St) (c : Int) (w : World) (h : Rd w r S) :
    Calls Tryz.prog 68 #[.pointer (some ⟨r, 0, none⟩), .int .i64 c] w fun e w' => e = .panicked (stopOf (c, S.now.p)) ∧ w' = w := by
  obtain ⟨⟨v, hh, ht⟩, _, _⟩ := h
  obtain ⟨hv, hfin, hk, ht, hp, hn, hd, hfree, hlt⟩ := cells7 hh
  go_enter Tryz.func68, Tryz.ntmps68
  go_wp2_with fail
  exact ⟨rfl, rfl, rfl⟩

theorem must_yes (r : Nat) (w : World) :
    Calls Tryz.prog 63 #[.pointer (some ⟨r, 0, none⟩), .bool true] w fun e w' => e = .returned (.tuple #[]) ∧ w' = w := by
  go_enter Tryz.func63, Tryz.ntmps63
  go_wp2_with fail
  go_end0
  exact ⟨rfl, rfl⟩
theorem must_no (r : Nat) (S : M.St) (w : World) (h : Rd w r S) :
    Calls Tryz.prog 63 #[.pointer (some ⟨r, 0, none⟩), .bool false] w fun e w' => e = .panicked (stopOf (20, S.now.p)) ∧ w' = w := by
  go_enter Tryz.func63, Tryz.ntmps63
  go_wp2_with fail
  refine (fail_any r S _ _ h).mono ?_
  rintro e w' ⟨rfl, rfl⟩
  exact ⟨rfl, rfl, rfl⟩

theorem at_any (r : Nat) (S : M.St) (t : ByteArray) (w : World) (h : Rd w r S) :
    Calls Tryz.prog 67 #[.pointer (some ⟨r, 0, none⟩), .string t] w fun e w' => e = .returned (.bool (S.at t)) ∧ w' = w := by
  obtain ⟨⟨v, hh, ht⟩, _, _⟩ := h
  obtain ⟨hv, hfin, hk, ht, hp, hn, hd, hfree, hlt⟩ := cells7 hh
  go_enter Tryz.func67, Tryz.ntmps67
  go_wp2_with fail
  go_ret
  exact ⟨ret_bool (beq_list _ _), rfl⟩

theorem kw_list (s : ByteArray) : M.kw s = decide (s.toList = [102, 117, 110] ∨ s.toList = [111, 117, 116] ∨ s.toList = [114, 101, 116, 117, 114, 110] ∨ s.toList = [105, 102] ∨ s.toList = [101, 108, 115, 101] ∨ s.toList = [119, 104, 105, 108, 101] ∨ s.toList = [110, 101, 119] ∨ s.toList = [112, 114, 111, 116, 111] ∨ s.toList = [99, 97, 108, 108] ∨ s.toList = [105, 110] ∨ s.toList = [110, 117, 108, 108] ∨ s.toList = [116, 114, 117, 101] ∨ s.toList = [102, 97, 108, 115, 101]) := by
  have e : ∀ (b : ByteArray) (l : List UInt8), b.data.toList = l → (s = b ↔ s.toList = l) := fun b l h => by rw [← h, ← ByteArray.toList_eq, toList_inj]
  unfold M.kw
  apply decide_eq_decide.2
  rw [e M.kFun _ rfl, e M.kOut _ rfl, e M.kReturn _ rfl, e M.kIf _ rfl, e M.kElse _ rfl, e M.kWhile _ rfl, e M.kNew _ rfl, e M.kProto _ rfl, e M.kCall _ rfl, e M.kIn _ rfl, e M.kNull _ rfl, e M.kTrue _ rfl, e M.kFalse _ rfl]
  exact Iff.rfl

set_option maxHeartbeats 400000 in
theorem keyword_any (s : ByteArray) (w : World) :
    Calls Tryz.prog 12 #[.string s] w fun e w' => e = .returned (.bool (M.kw s)) ∧ w' = w := by
  rw [kw_list]
  go_enter Tryz.func12, Tryz.ntmps12
  go_wp2_with fail
  all_goals
    go_ret
    refine ⟨ret_bool ?_, rfl⟩
    simp_all

theorem atName_any (r : Nat) (S : M.St) (w : World) (h : Rd w r S) :
    Calls Tryz.prog 65 #[.pointer (some ⟨r, 0, none⟩)] w fun e w' => e = .returned (.bool S.isName) ∧ w' = w := by
  obtain ⟨⟨v, hh, ht⟩, _, _⟩ := h
  obtain ⟨hv, hfin, hk, ht, hp, hn, hd, hfree, hlt⟩ := cells7 hh
  by_cases hk0 : S.now.k = 0
  · have HK := hid hk0
    rw [hk0] at hk
    clear hk0
    go_enter Tryz.func65, Tryz.ntmps65
    go_wp2_with (go_at_call 12; refine (keyword_any _ _).mono ?_; rintro e w' ⟨rfl, rfl⟩)
    go_ret
    refine ⟨ret_bool ?_, rfl⟩
    simp [M.St.isName, HK.out]
  · have hd : (S.now.k == 0) = false := by simpa using hk0
    go_enter Tryz.func65, Tryz.ntmps65
    go_wp2_with (go_at_call 12; refine (keyword_any _ _).mono ?_; rintro e w' ⟨rfl, rfl⟩)
    go_ret
    refine ⟨ret_bool ?_, rfl⟩
    simp [M.St.isName, hk0]

/-- one store into the rest -/
theorem firstSet {w : World} {r : Nat} {T : TypeId} {v0 v1 v2 v3 v4 v5 v6 : Value} (h : w.heap[r]? = some (.cells #[v0, v1, v2, v3, v4, v5, v6] T (0, 0))) (a : Value) :
    (w.setCell ⟨r, 0, none⟩ a).heap[r]? = some (.cells #[a, v1, v2, v3, v4, v5, v6] T (0, 0)) := by
  rw [heap_setCell_same _ _ _ _ _ _ h]; rfl

theorem now_small (S : M.St) : S.now.t.size ≤ 65536 := by
  obtain ⟨rest, fin, n, d⟩ := S
  unfold M.St.now
  cases rest with
  | nil => show (0 : Nat) ≤ _; omega
  | cons x l =>
    cases hm : M.may1 x
    · simp only [nowNo _ _ _ hm]; show (0 : Nat) ≤ _; omega
    · simp only [nowYes _ _ _ hm]
      unfold M.may1 at hm
      split at hm
      · simp only [M.wordB, Bool.and_eq_true, decide_eq_true_eq] at hm
        have := hm.1; rw [len_list] at this; exact this
      · split at hm
        · simp only [M.numB, Bool.and_eq_true, decide_eq_true_eq] at hm
          have := hm.2.1; rw [len_list] at this; omega
        · split at hm
          · simp only [Bool.and_eq_true, beq_iff_eq] at hm
            have := hm.1; omega
          · cases hm

set_option maxHeartbeats 400000 in
/-- pass: the text that is left behind; where there is a token -/
theorem pass_any (r : Nat) (S : M.St) (w : World) (h : Rd w r S) (h0 : S.rest ≠ []) :
    Calls Tryz.prog 66 #[.pointer (some ⟨r, 0, none⟩)] w fun e w' => e = .returned (.string S.now.t) ∧ Rd w' r S.adv ∧ Only r w w' := by
  have hsm := now_small S
  obtain ⟨⟨v, hh, hTC⟩, hfew, hlim⟩ := h
  obtain ⟨hv, hfin, hk, ht, hp, hn, hd, hfree, hlt⟩ := cells7 hh
  obtain ⟨rest, fin, n, d⟩ := S
  simp only at h0 hTC hfew
  cases rest with
  | nil => exact absurd rfl h0
  | cons x l =>
    obtain ⟨⟨hl1, hl2, a, cap, rfl, hT⟩, hap, hcap⟩ := hTC
    rcases hT with hT | ⟨b, o, rfl, hbl, hc⟩
    · cases hT
    have hlr := hap b o _ _ rfl
    have hne : b ≠ r := Nat.ne_of_lt hlr
    obtain ⟨hcp, hcm⟩ := hcap _ _ _ rfl
    unfold maxLen at hcm
    simp only [List.length_cons] at hcp hl1 hfew hh hv
    have hcp1 : l.length + 1 ≤ cap := hcp
    go_enter Tryz.func66, Tryz.ntmps66
    go_wp2_with fail
    refine (clone_any _ _ (by omega)).mono ?_
    rintro e w1 ⟨rfl, hb1⟩
    have hO1 : Only r w w1 := Only.of_below hb1
    have hH1 := (hb1.block r hlt).trans hh
    clear hv hfin hk ht hp hn hd hfree
    obtain ⟨gv, gfin, gk, gt, gp, gn, gd, gfree, glt⟩ := cells7 hH1
    have hT1 : ∀ (u : Value), u = .slice (if cap = 1 then some ⟨b, o, none⟩ else some ⟨b, o + 3, none⟩) l.length (cap - 1) → ∀ W, Only r w W → TokC W r u l := by
      intro u hu W hW
      subst hu
      refine ⟨⟨by omega, fun y hy => hl2 y (List.mem_cons_of_mem _ hy), _, _, rfl, ?_⟩, ?_, ?_⟩
      · by_cases hc1 : cap = 1
        · exact .inl (List.length_eq_zero_iff.1 (by omega))
        · rw [if_neg hc1]
          refine .inr ⟨b, o + 3, rfl, Nat.lt_of_lt_of_le hbl hW.size, fun i hi => ?_⟩
          obtain ⟨c1, c2, c3⟩ := hc (i + 1) (by simpa using hi)
          rw [show o + (i + 1) * 3 = o + 3 + i * 3 by omega] at c1 c2 c3
          refine ⟨?_, ?_, ?_⟩
          · rw [hW.cell (p := ⟨b, _, none⟩) hbl hne]; simpa using c1
          · rw [hW.cell (p := ⟨b, _, none⟩) hbl hne]; simpa using c2
          · rw [hW.cell (p := ⟨b, _, none⟩) hbl hne]; simpa using c3
      · intro b' o' n' c' he
        split at he <;> (simp at he; omega)
      · intro a' n' c' he
        simp at he
        unfold maxLen; omega
    have hend : ∀ (u : Value), u = .slice (if cap = 1 then some ⟨b, o, none⟩ else some ⟨b, o + 3, none⟩) l.length (cap - 1) → Calls Tryz.prog 29 #[.pointer (some ⟨r, 0, none⟩)] (w1.setCell ⟨r, 0, none⟩ u) fun e w' => e = .returned (.tuple #[]) ∧ Rd w' r ⟨l, fin, n, d⟩ ∧ Only r w w' := by
      intro u hu
      have hO2 : Only r w (w1.setCell ⟨r, 0, none⟩ u) := hO1.setCell (.inl rfl) _
      refine (look_any r ⟨l, fin, n, d⟩ _ ⟨⟨_, _, _, _, firstSet hH1 _, hT1 u hu _ hO2⟩, ?_, hlim⟩).mono ?_
      · show l.length ≤ _; omega
      · rintro e w2 ⟨rfl, h2, h3⟩
        exact ⟨rfl, h2, hO2.trans h3⟩
    by_cases hc1 : cap = 1
    · have HE := hend (.slice (some ⟨b, o, none⟩) 0 0) (by simp [hc1]; omega)
      subst hc1
      clear hend hT1
      go_wp2_with fail
      refine HE.mono ?_
      rintro e w2 ⟨rfl, h2, h3⟩
      go_wp2_with fail
      go_ret
      exact ⟨rfl, h2, h3⟩
    · have HE := hend (.slice (some ⟨b, o + 3, none⟩) l.length (cap - 1)) (by simp [hc1])
      clear hend hT1
      go_wp2_with fail
      refine HE.mono ?_
      rintro e w2 ⟨rfl, h2, h3⟩
      go_wp2_with fail
      go_ret
      exact ⟨rfl, h2, h3⟩

theorem at_rest (S : M.St) (t : ByteArray) (h : S.at t = true) (ht : t.size ≠ 0) : S.rest ≠ [] := by
  intro h0
  obtain ⟨rest, fin, n, d⟩ := S
  simp only at h0
  subst h0
  simp only [M.St.at, M.St.now, nowNil] at h
  rw [← of_decide_eq_true h] at ht
  exact ht rfl
theorem name_rest (S : M.St) (h : S.isName = true) : S.rest ≠ [] := by
  intro h0
  obtain ⟨rest, fin, n, d⟩ := S
  simp only at h0
  subst h0
  simp only [M.St.isName, M.St.now, nowNil, Bool.and_eq_true] at h
  have := of_decide_eq_true h.1
  omega

theorem passIf_no (r : Nat) (S : M.St) (t : ByteArray) (w : World) (h : Rd w r S) (ht : S.at t = false) :
    Calls Tryz.prog 64 #[.pointer (some ⟨r, 0, none⟩), .string t] w fun e w' => e = .returned (.bool false) ∧ w' = w := by
  have hat := at_any r S t w h
  rw [ht] at hat
  go_enter Tryz.func64, Tryz.ntmps64
  go_wp2_with fail
  refine hat.mono ?_
  rintro e w' ⟨rfl, rfl⟩
  go_wp2_with fail
  go_ret
  exact ⟨rfl, rfl⟩
theorem passIf_yes (r : Nat) (S : M.St) (t : ByteArray) (w : World) (h : Rd w r S) (ht : S.at t = true) (h0 : t.size ≠ 0) :
    Calls Tryz.prog 64 #[.pointer (some ⟨r, 0, none⟩), .string t] w fun e w' => e = .returned (.bool true) ∧ Rd w' r S.adv ∧ Only r w w' := by
  have hat := at_any r S t w h
  have hr := at_rest S t ht h0
  rw [ht] at hat
  go_enter Tryz.func64, Tryz.ntmps64
  go_wp2_with fail
  refine hat.mono ?_
  rintro e w' ⟨rfl, rfl⟩
  go_wp2_with fail
  refine (pass_any r S _ h hr).mono ?_
  rintro e w2 ⟨rfl, h2, h3⟩
  go_wp2_with fail
  go_ret
  exact ⟨rfl, h2, h3⟩

def noEnc : Unit → Value → World → Prop := fun _ v _ => v = .tuple #[]
def strEnc : ByteArray → Value → World → Prop := fun s v _ => v = .string s

theorem take_any (r : Nat) (S : M.St) (t : ByteArray) (w : World) (h : Rd w r S) (h0 : t.size ≠ 0) :
    Calls Tryz.prog 49 #[.pointer (some ⟨r, 0, none⟩), .string t] w (Ends r w noEnc (M.take S t)) := by
  cases ht : S.at t
  · go_enter Tryz.func49, Tryz.ntmps49
    go_wp2_with fail
    refine (passIf_no r S t _ h ht).mono ?_
    rintro e w' ⟨rfl, rfl⟩
    go_wp2_with fail
    refine (must_no r S _ h).mono ?_
    rintro e w' ⟨rfl, rfl⟩
    refine ⟨rfl, Only.refl _ _, ?_, ?_⟩
    · intro S1 a hr; simp [M.take, ht, M.fail] at hr
    · intro f hr; simp [M.take, ht, M.fail] at hr; rw [← hr]
  · go_enter Tryz.func49, Tryz.ntmps49
    go_wp2_with fail
    refine (passIf_yes r S t _ h ht h0).mono ?_
    rintro e w1 ⟨rfl, h1, h2⟩
    go_wp2_with fail
    refine (must_yes r _).mono ?_
    rintro e w' ⟨rfl, rfl⟩
    go_wp2_with fail
    go_end0
    refine ⟨h2, ?_, ?_⟩
    · intro S1 a hr; simp [M.take, ht] at hr; obtain ⟨rfl⟩ := hr; exact ⟨_, rfl, h1, rfl⟩
    · intro f hr; simp [M.take, ht] at hr

theorem name_any (r : Nat) (S : M.St) (w : World) (h : Rd w r S) :
    Calls Tryz.prog 50 #[.pointer (some ⟨r, 0, none⟩)] w (Ends r w strEnc (M.name S)) := by
  have hn := atName_any r S w h
  cases ht : S.isName
  · rw [ht] at hn
    go_enter Tryz.func50, Tryz.ntmps50
    go_wp2_with fail
    refine hn.mono ?_
    rintro e w' ⟨rfl, rfl⟩
    go_wp2_with fail
    refine (must_no r S _ h).mono ?_
    rintro e w' ⟨rfl, rfl⟩
    refine ⟨rfl, Only.refl _ _, ?_, ?_⟩
    · intro S1 a hr; simp [M.name, ht, M.fail] at hr
    · intro f hr; simp [M.name, ht, M.fail] at hr; rw [← hr]
  · rw [ht] at hn
    go_enter Tryz.func50, Tryz.ntmps50
    go_wp2_with fail
    refine hn.mono ?_
    rintro e w' ⟨rfl, rfl⟩
    go_wp2_with fail
    refine (must_yes r _).mono ?_
    rintro e w' ⟨rfl, rfl⟩
    go_wp2_with fail
    refine (pass_any r S _ h (name_rest S ht)).mono ?_
    rintro e w2 ⟨rfl, h2, h3⟩
    go_wp2_with fail
    go_ret
    refine ⟨h3, ?_, ?_⟩
    · intro S1 a hr; simp [M.name, ht] at hr; obtain ⟨rfl, rfl⟩ := hr; exact ⟨_, rfl, h2, rfl⟩
    · intro f hr; simp [M.name, ht] at hr
end Go.Proofs.YtkonkdhoakcmdaaGreatDoor
