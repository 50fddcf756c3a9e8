/-
  The walks of the document's Same over atoms, and of the laws' fixed calls. Conditions: that the table of powers lies as it should.
-/
import Derived.Test.YtabffpecpfopkaaDoorB4
set_option linter.unusedVariables false
set_option linter.unusedSimpArgs false
namespace Go.Proofs.YtabffpecpfopkaaDoor
open Go.RowKit Go.Sort

theorem take_eq {α : Type} {l m : List α} {j : Nat} (h1 : j < l.length) (h2 : j < m.length) (h : l.take j = m.take j) (he : l[j] = m[j]) : l.take (j + 1) = m.take (j + 1) := by
  rw [List.take_succ_eq_append_getElem h1, List.take_succ_eq_append_getElem h2, h, he]
set_option maxHeartbeats 1000000 in
theorem same_any (w : World) (v1 v2 : Value) (l1 l2 : List M.Atm) (h1 : AtAt w v1 l1) (h2 : AtAt w v2 l2) (n1 : l1.length ≤ 1048576) :
    Calls Tryd.prog 9 #[v1, v2] w fun e w' => e = .returned (.bool (M.sameB l1 l2)) ∧ Below w.heap.size w w' := by
  obtain ⟨_, a1, cap1, rfl, g1⟩ := h1
  obtain ⟨_, a2, cap2, rfl, g2⟩ := h2
  have HC1 : Hid (l1 ≠ [] → ∃ b o, a1 = some ⟨b, o, none⟩ ∧ b < w.heap.size ∧ ∀ i (h : i < l1.length), w.cell? ⟨b, o + i * 2, none⟩ = some (.int .i64 l1[i].k) ∧ w.cell? ⟨b, o + i * 2 + 1, none⟩ = some (.int .i64 l1[i].n)) := by
    intro hne
    rcases g1 with h | ⟨b, o, h1, h2, _, h3⟩
    · exact absurd h hne
    · exact ⟨b, o, h1, h2, h3⟩
  have HC2 : Hid (l2 ≠ [] → ∃ b o, a2 = some ⟨b, o, none⟩ ∧ b < w.heap.size ∧ ∀ i (h : i < l2.length), w.cell? ⟨b, o + i * 2, none⟩ = some (.int .i64 l2[i].k) ∧ w.cell? ⟨b, o + i * 2 + 1, none⟩ = some (.int .i64 l2[i].n)) := by
    intro hne
    rcases g2 with h | ⟨b, o, h1, h2, _, h3⟩
    · exact absurd h hne
    · exact ⟨b, o, h1, h2, h3⟩
  clear g1 g2
  have mixed := mixedP
  have hg1 := guardA
  by_cases hl : l1.length = l2.length
  · have hd : ((l1.length : Int) != (l2.length : Int)) = false := by simp [hl]
    have HL := hid hl
    clear hl
    go_enter Tryd.func9, Tryd.ntmps9
    go_wp2
    go_loopw [5] (fun i w' => ∃ j : Nat, j ≤ l1.length ∧ i = .int .i64 j ∧ Hid (l1.take j = l2.take j) ∧ Hid (∃ n, w' = w.drewN n)) (fun i _ => l1.length - (intOf i).toNat)
    case atStart => exact ⟨0, Nat.zero_le _, rfl, rfl, ⟨0, rfl⟩⟩
    case round =>
      obtain ⟨j, hj, rfl, hm, hw⟩ := hrel
      have hB : Hid (Below w.heap.size w wr) := by
        obtain ⟨n, h⟩ := hw.out
        rw [h]; exact (Gr.refl w).drewN n |>.below
      by_cases hjl : j < l1.length
      · have hjl2 : j < l2.length := by have := HL.out; omega
        obtain ⟨b1, o1, rfl, hlt1, hc1⟩ := HC1.out (by intro e; rw [e] at hjl; simp at hjl)
        obtain ⟨b2, o2, rfl, hlt2, hc2⟩ := HC2.out (by intro e; rw [e] at hjl2; simp at hjl2)
        obtain ⟨c1, c2⟩ := hc1 j hjl
        obtain ⟨d1, d2⟩ := hc2 j hjl2
        rw [← hB.out.cell (p := ⟨b1, o1 + j * 2, none⟩) hlt1] at c1
        rw [← hB.out.cell (p := ⟨b1, o1 + j * 2 + 1, none⟩) hlt1] at c2
        rw [← hB.out.cell (p := ⟨b2, o2 + j * 2, none⟩) hlt2] at d1
        rw [← hB.out.cell (p := ⟨b2, o2 + j * 2 + 1, none⟩) hlt2] at d2
        obtain ⟨x, hx⟩ : ∃ x, l1[j] = x := ⟨_, rfl⟩
        obtain ⟨y, hy⟩ : ∃ y, l2[j] = y := ⟨_, rfl⟩
        rw [hx] at c1 c2
        rw [hy] at d1 d2
        have HX := hid hx
        have HY := hid hy
        clear hx hy hc1 hc2
        have he := fun w' => neq_atm x y w'
        by_cases hxy : x = y
        · have HXY := hid hxy
          rw [decide_eq_true hxy] at he
          simp only [Bool.not_true] at he
          clear hxy
          go_wp2_with fail
          go_quiet (fail)
          go_wp2
          refine ⟨⟨j + 1, by omega, by go_num, take_eq hjl hjl2 hm.out (by rw [HX.out, HY.out, HXY.out]), ?_⟩, by simp [intOf]; omega⟩
          obtain ⟨n, h⟩ := hw.out
          exact ⟨n + nq, by rw [h, World.drewN_drewN]⟩
        · have HXY := hid hxy
          rw [decide_eq_false hxy] at he
          simp only [Bool.not_false] at he
          clear hxy
          go_wp2_with fail
          go_quiet (fail)
          go_wp2
          go_ret
          refine ⟨ret_bool (decide_eq_false ?_).symm, hB.out.trans ((((Gr.refl wr).drewN _).below).mono hB.out.size)⟩
          intro e
          subst e
          exact HXY.out (by rw [← HX.out, ← HY.out])
      · go_wp2
        go_ret
        refine ⟨ret_bool (decide_eq_true ?_).symm, hB.out⟩
        have := hm.out
        rw [List.take_of_length_le (by omega), List.take_of_length_le (by have := HL.out; omega)] at this
        exact this
  · have hd : ((l1.length : Int) != (l2.length : Int)) = true := by simp; omega
    have HN : Hid (l1 ≠ l2) := fun h => hl (by rw [h])
    clear hl
    go_enter Tryd.func9, Tryd.ntmps9
    go_wp2
    go_ret
    exact ⟨ret_bool (decide_eq_false HN.out).symm, Below.refl _ _⟩

/-- a list that is written out -/
theorem atAt_new (w : World) (l : List M.Atm) (hn : l.length ≤ 100) (hr : ∀ x ∈ l, InR x.n) : AtAt (w.alloc (.cells (l.flatMap ac).toArray 24)) (.slice (some ⟨w.heap.size, 0, none⟩) l.length l.length) l := by
  have h1 := heap_alloc_new w (.cells (l.flatMap ac).toArray 24)
  refine ⟨hr, _, _, rfl, .inr ⟨w.heap.size, 0, rfl, by simp, ⟨Nat.le_refl _, by unfold maxLen; omega⟩, fun i hi => ?_⟩⟩
  obtain ⟨e1, e2⟩ := ac_get l i hi
  exact ⟨cell_cur h1 (by rw [Nat.zero_add]; simpa using e1), cell_cur h1 (by rw [Nat.zero_add]; simpa using e2)⟩
def fL : List M.Atm := [⟨4, 1⟩, ⟨5, 2⟩]
theorem fT1 : bs (M.textB fL) = ⟨#[114, 101, 99, 49, 32, 115, 117, 109, 50]⟩ := by
  simp [fL, M.textB, M.joinB, M.tailB, M.wordB, Lib.itoa, Lib.decDigits_one, bs]
theorem fT2 : bs (M.textB [⟨5, 1⟩, ⟨5, 2⟩]) = ⟨#[115, 117, 109, 49, 32, 115, 117, 109, 50]⟩ := by
  simp [M.textB, M.joinB, M.tailB, M.wordB, Lib.itoa, Lib.decDigits_one, bs]
theorem fT3 : bs (M.textB [⟨0, 0⟩, ⟨2, 0⟩]) = ⟨#[110, 117, 108, 108, 32, 110, 117, 109]⟩ := by
  simp [M.textB, M.joinB, M.tailB, M.wordB, bs]
theorem fR : M.rename fL 1 = [⟨5, 1⟩, ⟨5, 2⟩] := by decide
theorem fU : M.norm ([⟨2, 0⟩] ++ [⟨0, 0⟩, ⟨2, 0⟩]) = [⟨0, 0⟩, ⟨2, 0⟩] := by decide

set_option maxHeartbeats 2000000 in
set_option maxRecDepth 100000 in
theorem fixed_any (w : World) (ht : TabW w) :
    Calls Tryd.prog 8 #[] w fun e w' => e = .returned (.bool true) ∧ Below w.heap.size w w' := by
  have T0 := hid (atAt_new w fL (by decide) (by intro x hx; simp [fL] at hx; rcases hx with rfl | rfl <;> simp [InR]))
  have B0 := hid ((Below.refl w.heap.size w).alloc (Nat.le_refl _) (.cells (fL.flatMap ac).toArray 24))
  have HT := hid ht
  clear ht
  go_enter Tryd.func8, Tryd.ntmps8
  go_wp2_with (go_at_call 20; refine stopHere ?_)
  refine stopAt ?_
  refine (rename_any _ _ fL 1 T0.out (by decide)).mono ?_
  rintro e w1 ⟨v1, rfl, hA1, hb1⟩
  rw [fR] at hA1
  have TM := hid hA1
  have B1 := hid (B0.out.trans (hb1.mono B0.out.size))
  have T1 := hid (T0.out.bel hb1)
  obtain ⟨q1, m1, rfl⟩ := hA1.form
  clear hA1 hb1 T0 B0
  go_wp2_with (go_at_call 14; refine stopHere ?_)
  refine stopAt ?_
  have TA := (atAt_new w1 [⟨2, 0⟩] (by decide) (by intro x hx; simp at hx; subst hx; simp [InR])).bel (((Gr.refl _).alloc (.cells (([⟨0, 0⟩, ⟨2, 0⟩] : List M.Atm).flatMap ac).toArray 24)).below)
  have TB := atAt_new (w1.alloc (.cells (([⟨2, 0⟩] : List M.Atm).flatMap ac).toArray 24)) [⟨0, 0⟩, ⟨2, 0⟩] (by decide) (by intro x hx; simp at hx; rcases hx with rfl | rfl <;> simp [InR])
  rw [World.size_alloc] at TB
  have B2 := hid ((B1.out.alloc B1.out.size (.cells (([⟨2, 0⟩] : List M.Atm).flatMap ac).toArray 24)))
  have B3 := hid ((B2.out.alloc B2.out.size (.cells (([⟨0, 0⟩, ⟨2, 0⟩] : List M.Atm).flatMap ac).toArray 24)))
  have G3 := hid ((((Gr.refl w1).alloc (.cells (([⟨2, 0⟩] : List M.Atm).flatMap ac).toArray 24)).alloc (.cells (([⟨0, 0⟩, ⟨2, 0⟩] : List M.Atm).flatMap ac).toArray 24)).below)
  refine (union_any _ _ _ _ _ TA TB (by decide) (by decide)).mono ?_
  rintro e w2 ⟨v2, rfl, hA2, hb2⟩
  rw [fU] at hA2
  have TU := hid hA2
  have B4 := hid (B3.out.trans (hb2.mono B3.out.size))
  have C2 : Hid (Below w1.heap.size w1 w2) := G3.out.trans (hb2.mono G3.out.size)
  have T2 := hid (T1.out.bel C2.out)
  have TM2 := hid (TM.out.bel C2.out)
  obtain ⟨q2, m2, rfl⟩ := hA2.form
  clear hA2 hb2 TA TB B2 B3 G3 C2 T1 TM B1
  -- the three texts
  go_wp2_with (go_at_call 22; refine stopHere ?_)
  refine stopAt ?_
  refine (text_any w2 _ fL T2.out (by decide) (HT.out.below B4.out)).mono ?_
  rw [fT1]
  rintro e w3 ⟨rfl, hb3⟩
  have B5 := hid (B4.out.trans (hb3.mono B4.out.size))
  have T3 := hid (T2.out.bel hb3)
  have TM3 := hid (TM2.out.bel hb3)
  have TU3 := hid (TU.out.bel hb3)
  clear hb3 T2 TM2 TU B4
  go_wp2_with (go_at_call 22; refine stopHere ?_)
  refine stopAt ?_
  refine (text_any w3 _ _ TM3.out (by decide) (HT.out.below B5.out)).mono ?_
  rw [fT2]
  rintro e w4 ⟨rfl, hb4⟩
  have B6 := hid (B5.out.trans (hb4.mono B5.out.size))
  have T4 := hid (T3.out.bel hb4)
  have TU4 := hid (TU3.out.bel hb4)
  clear hb4 T3 TM3 TU3 B5
  go_wp2_with (go_at_call 22; refine stopHere ?_)
  refine stopAt ?_
  refine (text_any w4 _ _ TU4.out (by decide) (HT.out.below B6.out)).mono ?_
  rw [fT3]
  rintro e w5 ⟨rfl, hb5⟩
  have B7 := hid (B6.out.trans (hb5.mono B6.out.size))
  have T5 := hid (T4.out.bel hb5)
  clear hb5 T4 TU4 B6
  go_wp2_with (go_at_call 12; refine stopHere ?_)
  refine stopAt ?_
  refine (may_any w5 _ fL T5.out (by decide)).mono ?_
  rw [show M.mayL fL = true by decide]
  rintro e w6 ⟨rfl, hg6⟩
  have hb6 := hg6.below
  have B8 := hid (B7.out.trans (hb6.mono B7.out.size))
  have T6 := hid (T5.out.bel hb6)
  clear hb6 hg6 T5 B7
  have TN := hid (atAt_new w6 [⟨0, 1⟩] (by decide) (by intro x hx; simp at hx; subst hx; simp [InR]))
  have B9 := hid ((B8.out.alloc B8.out.size (.cells (([⟨0, 1⟩] : List M.Atm).flatMap ac).toArray 24)))
  have T7 := hid (T6.out.bel (((Gr.refl _).alloc (.cells (([⟨0, 1⟩] : List M.Atm).flatMap ac).toArray 24)).below))
  go_wp2_with (go_at_call 12; refine stopHere ?_)
  refine stopAt ?_
  refine (may_any _ _ _ TN.out (by decide)).mono ?_
  rw [show M.mayL [⟨0, 1⟩] = false by decide]
  rintro e w7 ⟨rfl, hg7⟩
  have hb7 := hg7.below
  have B10 := hid (B9.out.trans (hb7.mono B9.out.size))
  have T8 := hid (T7.out.bel hb7)
  clear hb7 hg7 TN B9 T7 T6 B8
  obtain ⟨c1, c2⟩ : w7.cell? ⟨w.heap.size, 0, none⟩ = some (.int .i64 4) ∧ w7.cell? ⟨w.heap.size, 1, none⟩ = some (.int .i64 1) := by
    obtain ⟨_, a, cap, hv, h | ⟨b, o, ha, _, _, hc⟩⟩ := T8.out
    · cases h
    · simp only [Value.slice.injEq] at hv
      rw [ha] at hv
      simp only [Option.some.injEq, Addr.mk.injEq] at hv
      obtain ⟨⟨rfl, rfl, _⟩, _⟩ := hv
      exact hc 0 (by decide)
  go_wp2_with (go_at_call 18; refine stopHere ?_)
  refine stopAt ?_
  refine (has_any w7 _ fL ⟨4, 1⟩ T8.out (by decide)).mono ?_
  rw [show M.has fL ⟨4, 1⟩ = true by decide]
  rintro e w8 ⟨rfl, hb8⟩
  have B11 := hid (B10.out.trans (hb8.mono B10.out.size))
  have T9 := hid (T8.out.bel hb8)
  clear hb8 T8 B10 c1 c2
  go_wp2_with (go_at_call 16; refine stopHere ?_)
  refine stopAt ?_
  refine (within_any w8 _ _ fL fL T9.out T9.out (by decide) (by decide)).mono ?_
  rw [show M.within fL fL = true by decide]
  rintro e w9 ⟨rfl, hb9⟩
  go_wp2
  go_ret
  exact ⟨rfl, B11.out.trans (hb9.mono B11.out.size)⟩
end Go.Proofs.YtabffpecpfopkaaDoor
