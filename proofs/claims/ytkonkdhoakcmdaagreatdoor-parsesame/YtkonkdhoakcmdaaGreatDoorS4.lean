/-
  The walks of parse.sameFunc, slices.EqualFunc over functions and parse.Same: programs are compared as they should be. No conditions.
-/
import Derived.Test.YtkonkdhoakcmdaaGreatDoorS3
set_option linter.unusedVariables false
namespace Go.Proofs.YtkonkdhoakcmdaaGreatDoor
open Go.RowKit

/-- two blocks of three cells stay -/
theorem two3 {w W : World} {T : TypeId} {c0 c1 c2 d0 d1 d2 : Value} (h : Below (w.heap.size + 2) ((w.alloc (.cells #[c0, c1, c2] T)).alloc (.cells #[d0, d1, d2] T)) W) :
    W.heap[w.heap.size]? = some (.cells #[c0, c1, c2] T (0, 0)) ∧ W.heap[w.heap.size + 1]? = some (.cells #[d0, d1, d2] T (0, 0)) := by
  refine ⟨(h.block w.heap.size (by omega)).trans ((Below.heap_alloc _ _ _ (by simp)).trans (heap_alloc_new w _)), (h.block (w.heap.size + 1) (by omega)).trans ?_⟩
  have := heap_alloc_new (w.alloc (.cells #[c0, c1, c2] T)) (.cells #[d0, d1, d2] T)
  simp only [World.size_alloc] at this; exact this
theorem three_cells {w : World} {b o j : Nat} {cs rest : List Value} {c0 c1 c2 : Value} (hc : ∀ i u, cs[i]? = some u → w.cell? ⟨b, o + i, none⟩ = some u) (hd : cs.drop (j * 3) = c0 :: c1 :: c2 :: rest) :
    w.cell? ⟨b, o + j * 3, none⟩ = some c0 ∧ w.cell? ⟨b, o + j * 3 + 1, none⟩ = some c1 ∧ w.cell? ⟨b, o + j * 3 + 2, none⟩ = some c2 ∧ cs.drop ((j + 1) * 3) = rest := by
  have h : ∀ k u, (c0 :: c1 :: c2 :: rest)[k]? = some u → w.cell? ⟨b, o + j * 3 + k, none⟩ = some u := fun k u hu => by
    rw [Nat.add_assoc]; exact hc _ _ (by rw [drop_get, hd]; exact hu)
  refine ⟨h 0 _ rfl, h 1 _ rfl, h 2 _ rfl, ?_⟩
  rw [show (j + 1) * 3 = j * 3 + 3 by omega, ← List.drop_drop, hd]; rfl

set_option maxRecDepth 8000 in
set_option maxHeartbeats 800000 in
theorem sameFunc_0 (w : World) (f g : M.Fn) (vp1 vp2 vb1 vb2 : Value) (gP1 : StrsAt w NoX vp1 f.ps) (gP2 : StrsAt w NoX vp2 g.ps) (gB1 : StmAt w NoX vb1 f.body) (gB2 : StmAt w NoX vb2 g.body) (n0 : ¬ f.name = g.name) :
    Calls Tryz.prog 28 #[.agg #[.string f.name, vp1, vb1], .agg #[.string g.name, vp2, vb2]] w fun e w' => e = .returned (.bool (decide (f = g))) ∧ Below w.heap.size w w' := by
  have HD : Hid (decide (f = g) = false) := decide_eq_false fun h => n0 (by rw [h])
  have hw0 : Below w.heap.size w ((w.alloc (.cells #[.string f.name, vp1, vb1] 56)).alloc (.cells #[.string g.name, vp2, vb2] 56)) := ((Below.refl _ _).alloc (Nat.le_refl _) _).alloc (by simp) _
  have hz0 : ((w.alloc (.cells #[.string f.name, vp1, vb1] 56)).alloc (.cells #[.string g.name, vp2, vb2] 56)).heap.size = w.heap.size + 2 := by simp only [World.size_alloc]
  obtain ⟨q3, m3, rfl⟩ := SlAt.form gP1
  obtain ⟨q4, m4, rfl⟩ := SlAt.form gP2
  obtain ⟨q5, m5, rfl⟩ := StmAt.form gB1
  obtain ⟨q6, m6, rfl⟩ := StmAt.form gB2
  have b0 : (f.name.toList == g.name.toList) = false := by rw [beq_list]; exact decide_eq_false n0
  clear n0
  have HZ0 := hid hz0
  clear hz0
  go_enter Tryz.func28, Tryz.ntmps28
  go_wp2_with fail
  go_ret
  exact ⟨ret_bool HD.out.symm, hw0⟩

set_option maxRecDepth 8000 in
set_option maxHeartbeats 800000 in
theorem sameFunc_1 (w : World) (f g : M.Fn) (vp1 vp2 vb1 vb2 : Value) (gP1 : StrsAt w NoX vp1 f.ps) (gP2 : StrsAt w NoX vp2 g.ps) (gB1 : StmAt w NoX vb1 f.body) (gB2 : StmAt w NoX vb2 g.body) (e0 : f.name = g.name) (n1 : ¬ f.ps = g.ps) :
    Calls Tryz.prog 28 #[.agg #[.string f.name, vp1, vb1], .agg #[.string g.name, vp2, vb2]] w fun e w' => e = .returned (.bool (decide (f = g))) ∧ Below w.heap.size w w' := by
  have HD : Hid (decide (f = g) = false) := decide_eq_false fun h => n1 (by rw [h])
  have hw0 : Below w.heap.size w ((w.alloc (.cells #[.string f.name, vp1, vb1] 56)).alloc (.cells #[.string g.name, vp2, vb2] 56)) := ((Below.refl _ _).alloc (Nat.le_refl _) _).alloc (by simp) _
  have hz0 : ((w.alloc (.cells #[.string f.name, vp1, vb1] 56)).alloc (.cells #[.string g.name, vp2, vb2] 56)).heap.size = w.heap.size + 2 := by simp only [World.size_alloc]
  obtain ⟨q3, m3, rfl⟩ := SlAt.form gP1
  obtain ⟨q4, m4, rfl⟩ := SlAt.form gP2
  obtain ⟨q5, m5, rfl⟩ := StmAt.form gB1
  obtain ⟨q6, m6, rfl⟩ := StmAt.form gB2
  have b0 : (f.name.toList == g.name.toList) = true := by rw [beq_list]; exact decide_eq_true e0
  clear e0
  have d1 : decide (f.ps = g.ps) = false := decide_eq_false n1
  clear n1
  have HZ0 := hid hz0
  clear hz0
  go_enter Tryz.func28, Tryz.ntmps28
  go_wp2_with fail
  refine (strsEqB _ _ _ _ _ _ (SlAt.bel gP1 hw0) (SlAt.bel gP2 hw0) d1).mono ?_
  rintro e w4 ⟨rfl, hb4⟩
  have hB4 := hb4
  rw [HZ0.out] at hB4
  have hw4 : Below w.heap.size w w4 := hw0.trans (hB4.mono (by omega))
  go_wp2_with fail
  go_ret
  exact ⟨ret_bool HD.out.symm, hw4⟩

set_option maxRecDepth 8000 in
set_option maxHeartbeats 800000 in
theorem sameFunc_2 (w : World) (f g : M.Fn) (vp1 vp2 vb1 vb2 : Value) (gP1 : StrsAt w NoX vp1 f.ps) (gP2 : StrsAt w NoX vp2 g.ps) (gB1 : StmAt w NoX vb1 f.body) (gB2 : StmAt w NoX vb2 g.body) (e0 : f.name = g.name) (e1 : f.ps = g.ps) (n2 : ¬ f.body = g.body) :
    Calls Tryz.prog 28 #[.agg #[.string f.name, vp1, vb1], .agg #[.string g.name, vp2, vb2]] w fun e w' => e = .returned (.bool (decide (f = g))) ∧ Below w.heap.size w w' := by
  have HD : Hid (decide (f = g) = false) := decide_eq_false fun h => n2 (by rw [h])
  have hw0 : Below w.heap.size w ((w.alloc (.cells #[.string f.name, vp1, vb1] 56)).alloc (.cells #[.string g.name, vp2, vb2] 56)) := ((Below.refl _ _).alloc (Nat.le_refl _) _).alloc (by simp) _
  have hz0 : ((w.alloc (.cells #[.string f.name, vp1, vb1] 56)).alloc (.cells #[.string g.name, vp2, vb2] 56)).heap.size = w.heap.size + 2 := by simp only [World.size_alloc]
  obtain ⟨q3, m3, rfl⟩ := SlAt.form gP1
  obtain ⟨q4, m4, rfl⟩ := SlAt.form gP2
  obtain ⟨q5, m5, rfl⟩ := StmAt.form gB1
  obtain ⟨q6, m6, rfl⟩ := StmAt.form gB2
  have b0 : (f.name.toList == g.name.toList) = true := by rw [beq_list]; exact decide_eq_true e0
  clear e0
  have d1 : decide (f.ps = g.ps) = true := decide_eq_true e1
  clear e1
  have d2 : decide (f.body = g.body) = false := decide_eq_false n2
  clear n2
  have HZ0 := hid hz0
  clear hz0
  go_enter Tryz.func28, Tryz.ntmps28
  go_wp2_with fail
  refine (strsEqB _ _ _ _ _ _ (SlAt.bel gP1 hw0) (SlAt.bel gP2 hw0) d1).mono ?_
  rintro e w4 ⟨rfl, hb4⟩
  have hB4 := hb4
  rw [HZ0.out] at hB4
  have hw4 : Below w.heap.size w w4 := hw0.trans (hB4.mono (by omega))
  obtain ⟨tw1, tw2⟩ := two3 hB4
  obtain ⟨k0, k1, k2, kf, kz⟩ := cells3 tw1
  obtain ⟨l0, l1, l2, lf, lz⟩ := cells3 tw2
  go_wp2_with fail
  refine (sameB (sameC f.body.sz) _ _ _ _ _ _ (Nat.le_refl _) (gB1.bel hw4) (gB2.bel hw4) d2).mono ?_
  rintro e w5 ⟨rfl, hb5⟩
  have hB5 := hB4.trans (hb5.mono (by have := hB4.size; rw [HZ0.out] at this; exact this))
  have hw5 : Below w.heap.size w w5 := hw0.trans (hB5.mono (by omega))
  go_wp2_with fail
  go_ret
  exact ⟨ret_bool HD.out.symm, hw5⟩

set_option maxRecDepth 8000 in
set_option maxHeartbeats 800000 in
theorem sameFunc_3 (w : World) (f g : M.Fn) (vp1 vp2 vb1 vb2 : Value) (gP1 : StrsAt w NoX vp1 f.ps) (gP2 : StrsAt w NoX vp2 g.ps) (gB1 : StmAt w NoX vb1 f.body) (gB2 : StmAt w NoX vb2 g.body) (e0 : f.name = g.name) (e1 : f.ps = g.ps) (e2 : f.body = g.body) :
    Calls Tryz.prog 28 #[.agg #[.string f.name, vp1, vb1], .agg #[.string g.name, vp2, vb2]] w fun e w' => e = .returned (.bool (decide (f = g))) ∧ Below w.heap.size w w' := by
  have HD : Hid (decide (f = g) = true) := decide_eq_true (by cases f; cases g; simp_all)
  have hw0 : Below w.heap.size w ((w.alloc (.cells #[.string f.name, vp1, vb1] 56)).alloc (.cells #[.string g.name, vp2, vb2] 56)) := ((Below.refl _ _).alloc (Nat.le_refl _) _).alloc (by simp) _
  have hz0 : ((w.alloc (.cells #[.string f.name, vp1, vb1] 56)).alloc (.cells #[.string g.name, vp2, vb2] 56)).heap.size = w.heap.size + 2 := by simp only [World.size_alloc]
  obtain ⟨q3, m3, rfl⟩ := SlAt.form gP1
  obtain ⟨q4, m4, rfl⟩ := SlAt.form gP2
  obtain ⟨q5, m5, rfl⟩ := StmAt.form gB1
  obtain ⟨q6, m6, rfl⟩ := StmAt.form gB2
  have b0 : (f.name.toList == g.name.toList) = true := by rw [beq_list]; exact decide_eq_true e0
  clear e0
  have d1 : decide (f.ps = g.ps) = true := decide_eq_true e1
  clear e1
  have d2 : decide (f.body = g.body) = true := decide_eq_true e2
  clear e2
  have HZ0 := hid hz0
  clear hz0
  go_enter Tryz.func28, Tryz.ntmps28
  go_wp2_with fail
  refine (strsEqB _ _ _ _ _ _ (SlAt.bel gP1 hw0) (SlAt.bel gP2 hw0) d1).mono ?_
  rintro e w4 ⟨rfl, hb4⟩
  have hB4 := hb4
  rw [HZ0.out] at hB4
  have hw4 : Below w.heap.size w w4 := hw0.trans (hB4.mono (by omega))
  obtain ⟨tw1, tw2⟩ := two3 hB4
  obtain ⟨k0, k1, k2, kf, kz⟩ := cells3 tw1
  obtain ⟨l0, l1, l2, lf, lz⟩ := cells3 tw2
  go_wp2_with fail
  refine (sameB (sameC f.body.sz) _ _ _ _ _ _ (Nat.le_refl _) (gB1.bel hw4) (gB2.bel hw4) d2).mono ?_
  rintro e w5 ⟨rfl, hb5⟩
  have hB5 := hB4.trans (hb5.mono (by have := hB4.size; rw [HZ0.out] at this; exact this))
  have hw5 : Below w.heap.size w w5 := hw0.trans (hB5.mono (by omega))
  go_wp2_with fail
  go_ret
  exact ⟨ret_bool HD.out.symm, hw5⟩

theorem sameFunc_any (w : World) (f g : M.Fn) (vp1 vp2 vb1 vb2 : Value) (gP1 : StrsAt w NoX vp1 f.ps) (gP2 : StrsAt w NoX vp2 g.ps) (gB1 : StmAt w NoX vb1 f.body) (gB2 : StmAt w NoX vb2 g.body) :
    Calls Tryz.prog 28 #[.agg #[.string f.name, vp1, vb1], .agg #[.string g.name, vp2, vb2]] w fun e w' => e = .returned (.bool (decide (f = g))) ∧ Below w.heap.size w w' := by
  by_cases e0 : f.name = g.name
  case neg => exact sameFunc_0 w f g vp1 vp2 vb1 vb2 gP1 gP2 gB1 gB2 e0
  by_cases e1 : f.ps = g.ps
  case neg => exact sameFunc_1 w f g vp1 vp2 vb1 vb2 gP1 gP2 gB1 gB2 e0 e1
  by_cases e2 : f.body = g.body
  case neg => exact sameFunc_2 w f g vp1 vp2 vb1 vb2 gP1 gP2 gB1 gB2 e0 e1 e2
  exact sameFunc_3 w f g vp1 vp2 vb1 vb2 gP1 gP2 gB1 gB2 e0 e1 e2

set_option maxRecDepth 8000 in
set_option maxHeartbeats 1600000 in
theorem eqFuncF_any (w : World) (va vb : Value) (l m : List M.Fn) (h1 : ProgAt w NoX va l) (h2 : ProgAt w NoX vb m) :
    Calls Tryz.prog 27 #[va, vb, .func (.func 28) #[] #[]] w fun e w' => e = .returned (.bool (decide (l = m))) ∧ Below w.heap.size w w' := by
  obtain ⟨cs, ⟨l1, a1, cap1, rfl, g1⟩, row1⟩ := h1
  obtain ⟨ds, ⟨l2, a2, cap2, rfl, g2⟩, row2⟩ := h2
  by_cases hl : l.length = m.length
  · have hd : ((l.length : Int) != (m.length : Int)) = false := by simp [hl]
    by_cases h0 : l.length = 0
    · have hu : m.length = 0 := by omega
      obtain rfl := List.length_eq_zero_iff.1 h0
      obtain rfl := List.length_eq_zero_iff.1 hu
      go_enter Tryz.func27, Tryz.ntmps27
      go_wp2_with fail
      go_loop [17] (fun i => i = .int .i64 0) (fun _ => 0)
      case atStart => rfl
      case round =>
        subst hrel
        go_wp2_with fail
        go_ret
        exact ⟨rfl, Below.refl _ _⟩
    · have HL : Hid (l.length = m.length) := hl
      have HU : m.length ≠ 0 := by omega
      rcases g1 with ⟨g1, _⟩ | ⟨b1, o1, rfl, hlt1, _, hc1⟩
      · exact absurd g1 h0
      rcases g2 with ⟨g2, _⟩ | ⟨b2, o2, rfl, hlt2, _, hc2⟩
      · exact absurd g2 HU
      clear hl
      go_enter Tryz.func27, Tryz.ntmps27
      go_wp2_with fail
      go_loopw [17] (fun i wr => ∃ (j : Nat) (l' m' : List M.Fn), i = .int .i64 j ∧ j + l'.length = l.length ∧ j + m'.length = m.length ∧ Below w.heap.size w wr ∧ FnsAt w NoX (cs.drop (j * 3)) l' ∧ FnsAt w NoX (ds.drop (j * 3)) m' ∧ Hid (decide (l = m) = decide (l' = m'))) (fun i _ => l.length - (intOf i).toNat)
      case atStart => exact ⟨0, l, m, rfl, Nat.zero_add _, Nat.zero_add _, Below.refl _ _, by simpa using row1, by simpa using row2, rfl⟩
      case round =>
        obtain ⟨j, l', m', rfl, hj1, hj2, hb, r1, r2, HE⟩ := hrel
        have hll := HL.out
        by_cases hjl : j < l.length
        · cases l' with
          | nil => simp only [List.length_nil] at hj1; omega
          | cons f lr =>
            cases m' with
            | nil => simp only [List.length_nil] at hj2; omega
            | cons g mr =>
              obtain ⟨vp1, vb1, rest1, e1, gP1, gB1, gN1⟩ := r1
              obtain ⟨vp2, vb2, rest2, e2, gP2, gB2, gN2⟩ := r2
              obtain ⟨f0, f1, f2, fr⟩ := three_cells hc1 e1
              obtain ⟨s0, s1, s2, sr⟩ := three_cells hc2 e2
              have hbc := fun (b o : Nat) (hlt : b < w.heap.size) => hb.cell (p := ⟨b, o, none⟩) hlt
              rw [← hbc b1 _ hlt1] at f0 f1 f2
              rw [← hbc b2 _ hlt2] at s0 s1 s2
              have hbW : Below w.heap.size w ((wr.alloc (.cells #[.string f.name, vp1, vb1] 56)).alloc (.cells #[.string g.name, vp2, vb2] 56)) := (hb.alloc hb.size _).alloc (by rw [World.size_alloc]; have := hb.size; omega) _
              have hcall := sameFunc_any ((wr.alloc (.cells #[.string f.name, vp1, vb1] 56)).alloc (.cells #[.string g.name, vp2, vb2] 56)) f g vp1 vp2 vb1 vb2 (SlAt.bel gP1 hbW) (SlAt.bel gP2 hbW) (gB1.bel hbW) (gB2.bel hbW)
              obtain ⟨q3, m3, rfl⟩ := SlAt.form gP1
              obtain ⟨q4, m4, rfl⟩ := SlAt.form gP2
              obtain ⟨q5, m5, rfl⟩ := StmAt.form gB1
              obtain ⟨q6, m6, rfl⟩ := StmAt.form gB2
              have hi1 : (j : Int) < (l.length : Int) := by omega
              have hi2 : (j : Int) < (m.length : Int) := by omega
              have hlw1 : b1 < wr.heap.size := Nat.lt_of_lt_of_le hlt1 hb.size
              have hlw2 : b2 < wr.heap.size := Nat.lt_of_lt_of_le hlt2 hb.size
              clear hll hbc
              simp only [List.length_cons] at hj1 hj2
              by_cases hcd : f = g
              · rw [decide_eq_true hcd] at hcall
                have HE2 : Hid (decide (l = m) = decide (lr = mr)) := by
                  unfold Hid; rw [HE.out]; exact decide_eq_decide.2 ⟨fun h => (List.cons.inj h).2, fun h => by rw [hcd, h]⟩
                clear hcd HE
                go_wp2_with fail
                refine hcall.mono ?_
                rintro e w5 ⟨rfl, hb5⟩
                go_wp2_with fail
                refine ⟨⟨j + 1, lr, mr, by go_num, by omega, by omega, ?_, by rw [fr]; exact gN1, by rw [sr]; exact gN2, HE2⟩, by simp [intOf]; omega⟩
                exact hbW.trans (hb5.mono (by rw [World.size_alloc, World.size_alloc]; have := hb.size; omega))
              · rw [decide_eq_false hcd] at hcall
                have HE2 : Hid (decide (l = m) = false) := by
                  unfold Hid; rw [HE.out]; exact decide_eq_false fun h => hcd (List.cons.inj h).1
                clear hcd HE
                go_wp2_with fail
                refine hcall.mono ?_
                rintro e w5 ⟨rfl, hb5⟩
                go_wp2_with fail
                go_ret
                refine ⟨ret_bool HE2.out.symm, ?_⟩
                exact hbW.trans (hb5.mono (by rw [World.size_alloc, World.size_alloc]; have := hb.size; omega))
        · obtain rfl : l' = [] := List.length_eq_zero_iff.1 (by omega)
          obtain rfl : m' = [] := List.length_eq_zero_iff.1 (by omega)
          clear hll
          go_wp2_with fail
          go_ret
          refine ⟨ret_bool ?_, hb⟩
          rw [HE.out]; rfl
  · have hd : ((l.length : Int) != (m.length : Int)) = true := by simp; omega
    have HN : Hid (l ≠ m) := fun h => hl (by rw [h])
    clear hl
    go_enter Tryz.func27, Tryz.ntmps27
    go_wp2_with fail
    go_ret
    exact ⟨ret_bool (decide_eq_false HN.out).symm, Below.refl _ _⟩

set_option maxHeartbeats 400000 in
theorem same_any (w : World) (va vb : Value) (l m : List M.Fn) (h1 : ProgAt w NoX va l) (h2 : ProgAt w NoX vb m) :
    Calls Tryz.prog 14 #[.agg #[va], .agg #[vb]] w fun e w' => e = .returned (.bool (decide (l = m))) ∧ Below w.heap.size w w' := by
  have hb0 : Below w.heap.size w ((w.alloc (.cells #[va] 25)).alloc (.cells #[vb] 25)) := ((Below.refl _ _).alloc (Nat.le_refl _) _).alloc (by simp) _
  have hcall := eqFuncF_any _ va vb l m (h1.keep (Below.keepX hb0)) (h2.keep (Below.keepX hb0))
  obtain ⟨q1, m1, rfl⟩ : ∃ a c, va = .slice a l.length c := by obtain ⟨_, h, _⟩ := h1; exact SlAt.form h
  obtain ⟨q2, m2, rfl⟩ : ∃ a c, vb = .slice a m.length c := by obtain ⟨_, h, _⟩ := h2; exact SlAt.form h
  go_enter Tryz.func14, Tryz.ntmps14
  go_wp2_with fail
  refine hcall.mono ?_
  rintro e w' ⟨rfl, hb⟩
  go_wp2_with fail
  go_ret
  exact ⟨rfl, hb0.trans (hb.mono (by rw [World.size_alloc, World.size_alloc]; omega))⟩
end Go.Proofs.YtkonkdhoakcmdaaGreatDoor
