/-
  The walk of proteanref02.Stmts over any two lists of statements: they are found to be the same just if they are. No conditions.
-/
import Derived.Test.YtkpmpnebmkeocaaGreatDoorSB
set_option linter.unusedSimpArgs false
set_option linter.unusedVariables false
section
namespace Go.Proofs.YtkpmpnebmkeocaaGreatDoor
open Go.RowKit

def SameU (k : Nat) : Prop := ∀ (w : World) (va vb : Value) (t u : M.Tr), t.sz ≤ k → StmAt w NoX va t → StmAt w NoX vb u → Calls Tryz.prog 32 #[va, vb] w fun e w' => e = .returned (.bool (decide (t = u))) ∧ Below w.heap.size w w'
theorem textsU (w : World) (va vb : Value) (a b : List ByteArray) (h1 : StrsAt w NoX va a) (h2 : StrsAt w NoX vb b) :
    Calls Tryz.prog 31 #[va, vb] w fun e w' => e = .returned (.bool (decide (a = b))) ∧ Below w.heap.size w w' :=
  (texts_any _ _ _ _ _ _ w h1 h2).mono fun e w' ⟨h, n, hw⟩ => ⟨h, by rw [hw]; exact below_drewN (Below.refl _ _) n⟩
theorem str_ne {x y : ByteArray} (h : ¬ x = y) : (x.toList == y.toList) = false := by rw [beq_eq_false_iff_ne]; exact fun e => h (toList_inj.1 e)
theorem str_eq {x y : ByteArray} (h : x = y) : (x.toList == y.toList) = true := by rw [h]; simp
theorem len_ne {t u : M.Tr} (h : ¬ t.len = u.len) : decide (t = u) = false := decide_eq_false fun e => h (by rw [e])
theorem tr_tail {op : Int} {x y p : ByteArray} {a : List M.Opd} {pr : List ByteArray} {th el nx nx' : M.Tr} : decide (M.Tr.cons op x y p a pr th el nx = .cons op x y p a pr th el nx') = decide (nx = nx') := by simp
theorem keptS {W W' : World} {g : Nat} {o : Obj} (hb : Below W.heap.size W W') (h : W.heap[g]? = some o) : W'.heap[g]? = some o := (hb.block g (Array.getElem?_eq_some_iff.1 h).1).trans h
theorem hltS {W : World} {g : Nat} {o : Obj} (h : W.heap[g]? = some o) : g < W.heap.size := (Array.getElem?_eq_some_iff.1 h).1

set_option maxRecDepth 8000 in
set_option maxHeartbeats 12800000 in
theorem stmtsU_any (k : Nat) (hB : SameU k) : SameU (k + 1) := by
  intro w va vb t u hk h1 h2
  obtain ⟨cs, ⟨l1, a1, cap1, rfl, g1⟩, row1⟩ := h1
  obtain ⟨ds, ⟨l2, a2, cap2, rfl, g2⟩, row2⟩ := h2
  by_cases hlen : t.len = u.len
  · have HL := hid hlen
    by_cases h0 : t.len = 0
    · obtain rfl := len_nil h0
      obtain rfl := len_nil (HL.out.symm.trans h0)
      clear hlen
      go_enter Tryz.func32, Tryz.ntmps32
      go_wp2_with fail
      go_loop [5] (fun i => i = .int .i64 0) (fun _ => 0)
      case atStart => rfl
      case round =>
        subst hrel
        go_wp2_with fail
        go_ret
        exact ⟨rfl, Below.refl _ _⟩
    · rcases g1 with ⟨g1, _⟩ | ⟨b1, o1, rfl, hlt1, _, hc1⟩
      · exact absurd g1 h0
      rcases g2 with ⟨g2, _⟩ | ⟨b2, o2, rfl, hlt2, _, hc2⟩
      · exact absurd (hlen.trans g2) h0
      rw [← hlen]
      clear hlen
      go_enter Tryz.func32, Tryz.ntmps32
      go_wp2_with fail
      go_loopw [5] (fun i wr => ∃ (j : Nat) (t' u' : M.Tr), i = .int .i64 j ∧ j + t'.len = t.len ∧ j + u'.len = t.len ∧ Below w.heap.size w wr ∧ RowAt w NoX (cs.drop (j * 8)) t' ∧ RowAt w NoX (ds.drop (j * 8)) u' ∧ t'.sz ≤ k + 1 ∧ Hid (decide (t = u) = decide (t' = u'))) (fun i _ => t.len - (intOf i).toNat)
      case atStart => exact ⟨0, t, u, rfl, Nat.zero_add _, by rw [Nat.zero_add]; exact HL.out.symm, Below.refl _ _, by simpa using row1, by simpa using row2, hk, rfl⟩
      case round =>
        obtain ⟨j, t', u', rfl, hj1, hj2, hb, r1, r2, hsz, HT⟩ := hrel
        clear HL
        by_cases hjl : j < t.len
        · cases t' with
          | nil => simp only [M.Tr.len] at hj1; omega
          | cons op x y p a pr th el nx =>
            cases u' with
            | nil => simp only [M.Tr.len] at hj2; omega
            | cons op' x' y' p' a' pr' th' el' nx' =>
              obtain ⟨va1, vp1, vt1, ve1, ct1, ce1, rest1, e1, gA1, gP1, gT1, gE1, gN1⟩ := r1
              obtain ⟨va2, vp2, vt2, ve2, ct2, ce2, rest2, e2, gA2, gP2, gT2, gE2, gN2⟩ := r2
              obtain ⟨f0, f1, f2, f3, f4, f5, f6, f7, fr⟩ := eight hc1 e1
              obtain ⟨s0, s1, s2, s3, s4, s5, s6, s7, sr⟩ := eight hc2 e2
              have hbc := fun (b o : Nat) (hlt : b < w.heap.size) => hb.cell (p := ⟨b, o, none⟩) hlt
              rw [← hbc b1 _ hlt1] at f0 f1 f2 f3 f4 f5 f6 f7
              rw [← hbc b2 _ hlt2] at s0 s1 s2 s3 s4 s5 s6 s7
              have gT1' : StmAt w NoX vt1 th := ⟨ct1, gT1.1, gT1.2⟩
              have gE1' : StmAt w NoX ve1 el := ⟨ce1, gE1.1, gE1.2⟩
              have gT2' : StmAt w NoX vt2 th' := ⟨ct2, gT2.1, gT2.2⟩
              have gE2' : StmAt w NoX ve2 el' := ⟨ce2, gE2.1, gE2.2⟩
              simp only [M.Tr.sz] at hsz
              simp only [M.Tr.len] at hj1 hj2
              have hk1 : th.sz ≤ k := by omega
              have hk2 : el.sz ≤ k := by omega
              obtain ⟨q1, m1, rfl⟩ := SlAt.form gA1
              obtain ⟨q2, m2, rfl⟩ := SlAt.form gA2
              obtain ⟨q3, m3, rfl⟩ := SlAt.form gP1
              obtain ⟨q4, m4, rfl⟩ := SlAt.form gP2
              obtain ⟨q5, m5, rfl⟩ := StmAt.form gT1'
              obtain ⟨q6, m6, rfl⟩ := StmAt.form gT2'
              obtain ⟨q7, m7, rfl⟩ := StmAt.form gE1'
              obtain ⟨q8, m8, rfl⟩ := StmAt.form gE2'
              have hi1 : (j : Int) < (t.len : Int) := by omega
              have hlw1 : b1 < wr.heap.size := Nat.lt_of_lt_of_le hlt1 hb.size
              have hlw2 : b2 < wr.heap.size := Nat.lt_of_lt_of_le hlt2 hb.size
              have hla : a.length ≤ 4398046511104 := gA1.1
              have hla' : a'.length ≤ 4398046511104 := gA2.1
              have HJ1 := hid hj1
              have HJ2 := hid hj2
              clear hbc hj1 hj2
              go_wp2_with fail
              go_region_held3 (fun w' => w'.cell? ⟨b1, o1 + j * 8, none⟩ = some (.int .i64 op) ∧ w'.cell? ⟨b1, o1 + j * 8 + 1, none⟩ = some (.string x) ∧ w'.cell? ⟨b1, o1 + j * 8 + 2, none⟩ = some (.string y) ∧ w'.cell? ⟨b1, o1 + j * 8 + 3, none⟩ = some (.string p) ∧ w'.cell? ⟨b1, o1 + j * 8 + 4, none⟩ = some (.slice q1 a.length m1) ∧ w'.cell? ⟨b1, o1 + j * 8 + 5, none⟩ = some (.slice q3 pr.length m3) ∧ w'.cell? ⟨b1, o1 + j * 8 + 6, none⟩ = some (.slice q5 th.len m5) ∧ w'.cell? ⟨b1, o1 + j * 8 + 7, none⟩ = some (.slice q7 el.len m7) ∧ w'.cell? ⟨b2, o2 + j * 8, none⟩ = some (.int .i64 op') ∧ w'.cell? ⟨b2, o2 + j * 8 + 1, none⟩ = some (.string x') ∧ w'.cell? ⟨b2, o2 + j * 8 + 2, none⟩ = some (.string y') ∧ w'.cell? ⟨b2, o2 + j * 8 + 3, none⟩ = some (.string p') ∧ w'.cell? ⟨b2, o2 + j * 8 + 4, none⟩ = some (.slice q2 a'.length m2) ∧ w'.cell? ⟨b2, o2 + j * 8 + 5, none⟩ = some (.slice q4 pr'.length m4) ∧ w'.cell? ⟨b2, o2 + j * 8 + 6, none⟩ = some (.slice q6 th'.len m6) ∧ w'.cell? ⟨b2, o2 + j * 8 + 7, none⟩ = some (.slice q8 el'.len m8)) (go_keep) (fail)
              · obtain ⟨hn0, hn1, hn2, hn3⟩ := pair_new (wr := wr) (A := (.cells #[.int .i64 op, .string x, .string y, .string p, .slice q1 a.length m1, .slice q3 pr.length m3, .slice q5 th.len m5, .slice q7 el.len m7] 32)) (B := (.cells #[.int .i64 op', .string x', .string y', .string p', .slice q2 a'.length m2, .slice q4 pr'.length m4, .slice q6 th'.len m6, .slice q8 el'.len m8] 32))
                generalize hw4 : ((wr.alloc (.cells #[.int .i64 op, .string x, .string y, .string p, .slice q1 a.length m1, .slice q3 pr.length m3, .slice q5 th.len m5, .slice q7 el.len m7] 32)).alloc (.cells #[.int .i64 op', .string x', .string y', .string p', .slice q2 a'.length m2, .slice q4 pr'.length m4, .slice q6 th'.len m6, .slice q8 el'.len m8] 32)).drew = w4 at hn0 hn1 hn2 hn3 ⊢
                clear hw4
                have hP4 := hn1
                have hQ4 := hn2
                have hb4 : Below w.heap.size w w4 := hb.trans (hn0.mono hb.size)
                clear hn0 hn1 hn2 hn3 f0 f1 f2 f3 f4 f5 f6 f7 s0 s1 s2 s3 s4 s5 s6 s7
                by_cases h1 : op = op'
                case neg =>
                  obtain ⟨k0, k1, k2, k3, k4, k5, k6, k7, kf, kz⟩ := cells8 hP4
                  obtain ⟨l0, l1, l2, l3, l4, l5, l6, l7, lf, lz⟩ := cells8 hQ4
                  have HD : Hid (decide (t = u) = false) := HT.out.trans (decide_eq_false fun e => by simp only [M.Tr.cons.injEq] at e; exact h1 e.1)
                  have h1b : (op == op') = false := by simpa using h1
                  go_wp2_with fail
                  go_ret
                  exact ⟨ret_bool HD.out.symm, hb4⟩
                subst h1
                by_cases h2 : x = x'
                case neg =>
                  obtain ⟨k0, k1, k2, k3, k4, k5, k6, k7, kf, kz⟩ := cells8 hP4
                  obtain ⟨l0, l1, l2, l3, l4, l5, l6, l7, lf, lz⟩ := cells8 hQ4
                  have HD : Hid (decide (t = u) = false) := HT.out.trans (decide_eq_false fun e => by simp only [M.Tr.cons.injEq] at e; exact h2 e.2.1)
                  have h2b := str_ne h2
                  go_wp2_with fail
                  go_ret
                  exact ⟨ret_bool HD.out.symm, hb4⟩
                subst h2
                by_cases h3 : y = y'
                case neg =>
                  obtain ⟨k0, k1, k2, k3, k4, k5, k6, k7, kf, kz⟩ := cells8 hP4
                  obtain ⟨l0, l1, l2, l3, l4, l5, l6, l7, lf, lz⟩ := cells8 hQ4
                  have HD : Hid (decide (t = u) = false) := HT.out.trans (decide_eq_false fun e => by simp only [M.Tr.cons.injEq] at e; exact h3 e.2.2.1)
                  have h3b := str_ne h3
                  go_wp2_with fail
                  go_ret
                  exact ⟨ret_bool HD.out.symm, hb4⟩
                subst h3
                by_cases h4 : p = p'
                case neg =>
                  obtain ⟨k0, k1, k2, k3, k4, k5, k6, k7, kf, kz⟩ := cells8 hP4
                  obtain ⟨l0, l1, l2, l3, l4, l5, l6, l7, lf, lz⟩ := cells8 hQ4
                  have HD : Hid (decide (t = u) = false) := HT.out.trans (decide_eq_false fun e => by simp only [M.Tr.cons.injEq] at e; exact h4 e.2.2.2.1)
                  have h4b := str_ne h4
                  go_wp2_with fail
                  go_ret
                  exact ⟨ret_bool HD.out.symm, hb4⟩
                subst h4
                by_cases h5 : a.length = a'.length
                case neg =>
                  obtain ⟨k0, k1, k2, k3, k4, k5, k6, k7, kf, kz⟩ := cells8 hP4
                  obtain ⟨l0, l1, l2, l3, l4, l5, l6, l7, lf, lz⟩ := cells8 hQ4
                  have HD : Hid (decide (t = u) = false) := HT.out.trans (decide_eq_false fun e => by simp only [M.Tr.cons.injEq] at e; exact h5 (by rw [e.2.2.2.2.1]))
                  have h5b : ((a.length : Int) == (a'.length : Int)) = false := by simp; omega
                  go_wp2_with fail
                  go_ret
                  exact ⟨ret_bool HD.out.symm, hb4⟩
                have HLA := hid h5
                rw [← h5] at hQ4
                clear h5
                obtain ⟨k0, k1, k2, k3, k4, k5, k6, k7, kf, kz⟩ := cells8 hP4
                obtain ⟨l0, l1, l2, l3, l4, l5, l6, l7, lf, lz⟩ := cells8 hQ4
                go_wp2_with fail
                clear k0 k1 k2 k3 k4 k5 k6 k7 kf kz l0 l1 l2 l3 l4 l5 l6 l7 lf lz
                refine (textsU _ _ _ pr pr' (SlAt.bel gP1 hb4) (SlAt.bel gP2 hb4)).mono ?_
                rintro e w5 ⟨rfl, hb5⟩
                have hw5 : Below w.heap.size w w5 := hb4.trans (hb5.mono hb4.size)
                have hP5 := keptS hb5 hP4
                have hQ5 := keptS hb5 hQ4
                clear hP4 hQ4 hb5
                by_cases h6 : pr = pr'
                case neg =>
                  rw [decide_eq_false h6]
                  have HD : Hid (decide (t = u) = false) := HT.out.trans (decide_eq_false fun e => by simp only [M.Tr.cons.injEq] at e; exact h6 e.2.2.2.2.2.1)
                  go_wp2_with fail
                  go_ret
                  exact ⟨ret_bool HD.out.symm, hw5⟩
                rw [decide_eq_true h6]
                subst h6
                obtain ⟨k0, k1, k2, k3, k4, k5, k6, k7, kf, kz⟩ := cells8 hP5
                obtain ⟨l0, l1, l2, l3, l4, l5, l6, l7, lf, lz⟩ := cells8 hQ5
                go_wp2_with fail
                clear k0 k1 k2 k3 k4 k5 k6 k7 kf kz l0 l1 l2 l3 l4 l5 l6 l7 lf lz
                refine (hB _ _ _ th th' hk1 (gT1'.bel hw5) (gT2'.bel hw5)).mono ?_
                rintro e w6 ⟨rfl, hb6⟩
                have hw6 : Below w.heap.size w w6 := hw5.trans (hb6.mono hw5.size)
                have hP6 := keptS hb6 hP5
                have hQ6 := keptS hb6 hQ5
                clear hP5 hQ5 hb6
                by_cases h7 : th = th'
                case neg =>
                  rw [decide_eq_false h7]
                  have HD : Hid (decide (t = u) = false) := HT.out.trans (decide_eq_false fun e => by simp only [M.Tr.cons.injEq] at e; exact h7 e.2.2.2.2.2.2.1)
                  go_wp2_with fail
                  go_ret
                  exact ⟨ret_bool HD.out.symm, hw6⟩
                rw [decide_eq_true h7]
                subst h7
                obtain ⟨k0, k1, k2, k3, k4, k5, k6, k7, kf, kz⟩ := cells8 hP6
                obtain ⟨l0, l1, l2, l3, l4, l5, l6, l7, lf, lz⟩ := cells8 hQ6
                go_wp2_with fail
                clear k0 k1 k2 k3 k4 k5 k6 k7 kf kz l0 l1 l2 l3 l4 l5 l6 l7 lf lz
                refine (hB _ _ _ el el' hk2 (gE1'.bel hw6) (gE2'.bel hw6)).mono ?_
                rintro e w7 ⟨rfl, hb7⟩
                have hw7 : Below w.heap.size w w7 := hw6.trans (hb7.mono hw6.size)
                have hP7 := keptS hb7 hP6
                have hQ7 := keptS hb7 hQ6
                clear hP6 hQ6 hb7
                by_cases h8 : el = el'
                case neg =>
                  rw [decide_eq_false h8]
                  have HD : Hid (decide (t = u) = false) := HT.out.trans (decide_eq_false fun e => by simp only [M.Tr.cons.injEq] at e; exact h8 e.2.2.2.2.2.2.2.1)
                  go_wp2_with fail
                  go_ret
                  exact ⟨ret_bool HD.out.symm, hw7⟩
                rw [decide_eq_true h8]
                subst h8
                obtain ⟨_, _, _, gx, gc1⟩ := ops_cells gA1
                obtain ⟨_, _, _, gy, gc2⟩ := ops_cells gA2
                simp only [Value.slice.injEq] at gx gy
                obtain ⟨rfl, _, rfl⟩ := gx
                obtain ⟨rfl, _, rfl⟩ := gy
                go_wp2_with fail
                go_loopw [8] (fun i w8 => ∃ n : Nat, n ≤ a.length ∧ i = .int .i64 n ∧ (∃ d, w8 = w7.drewN d) ∧ Hid (∀ q (h : q < a.length) (h' : q < a'.length), q < n → a[q] = a'[q])) (fun i _ => a.length - (intOf i).toNat)
                case atStart => exact ⟨0, Nat.zero_le _, rfl, ⟨0, rfl⟩, fun q _ _ h => by omega⟩
                case round =>
                  obtain ⟨n, hn, rfl, ⟨d, rfl⟩, HA⟩ := hrel
                  obtain ⟨k0, k1, k2, k3, k4, k5, k6, k7, kf, _⟩ := cells8 hP7
                  obtain ⟨l0, l1, l2, l3, l4, l5, l6, l7, lf, _⟩ := cells8 hQ7
                  have kz7 := hltS hP7
                  have lz7 := hltS hQ7
                  by_cases hnl : n < a.length
                  · have hnl' : n < a'.length := by rw [← HLA.out]; exact hnl
                    rcases gc1 with gc1 | ⟨c1, p1, rfl, hlc1, gc1⟩
                    · rw [gc1] at hnl; simp at hnl
                    rcases gc2 with gc2 | ⟨c2, p2, rfl, hlc2, gc2⟩
                    · rw [gc2] at hnl'; simp at hnl'
                    obtain ⟨x1, x2, x3⟩ := gc1 n hnl
                    obtain ⟨y1, y2, y3⟩ := gc2 n hnl'
                    rw [← hw7.cell (p := ⟨c1, _, none⟩) hlc1] at x1 x2 x3
                    rw [← hw7.cell (p := ⟨c2, _, none⟩) hlc2] at y1 y2 y3
                    have hne := fun w' => neq_op a[n] a'[n] w'
                    have hsO := stoodOp
                    have hgO := guardOp
                    have hni : (n : Int) < (a.length : Int) := by omega
                    by_cases haq : a[n] = a'[n]
                    · have HAQ := hid haq
                      simp only [decide_eq_true haq, Bool.not_true] at hne
                      clear haq
                      go_wp2_with fail
                      go_quiet (fail)
                      go_wp2
                      refine ⟨⟨n + 1, by omega, by go_num, ⟨_, rfl⟩, fun q h h' hq => ?_⟩, by simp [intOf]; omega⟩
                      by_cases e : q = n
                      · subst e; exact HAQ.out
                      · exact HA.out q h h' (by omega)
                    · have HD : Hid (decide (t = u) = false) := HT.out.trans (decide_eq_false fun e => by simp only [M.Tr.cons.injEq] at e; exact haq (by have := e.2.2.2.2.1; subst this; rfl))
                      simp only [decide_eq_false haq, Bool.not_false] at hne
                      clear haq
                      go_wp2_with fail
                      go_quiet (fail)
                      go_wp2
                      go_ret
                      exact ⟨ret_bool HD.out.symm, below_drewN (below_drewN hw7 _) _⟩
                  · have ha : a = a' := List.ext_getElem HLA.out fun q h h' => HA.out q h h' (by omega)
                    have HT2 : Hid (decide (t = u) = decide (nx = nx')) := by unfold Hid; rw [HT.out, ha, tr_tail]
                    clear ha
                    go_wp2
                    have j1 := HJ1.out
                    have j2 := HJ2.out
                    refine ⟨⟨j + 1, nx, nx', by go_num, by omega, by omega, below_drewN hw7 _, by rw [fr]; exact gN1, by rw [sr]; exact gN2, by omega, HT2⟩, by simp [intOf]; omega⟩
              · obtain ⟨hn0, hn1, hn2, hn3⟩ := pair_new (wr := wr) (A := (.cells #[.int .i64 op', .string x', .string y', .string p', .slice q2 a'.length m2, .slice q4 pr'.length m4, .slice q6 th'.len m6, .slice q8 el'.len m8] 32)) (B := (.cells #[.int .i64 op, .string x, .string y, .string p, .slice q1 a.length m1, .slice q3 pr.length m3, .slice q5 th.len m5, .slice q7 el.len m7] 32))
                generalize hw4 : ((wr.alloc (.cells #[.int .i64 op', .string x', .string y', .string p', .slice q2 a'.length m2, .slice q4 pr'.length m4, .slice q6 th'.len m6, .slice q8 el'.len m8] 32)).alloc (.cells #[.int .i64 op, .string x, .string y, .string p, .slice q1 a.length m1, .slice q3 pr.length m3, .slice q5 th.len m5, .slice q7 el.len m7] 32)).drew = w4 at hn0 hn1 hn2 hn3 ⊢
                clear hw4
                have hP4 := hn2
                have hQ4 := hn1
                have hb4 : Below w.heap.size w w4 := hb.trans (hn0.mono hb.size)
                clear hn0 hn1 hn2 hn3 f0 f1 f2 f3 f4 f5 f6 f7 s0 s1 s2 s3 s4 s5 s6 s7
                by_cases h1 : op = op'
                case neg =>
                  obtain ⟨k0, k1, k2, k3, k4, k5, k6, k7, kf, kz⟩ := cells8 hP4
                  obtain ⟨l0, l1, l2, l3, l4, l5, l6, l7, lf, lz⟩ := cells8 hQ4
                  have HD : Hid (decide (t = u) = false) := HT.out.trans (decide_eq_false fun e => by simp only [M.Tr.cons.injEq] at e; exact h1 e.1)
                  have h1b : (op == op') = false := by simpa using h1
                  go_wp2_with fail
                  go_ret
                  exact ⟨ret_bool HD.out.symm, hb4⟩
                subst h1
                by_cases h2 : x = x'
                case neg =>
                  obtain ⟨k0, k1, k2, k3, k4, k5, k6, k7, kf, kz⟩ := cells8 hP4
                  obtain ⟨l0, l1, l2, l3, l4, l5, l6, l7, lf, lz⟩ := cells8 hQ4
                  have HD : Hid (decide (t = u) = false) := HT.out.trans (decide_eq_false fun e => by simp only [M.Tr.cons.injEq] at e; exact h2 e.2.1)
                  have h2b := str_ne h2
                  go_wp2_with fail
                  go_ret
                  exact ⟨ret_bool HD.out.symm, hb4⟩
                subst h2
                by_cases h3 : y = y'
                case neg =>
                  obtain ⟨k0, k1, k2, k3, k4, k5, k6, k7, kf, kz⟩ := cells8 hP4
                  obtain ⟨l0, l1, l2, l3, l4, l5, l6, l7, lf, lz⟩ := cells8 hQ4
                  have HD : Hid (decide (t = u) = false) := HT.out.trans (decide_eq_false fun e => by simp only [M.Tr.cons.injEq] at e; exact h3 e.2.2.1)
                  have h3b := str_ne h3
                  go_wp2_with fail
                  go_ret
                  exact ⟨ret_bool HD.out.symm, hb4⟩
                subst h3
                by_cases h4 : p = p'
                case neg =>
                  obtain ⟨k0, k1, k2, k3, k4, k5, k6, k7, kf, kz⟩ := cells8 hP4
                  obtain ⟨l0, l1, l2, l3, l4, l5, l6, l7, lf, lz⟩ := cells8 hQ4
                  have HD : Hid (decide (t = u) = false) := HT.out.trans (decide_eq_false fun e => by simp only [M.Tr.cons.injEq] at e; exact h4 e.2.2.2.1)
                  have h4b := str_ne h4
                  go_wp2_with fail
                  go_ret
                  exact ⟨ret_bool HD.out.symm, hb4⟩
                subst h4
                by_cases h5 : a.length = a'.length
                case neg =>
                  obtain ⟨k0, k1, k2, k3, k4, k5, k6, k7, kf, kz⟩ := cells8 hP4
                  obtain ⟨l0, l1, l2, l3, l4, l5, l6, l7, lf, lz⟩ := cells8 hQ4
                  have HD : Hid (decide (t = u) = false) := HT.out.trans (decide_eq_false fun e => by simp only [M.Tr.cons.injEq] at e; exact h5 (by rw [e.2.2.2.2.1]))
                  have h5b : ((a.length : Int) == (a'.length : Int)) = false := by simp; omega
                  go_wp2_with fail
                  go_ret
                  exact ⟨ret_bool HD.out.symm, hb4⟩
                have HLA := hid h5
                rw [← h5] at hQ4
                clear h5
                obtain ⟨k0, k1, k2, k3, k4, k5, k6, k7, kf, kz⟩ := cells8 hP4
                obtain ⟨l0, l1, l2, l3, l4, l5, l6, l7, lf, lz⟩ := cells8 hQ4
                go_wp2_with fail
                clear k0 k1 k2 k3 k4 k5 k6 k7 kf kz l0 l1 l2 l3 l4 l5 l6 l7 lf lz
                refine (textsU _ _ _ pr pr' (SlAt.bel gP1 hb4) (SlAt.bel gP2 hb4)).mono ?_
                rintro e w5 ⟨rfl, hb5⟩
                have hw5 : Below w.heap.size w w5 := hb4.trans (hb5.mono hb4.size)
                have hP5 := keptS hb5 hP4
                have hQ5 := keptS hb5 hQ4
                clear hP4 hQ4 hb5
                by_cases h6 : pr = pr'
                case neg =>
                  rw [decide_eq_false h6]
                  have HD : Hid (decide (t = u) = false) := HT.out.trans (decide_eq_false fun e => by simp only [M.Tr.cons.injEq] at e; exact h6 e.2.2.2.2.2.1)
                  go_wp2_with fail
                  go_ret
                  exact ⟨ret_bool HD.out.symm, hw5⟩
                rw [decide_eq_true h6]
                subst h6
                obtain ⟨k0, k1, k2, k3, k4, k5, k6, k7, kf, kz⟩ := cells8 hP5
                obtain ⟨l0, l1, l2, l3, l4, l5, l6, l7, lf, lz⟩ := cells8 hQ5
                go_wp2_with fail
                clear k0 k1 k2 k3 k4 k5 k6 k7 kf kz l0 l1 l2 l3 l4 l5 l6 l7 lf lz
                refine (hB _ _ _ th th' hk1 (gT1'.bel hw5) (gT2'.bel hw5)).mono ?_
                rintro e w6 ⟨rfl, hb6⟩
                have hw6 : Below w.heap.size w w6 := hw5.trans (hb6.mono hw5.size)
                have hP6 := keptS hb6 hP5
                have hQ6 := keptS hb6 hQ5
                clear hP5 hQ5 hb6
                by_cases h7 : th = th'
                case neg =>
                  rw [decide_eq_false h7]
                  have HD : Hid (decide (t = u) = false) := HT.out.trans (decide_eq_false fun e => by simp only [M.Tr.cons.injEq] at e; exact h7 e.2.2.2.2.2.2.1)
                  go_wp2_with fail
                  go_ret
                  exact ⟨ret_bool HD.out.symm, hw6⟩
                rw [decide_eq_true h7]
                subst h7
                obtain ⟨k0, k1, k2, k3, k4, k5, k6, k7, kf, kz⟩ := cells8 hP6
                obtain ⟨l0, l1, l2, l3, l4, l5, l6, l7, lf, lz⟩ := cells8 hQ6
                go_wp2_with fail
                clear k0 k1 k2 k3 k4 k5 k6 k7 kf kz l0 l1 l2 l3 l4 l5 l6 l7 lf lz
                refine (hB _ _ _ el el' hk2 (gE1'.bel hw6) (gE2'.bel hw6)).mono ?_
                rintro e w7 ⟨rfl, hb7⟩
                have hw7 : Below w.heap.size w w7 := hw6.trans (hb7.mono hw6.size)
                have hP7 := keptS hb7 hP6
                have hQ7 := keptS hb7 hQ6
                clear hP6 hQ6 hb7
                by_cases h8 : el = el'
                case neg =>
                  rw [decide_eq_false h8]
                  have HD : Hid (decide (t = u) = false) := HT.out.trans (decide_eq_false fun e => by simp only [M.Tr.cons.injEq] at e; exact h8 e.2.2.2.2.2.2.2.1)
                  go_wp2_with fail
                  go_ret
                  exact ⟨ret_bool HD.out.symm, hw7⟩
                rw [decide_eq_true h8]
                subst h8
                obtain ⟨_, _, _, gx, gc1⟩ := ops_cells gA1
                obtain ⟨_, _, _, gy, gc2⟩ := ops_cells gA2
                simp only [Value.slice.injEq] at gx gy
                obtain ⟨rfl, _, rfl⟩ := gx
                obtain ⟨rfl, _, rfl⟩ := gy
                go_wp2_with fail
                go_loopw [8] (fun i w8 => ∃ n : Nat, n ≤ a.length ∧ i = .int .i64 n ∧ (∃ d, w8 = w7.drewN d) ∧ Hid (∀ q (h : q < a.length) (h' : q < a'.length), q < n → a[q] = a'[q])) (fun i _ => a.length - (intOf i).toNat)
                case atStart => exact ⟨0, Nat.zero_le _, rfl, ⟨0, rfl⟩, fun q _ _ h => by omega⟩
                case round =>
                  obtain ⟨n, hn, rfl, ⟨d, rfl⟩, HA⟩ := hrel
                  obtain ⟨k0, k1, k2, k3, k4, k5, k6, k7, kf, _⟩ := cells8 hP7
                  obtain ⟨l0, l1, l2, l3, l4, l5, l6, l7, lf, _⟩ := cells8 hQ7
                  have kz7 := hltS hP7
                  have lz7 := hltS hQ7
                  by_cases hnl : n < a.length
                  · have hnl' : n < a'.length := by rw [← HLA.out]; exact hnl
                    rcases gc1 with gc1 | ⟨c1, p1, rfl, hlc1, gc1⟩
                    · rw [gc1] at hnl; simp at hnl
                    rcases gc2 with gc2 | ⟨c2, p2, rfl, hlc2, gc2⟩
                    · rw [gc2] at hnl'; simp at hnl'
                    obtain ⟨x1, x2, x3⟩ := gc1 n hnl
                    obtain ⟨y1, y2, y3⟩ := gc2 n hnl'
                    rw [← hw7.cell (p := ⟨c1, _, none⟩) hlc1] at x1 x2 x3
                    rw [← hw7.cell (p := ⟨c2, _, none⟩) hlc2] at y1 y2 y3
                    have hne := fun w' => neq_op a[n] a'[n] w'
                    have hsO := stoodOp
                    have hgO := guardOp
                    have hni : (n : Int) < (a.length : Int) := by omega
                    by_cases haq : a[n] = a'[n]
                    · have HAQ := hid haq
                      simp only [decide_eq_true haq, Bool.not_true] at hne
                      clear haq
                      go_wp2_with fail
                      go_quiet (fail)
                      go_wp2
                      refine ⟨⟨n + 1, by omega, by go_num, ⟨_, rfl⟩, fun q h h' hq => ?_⟩, by simp [intOf]; omega⟩
                      by_cases e : q = n
                      · subst e; exact HAQ.out
                      · exact HA.out q h h' (by omega)
                    · have HD : Hid (decide (t = u) = false) := HT.out.trans (decide_eq_false fun e => by simp only [M.Tr.cons.injEq] at e; exact haq (by have := e.2.2.2.2.1; subst this; rfl))
                      simp only [decide_eq_false haq, Bool.not_false] at hne
                      clear haq
                      go_wp2_with fail
                      go_quiet (fail)
                      go_wp2
                      go_ret
                      exact ⟨ret_bool HD.out.symm, below_drewN (below_drewN hw7 _) _⟩
                  · have ha : a = a' := List.ext_getElem HLA.out fun q h h' => HA.out q h h' (by omega)
                    have HT2 : Hid (decide (t = u) = decide (nx = nx')) := by unfold Hid; rw [HT.out, ha, tr_tail]
                    clear ha
                    go_wp2
                    have j1 := HJ1.out
                    have j2 := HJ2.out
                    refine ⟨⟨j + 1, nx, nx', by go_num, by omega, by omega, below_drewN hw7 _, by rw [fr]; exact gN1, by rw [sr]; exact gN2, by omega, HT2⟩, by simp [intOf]; omega⟩
        · obtain rfl : t' = .nil := len_nil (by omega)
          obtain rfl : u' = .nil := len_nil (by omega)
          go_wp2_with fail
          go_ret
          exact ⟨ret_bool (by rw [HT.out]; rfl), hb⟩
  · have HD := hid (len_ne hlen)
    have hli : ¬ (t.len : Int) = (u.len : Int) := by omega
    clear hlen
    go_enter Tryz.func32, Tryz.ntmps32
    go_wp2_with fail
    go_ret
    exact ⟨ret_bool HD.out.symm, Below.refl _ _⟩
end Go.Proofs.YtkpmpnebmkeocaaGreatDoor
end
section
namespace Go.Proofs.YtkpmpnebmkeocaaGreatDoor
open Go.RowKit

theorem sameU0 : SameU 0 := by
  intro w va vb t u hk h1 h2
  obtain rfl : t = .nil := len_nil (by have := sz_pos t; omega)
  obtain ⟨cs, ⟨l1, a1, cap1, rfl, g1⟩, row1⟩ := h1
  obtain ⟨ds, ⟨l2, a2, cap2, rfl, g2⟩, row2⟩ := h2
  by_cases hlen : u.len = 0
  · obtain rfl := len_nil hlen
    clear hlen
    go_enter Tryz.func32, Tryz.ntmps32
    go_wp2_with fail
    go_loop [5] (fun i => i = .int .i64 0) (fun _ => 0)
    case atStart => rfl
    case round =>
      subst hrel
      go_wp2_with fail
      go_ret
      exact ⟨rfl, Below.refl _ _⟩
  · have HD : Hid (decide (M.Tr.nil = u) = false) := decide_eq_false fun e => hlen (by rw [← e]; rfl)
    have hli : ¬ (0 : Int) = (u.len : Int) := by omega
    have hlj : ¬ u.len = 0 := hlen
    have hz : (M.Tr.nil).len = 0 := rfl
    go_enter Tryz.func32, Tryz.ntmps32
    go_wp2_with fail
    go_ret
    exact ⟨ret_bool HD.out.symm, Below.refl _ _⟩
theorem sameU : ∀ k, SameU k
  | 0 => sameU0
  | k + 1 => stmtsU_any k (sameU k)
theorem fn_tail {f : M.Fn} {l m : List M.Fn} : decide (f :: l = f :: m) = decide (l = m) := by simp
theorem fn_ext {f g : M.Fn} (h1 : f.name = g.name) (h2 : f.ps = g.ps) (h3 : f.body = g.body) : f = g := by
  cases f; cases g; simp only at h1 h2 h3; subst h1 h2 h3; rfl

set_option maxRecDepth 8000 in
set_option maxHeartbeats 6400000 in
theorem rsame_any (w : World) (va vb : Value) (l m : List M.Fn) (h1 : ProgAt w NoX va l) (h2 : ProgAt w NoX vb m) :
    Calls Tryz.prog 18 #[.agg #[va], .agg #[vb]] w fun e w' => e = .returned (.bool (decide (l = m))) ∧ Below w.heap.size w w' := by
  obtain ⟨cs, ⟨l1, a1, cap1, rfl, g1⟩, row1⟩ := h1
  obtain ⟨ds, ⟨l2, a2, cap2, rfl, g2⟩, row2⟩ := h2
  by_cases hlen : l.length = m.length
  case neg =>
    have HD : Hid (decide (l = m) = false) := decide_eq_false fun e => hlen (by rw [e])
    have hli : ¬ (l.length : Int) = (m.length : Int) := by omega
    clear hlen
    go_enter Tryz.func18, Tryz.ntmps18
    go_wp2_with fail
    go_ret
    exact ⟨ret_bool HD.out.symm, ((Below.refl _ _).alloc (Nat.le_refl _) _).alloc (by simp) _⟩
  have HL := hid hlen
  by_cases h0 : l.length = 0
  · obtain rfl := List.length_eq_zero_iff.1 h0
    obtain rfl := List.length_eq_zero_iff.1 (HL.out.symm.trans h0)
    clear hlen
    go_enter Tryz.func18, Tryz.ntmps18
    go_wp2_with fail
    go_loop [5] (fun i => i = .int .i64 0) (fun _ => 0)
    case atStart => rfl
    case round =>
      subst hrel
      go_wp2_with fail
      go_ret
      exact ⟨rfl, ((Below.refl _ _).alloc (Nat.le_refl _) _).alloc (by simp) _⟩
  · rcases g1 with ⟨g1, _⟩ | ⟨b1, o1, rfl, hlt1, _, hc1⟩
    · exact absurd g1 h0
    rcases g2 with ⟨g2, _⟩ | ⟨b2, o2, rfl, hlt2, _, hc2⟩
    · exact absurd (hlen.trans g2) h0
    rw [← hlen]
    clear hlen
    have hB0 : Below (w.heap.size + 2) ((w.alloc (.cells #[.slice (some ⟨b1, o1, none⟩) l.length cap1] 24)).alloc (.cells #[.slice (some ⟨b2, o2, none⟩) l.length cap2] 24)) ((w.alloc (.cells #[.slice (some ⟨b1, o1, none⟩) l.length cap1] 24)).alloc (.cells #[.slice (some ⟨b2, o2, none⟩) l.length cap2] 24)) := Below.refl _ _
    go_enter Tryz.func18, Tryz.ntmps18
    go_wp2_with fail
    go_loopw [5] (fun i wr => ∃ (j : Nat) (l' m' : List M.Fn), i = .int .i64 j ∧ j + l'.length = l.length ∧ j + m'.length = l.length ∧ Below (w.heap.size + 2) ((w.alloc (.cells #[.slice (some ⟨b1, o1, none⟩) l.length cap1] 24)).alloc (.cells #[.slice (some ⟨b2, o2, none⟩) l.length cap2] 24)) wr ∧ FnsAt w NoX (cs.drop (j * 3)) l' ∧ FnsAt w NoX (ds.drop (j * 3)) m' ∧ Hid (decide (l = m) = decide (l' = m'))) (fun i _ => l.length - (intOf i).toNat)
    case atStart => exact ⟨0, l, m, rfl, Nat.zero_add _, by rw [Nat.zero_add]; exact HL.out.symm, hB0, by simpa using row1, by simpa using row2, rfl⟩
    case round =>
      obtain ⟨j, l', m', rfl, hj1, hj2, hB, r1, r2, HT⟩ := hrel
      clear HL
      have hzz : ((w.alloc (.cells #[.slice (some ⟨b1, o1, none⟩) l.length cap1] 24)).alloc (.cells #[.slice (some ⟨b2, o2, none⟩) l.length cap2] 24)).heap.size = w.heap.size + 2 := by simp only [World.size_alloc]
      have hbz := hB.size
      rw [hzz] at hbz
      have hb : Below w.heap.size w wr := (((Below.refl w.heap.size w).alloc (Nat.le_refl _) _).alloc (by simp) _).trans (hB.mono (by omega))
      have hA1 : wr.heap[w.heap.size]? = some (.cells #[.slice (some ⟨b1, o1, none⟩) l.length cap1] 24) := (hB.block w.heap.size (by omega)).trans ((Below.heap_alloc _ _ _ (by simp)).trans (heap_alloc_new w _))
      have hA2 : wr.heap[w.heap.size + 1]? = some (.cells #[.slice (some ⟨b2, o2, none⟩) l.length cap2] 24) := (hB.block (w.heap.size + 1) (by omega)).trans (by
        have := heap_alloc_new (w.alloc (.cells #[.slice (some ⟨b1, o1, none⟩) l.length cap1] 24)) (.cells #[.slice (some ⟨b2, o2, none⟩) l.length cap2] 24)
        simp only [World.size_alloc] at this; exact this)
      have cA1 := cell0 hA1
      have cA2 := cell0 hA2
      clear hzz
      by_cases hjl : j < l.length
      · cases l' with
        | nil => simp only [List.length_nil] at hj1; omega
        | cons f lr =>
          cases m' with
          | nil => simp only [List.length_nil] at hj2; omega
          | cons f' mr =>
            obtain ⟨vp1, vb1, rest1, e1, gP1, gB1, gN1⟩ := r1
            obtain ⟨vp2, vb2, rest2, e2, gP2, gB2, gN2⟩ := r2
            obtain ⟨f0, f1, f2, fr⟩ := three_cells hc1 e1
            obtain ⟨s0, s1, s2, sr⟩ := three_cells hc2 e2
            have hbc := fun (b o : Nat) (hlt : b < w.heap.size) => hb.cell (p := ⟨b, o, none⟩) hlt
            rw [← hbc b1 _ hlt1] at f0 f1 f2
            rw [← hbc b2 _ hlt2] at s0 s1 s2
            obtain ⟨q3, m3, rfl⟩ := SlAt.form gP1
            obtain ⟨q4, m4, rfl⟩ := SlAt.form gP2
            obtain ⟨q5, m5, rfl⟩ := StmAt.form gB1
            obtain ⟨q6, m6, rfl⟩ := StmAt.form gB2
            have hi1 : (j : Int) < (l.length : Int) := by omega
            have hlw1 : b1 < wr.heap.size := Nat.lt_of_lt_of_le hlt1 hb.size
            have hlw2 : b2 < wr.heap.size := Nat.lt_of_lt_of_le hlt2 hb.size
            clear hbc
            simp only [List.length_cons] at hj1 hj2
            have HJ1 := hid hj1
            have HJ2 := hid hj2
            clear hj1 hj2
            go_wp2_with fail
            go_region_held3 (fun w' => w'.cell? ⟨w.heap.size, 0, none⟩ = some (.slice (some ⟨b1, o1, none⟩) l.length cap1) ∧ w'.cell? ⟨w.heap.size + 1, 0, none⟩ = some (.slice (some ⟨b2, o2, none⟩) l.length cap2) ∧ w'.cell? ⟨b1, o1 + j * 3, none⟩ = some (.string f.name) ∧ w'.cell? ⟨b1, o1 + j * 3 + 1, none⟩ = some (.slice q3 f.ps.length m3) ∧ w'.cell? ⟨b1, o1 + j * 3 + 2, none⟩ = some (.slice q5 f.body.len m5) ∧ w'.cell? ⟨b2, o2 + j * 3, none⟩ = some (.string f'.name) ∧ w'.cell? ⟨b2, o2 + j * 3 + 1, none⟩ = some (.slice q4 f'.ps.length m4) ∧ w'.cell? ⟨b2, o2 + j * 3 + 2, none⟩ = some (.slice q6 f'.body.len m6)) (go_keep) (fail)
            · obtain ⟨hn0, hn1, hn2, hn3⟩ := pair_new (wr := wr) (A := (.cells #[.string f.name, .slice q3 f.ps.length m3, .slice q5 f.body.len m5] 34)) (B := (.cells #[.string f'.name, .slice q4 f'.ps.length m4, .slice q6 f'.body.len m6] 34))
              generalize hw4 : ((wr.alloc (.cells #[.string f.name, .slice q3 f.ps.length m3, .slice q5 f.body.len m5] 34)).alloc (.cells #[.string f'.name, .slice q4 f'.ps.length m4, .slice q6 f'.body.len m6] 34)).drew = w4 at hn0 hn1 hn2 hn3 ⊢
              clear hw4
              have hP4 := hn1
              have hQ4 := hn2
              have hb4 : Below w.heap.size w w4 := hb.trans (hn0.mono hb.size)
              have hB4 := hB.trans (hn0.mono hbz)
              clear hn0 hn1 hn2 hn3 f0 f1 f2 s0 s1 s2 cA1 cA2
              obtain ⟨k0, k1, k2, kf, kz⟩ := cells3 hP4
              obtain ⟨l0, l1, l2, lf, lz⟩ := cells3 hQ4
              by_cases h1 : f.name = f'.name
              case neg =>
                have HD : Hid (decide (l = m) = false) := HT.out.trans (decide_eq_false fun e => by simp only [List.cons.injEq] at e; exact h1 (by rw [e.1]))
                have h1b := str_ne h1
                go_wp2_with fail
                go_ret
                exact ⟨ret_bool HD.out.symm, hb4⟩
              have h1b := str_eq h1
              have H1 := hid h1
              clear h1
              go_wp2_with fail
              refine (textsU _ _ _ f.ps f'.ps (SlAt.bel gP1 hb4) (SlAt.bel gP2 hb4)).mono ?_
              rintro e w5 ⟨rfl, hb5⟩
              have hz4 := hB4.size
              have hw5 : Below w.heap.size w w5 := hb4.trans (hb5.mono hb4.size)
              have hB5 := hB4.trans (hb5.mono (by rw [World.size_alloc, World.size_alloc] at hz4; exact hz4))
              have hP5 := (hb5.block _ kz).trans hP4
              have hQ5 := (hb5.block _ lz).trans hQ4
              clear k0 k1 k2 kf l0 l1 l2 lf
              by_cases h2 : f.ps = f'.ps
              case neg =>
                have HD : Hid (decide (l = m) = false) := HT.out.trans (decide_eq_false fun e => by simp only [List.cons.injEq] at e; exact h2 (by rw [e.1]))
                rw [decide_eq_false h2]
                go_wp2_with fail
                go_ret
                exact ⟨ret_bool HD.out.symm, hw5⟩
              rw [decide_eq_true h2]
              have H2 := hid h2
              clear h2
              obtain ⟨k0, k1, k2, kf, kz5⟩ := cells3 hP5
              obtain ⟨l0, l1, l2, lf, lz5⟩ := cells3 hQ5
              go_wp2_with fail
              refine (sameU f.body.sz _ _ _ f.body f'.body (Nat.le_refl _) (gB1.bel hw5) (gB2.bel hw5)).mono ?_
              rintro e w6 ⟨rfl, hb6⟩
              have hz5 := hB5.size
              have hw6 : Below w.heap.size w w6 := hw5.trans (hb6.mono hw5.size)
              have hB6 := hB5.trans (hb6.mono (by rw [World.size_alloc, World.size_alloc] at hz5; exact hz5))
              by_cases h3 : f.body = f'.body
              case neg =>
                have HD : Hid (decide (l = m) = false) := HT.out.trans (decide_eq_false fun e => by simp only [List.cons.injEq] at e; exact h3 (by rw [e.1]))
                rw [decide_eq_false h3]
                go_wp2_with fail
                go_ret
                exact ⟨ret_bool HD.out.symm, hw6⟩
              rw [decide_eq_true h3]
              have HT2 : Hid (decide (l = m) = decide (lr = mr)) := by unfold Hid; rw [HT.out, fn_ext H1.out H2.out h3, fn_tail]
              clear h3
              go_wp2_with fail
              have j1 := HJ1.out
              have j2 := HJ2.out
              refine ⟨⟨j + 1, lr, mr, by go_num, by omega, by omega, hB6, by rw [fr]; exact gN1, by rw [sr]; exact gN2, HT2⟩, by simp [intOf]; omega⟩
            · obtain ⟨hn0, hn1, hn2, hn3⟩ := pair_new (wr := wr) (A := (.cells #[.string f'.name, .slice q4 f'.ps.length m4, .slice q6 f'.body.len m6] 34)) (B := (.cells #[.string f.name, .slice q3 f.ps.length m3, .slice q5 f.body.len m5] 34))
              generalize hw4 : ((wr.alloc (.cells #[.string f'.name, .slice q4 f'.ps.length m4, .slice q6 f'.body.len m6] 34)).alloc (.cells #[.string f.name, .slice q3 f.ps.length m3, .slice q5 f.body.len m5] 34)).drew = w4 at hn0 hn1 hn2 hn3 ⊢
              clear hw4
              have hP4 := hn2
              have hQ4 := hn1
              have hb4 : Below w.heap.size w w4 := hb.trans (hn0.mono hb.size)
              have hB4 := hB.trans (hn0.mono hbz)
              clear hn0 hn1 hn2 hn3 f0 f1 f2 s0 s1 s2 cA1 cA2
              obtain ⟨k0, k1, k2, kf, kz⟩ := cells3 hP4
              obtain ⟨l0, l1, l2, lf, lz⟩ := cells3 hQ4
              by_cases h1 : f.name = f'.name
              case neg =>
                have HD : Hid (decide (l = m) = false) := HT.out.trans (decide_eq_false fun e => by simp only [List.cons.injEq] at e; exact h1 (by rw [e.1]))
                have h1b := str_ne h1
                go_wp2_with fail
                go_ret
                exact ⟨ret_bool HD.out.symm, hb4⟩
              have h1b := str_eq h1
              have H1 := hid h1
              clear h1
              go_wp2_with fail
              refine (textsU _ _ _ f.ps f'.ps (SlAt.bel gP1 hb4) (SlAt.bel gP2 hb4)).mono ?_
              rintro e w5 ⟨rfl, hb5⟩
              have hz4 := hB4.size
              have hw5 : Below w.heap.size w w5 := hb4.trans (hb5.mono hb4.size)
              have hB5 := hB4.trans (hb5.mono (by rw [World.size_alloc, World.size_alloc] at hz4; exact hz4))
              have hP5 := (hb5.block _ kz).trans hP4
              have hQ5 := (hb5.block _ lz).trans hQ4
              clear k0 k1 k2 kf l0 l1 l2 lf
              by_cases h2 : f.ps = f'.ps
              case neg =>
                have HD : Hid (decide (l = m) = false) := HT.out.trans (decide_eq_false fun e => by simp only [List.cons.injEq] at e; exact h2 (by rw [e.1]))
                rw [decide_eq_false h2]
                go_wp2_with fail
                go_ret
                exact ⟨ret_bool HD.out.symm, hw5⟩
              rw [decide_eq_true h2]
              have H2 := hid h2
              clear h2
              obtain ⟨k0, k1, k2, kf, kz5⟩ := cells3 hP5
              obtain ⟨l0, l1, l2, lf, lz5⟩ := cells3 hQ5
              go_wp2_with fail
              refine (sameU f.body.sz _ _ _ f.body f'.body (Nat.le_refl _) (gB1.bel hw5) (gB2.bel hw5)).mono ?_
              rintro e w6 ⟨rfl, hb6⟩
              have hz5 := hB5.size
              have hw6 : Below w.heap.size w w6 := hw5.trans (hb6.mono hw5.size)
              have hB6 := hB5.trans (hb6.mono (by rw [World.size_alloc, World.size_alloc] at hz5; exact hz5))
              by_cases h3 : f.body = f'.body
              case neg =>
                have HD : Hid (decide (l = m) = false) := HT.out.trans (decide_eq_false fun e => by simp only [List.cons.injEq] at e; exact h3 (by rw [e.1]))
                rw [decide_eq_false h3]
                go_wp2_with fail
                go_ret
                exact ⟨ret_bool HD.out.symm, hw6⟩
              rw [decide_eq_true h3]
              have HT2 : Hid (decide (l = m) = decide (lr = mr)) := by unfold Hid; rw [HT.out, fn_ext H1.out H2.out h3, fn_tail]
              clear h3
              go_wp2_with fail
              have j1 := HJ1.out
              have j2 := HJ2.out
              refine ⟨⟨j + 1, lr, mr, by go_num, by omega, by omega, hB6, by rw [fr]; exact gN1, by rw [sr]; exact gN2, HT2⟩, by simp [intOf]; omega⟩
      · obtain rfl : l' = [] := List.length_eq_zero_iff.1 (by omega)
        obtain rfl : m' = [] := List.length_eq_zero_iff.1 (by omega)
        go_wp2_with fail
        go_ret
        exact ⟨ret_bool (by rw [HT.out]; rfl), hb⟩
end Go.Proofs.YtkpmpnebmkeocaaGreatDoor
end
