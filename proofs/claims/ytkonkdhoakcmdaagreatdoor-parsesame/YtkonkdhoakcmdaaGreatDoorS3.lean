/-
  The walks of slices.EqualFunc over statements and parse.sameBlock: blocks are compared as they should be, whatever their size. No conditions.
-/
import Derived.Test.YtkonkdhoakcmdaaGreatDoorS2
set_option linter.unusedVariables false
namespace Go.Proofs.YtkonkdhoakcmdaaGreatDoor
open Go.RowKit

theorem drop_get {α : Type} (l : List α) (n k : Nat) : l[n + k]? = (l.drop n)[k]? := by rw [List.getElem?_drop]
theorem sz_pos : ∀ t : M.Tr, t.len ≤ t.sz
  | .nil => Nat.le_refl _
  | .cons _ _ _ _ _ _ th el nx => by have := sz_pos nx; simp only [M.Tr.len, M.Tr.sz]; omega
theorem len_nil {t : M.Tr} (h : t.len = 0) : t = .nil := by
  cases t with
  | nil => rfl
  | cons => simp [M.Tr.len] at h

/-- eight cells of a row -/
theorem eight {w : World} {b o j : Nat} {cs rest : List Value} {c0 c1 c2 c3 c4 c5 c6 c7 : Value} (hc : ∀ i u, cs[i]? = some u → w.cell? ⟨b, o + i, none⟩ = some u) (hd : cs.drop (j * 8) = c0 :: c1 :: c2 :: c3 :: c4 :: c5 :: c6 :: c7 :: rest) :
    w.cell? ⟨b, o + j * 8, none⟩ = some c0 ∧ w.cell? ⟨b, o + j * 8 + 1, none⟩ = some c1 ∧ w.cell? ⟨b, o + j * 8 + 2, none⟩ = some c2 ∧ w.cell? ⟨b, o + j * 8 + 3, none⟩ = some c3 ∧ w.cell? ⟨b, o + j * 8 + 4, none⟩ = some c4 ∧ w.cell? ⟨b, o + j * 8 + 5, none⟩ = some c5 ∧ w.cell? ⟨b, o + j * 8 + 6, none⟩ = some c6 ∧ w.cell? ⟨b, o + j * 8 + 7, none⟩ = some c7 ∧ cs.drop ((j + 1) * 8) = rest := by
  have h : ∀ k u, (c0 :: c1 :: c2 :: c3 :: c4 :: c5 :: c6 :: c7 :: rest)[k]? = some u → w.cell? ⟨b, o + j * 8 + k, none⟩ = some u := fun k u hu => by
    rw [Nat.add_assoc]; exact hc _ _ (by rw [drop_get, hd]; exact hu)
  refine ⟨h 0 _ rfl, h 1 _ rfl, h 2 _ rfl, h 3 _ rfl, h 4 _ rfl, h 5 _ rfl, h 6 _ rfl, h 7 _ rfl, ?_⟩
  rw [show (j + 1) * 8 = j * 8 + 8 by omega, ← List.drop_drop, hd]; rfl

theorem cons_eq {op1 op2 : Int} {x1 x2 y1 y2 p1 p2 : ByteArray} {a1 a2 : List M.Opd} {pr1 pr2 : List ByteArray} {th1 th2 el1 el2 n1 n2 : M.Tr} :
    (M.Tr.cons op1 x1 y1 p1 a1 pr1 th1 el1 n1 = .cons op2 x2 y2 p2 a2 pr2 th2 el2 n2) ↔ ((op1 = op2 ∧ x1 = x2 ∧ y1 = y2 ∧ p1 = p2 ∧ a1 = a2 ∧ pr1 = pr2 ∧ th1 = th2 ∧ el1 = el2) ∧ n1 = n2) := by
  rw [M.Tr.cons.injEq]
  constructor
  · rintro ⟨h0, h1, h2, h3, h4, h5, h6, h7, h8⟩; exact ⟨⟨h0, h1, h2, h3, h4, h5, h6, h7⟩, h8⟩
  · rintro ⟨⟨h0, h1, h2, h3, h4, h5, h6, h7⟩, h8⟩; exact ⟨h0, h1, h2, h3, h4, h5, h6, h7, h8⟩

set_option maxRecDepth 8000 in
set_option maxHeartbeats 1600000 in
theorem eqFuncS_any (k : Nat) (hB : SameC k) (w : World) (va vb : Value) (t u : M.Tr) (hk : t.sz ≤ k + 1) (h1 : StmAt w NoX va t) (h2 : StmAt w NoX vb u) :
    Calls Tryz.prog 60 #[va, vb, .func (.func 61) #[] #[]] w fun e w' => e = .returned (.bool (decide (t = u))) ∧ Below w.heap.size w w' := by
  obtain ⟨cs, ⟨l1, a1, cap1, rfl, g1⟩, row1⟩ := h1
  obtain ⟨ds, ⟨l2, a2, cap2, rfl, g2⟩, row2⟩ := h2
  by_cases hl : t.len = u.len
  · have hd : ((t.len : Int) != (u.len : Int)) = false := by simp [hl]
    by_cases h0 : t.len = 0
    · have hu : u.len = 0 := by omega
      obtain rfl := len_nil h0
      obtain rfl := len_nil hu
      go_enter Tryz.func60, Tryz.ntmps60
      go_wp2_with fail
      go_loop [17] (fun i => i = .int .i64 0) (fun _ => 0)
      case atStart => rfl
      case round =>
        subst hrel
        go_wp2_with fail
        go_ret
        exact ⟨rfl, Below.refl _ _⟩
    · have HL : Hid (t.len = u.len) := hl
      have HU : u.len ≠ 0 := by omega
      rcases g1 with ⟨g1, _⟩ | ⟨b1, o1, rfl, hlt1, _, hc1⟩
      · exact absurd g1 h0
      rcases g2 with ⟨g2, _⟩ | ⟨b2, o2, rfl, hlt2, _, hc2⟩
      · exact absurd g2 HU
      clear hl
      go_enter Tryz.func60, Tryz.ntmps60
      go_wp2_with fail
      go_loopw [17] (fun i wr => ∃ (j : Nat) (t' u' : M.Tr), i = .int .i64 j ∧ j + t'.len = t.len ∧ j + u'.len = u.len ∧ Below w.heap.size w wr ∧ RowAt w NoX (cs.drop (j * 8)) t' ∧ RowAt w NoX (ds.drop (j * 8)) u' ∧ Hid (decide (t = u) = decide (t' = u')) ∧ t'.sz ≤ k + 1) (fun i _ => t.len - (intOf i).toNat)
      case atStart => exact ⟨0, t, u, rfl, Nat.zero_add _, Nat.zero_add _, Below.refl _ _, by simpa using row1, by simpa using row2, rfl, hk⟩
      case round =>
        obtain ⟨j, t', u', rfl, hj1, hj2, hb, r1, r2, HE, hsz⟩ := hrel
        have hll := HL.out
        by_cases hjl : j < t.len
        · cases t' with
          | nil => simp only [M.Tr.len] at hj1; omega
          | cons op1 x1 y1 p1 a1 pr1 th1 el1 nx1 =>
            cases u' with
            | nil => simp only [M.Tr.len] at hj2; omega
            | cons op2 x2 y2 p2 a2 pr2 th2 el2 nx2 =>
              obtain ⟨va1, vp1, vt1, ve1, ct1, ce1, rest1, e1, gA1, gP1, gT1, gE1, gN1⟩ := r1
              obtain ⟨va2, vp2, vt2, ve2, ct2, ce2, rest2, e2, gA2, gP2, gT2, gE2, gN2⟩ := r2
              obtain ⟨f0, f1, f2, f3, f4, f5, f6, f7, fr⟩ := eight hc1 e1
              obtain ⟨s0, s1, s2, s3, s4, s5, s6, s7, sr⟩ := eight hc2 e2
              have hbc := fun (b o : Nat) (hlt : b < w.heap.size) => hb.cell (p := ⟨b, o, none⟩) hlt
              rw [← hbc b1 _ hlt1] at f0 f1 f2 f3 f4 f5 f6 f7
              rw [← hbc b2 _ hlt2] at s0 s1 s2 s3 s4 s5 s6 s7
              have gT1' : StmAt w NoX vt1 th1 := ⟨ct1, gT1.1, gT1.2⟩
              have gE1' : StmAt w NoX ve1 el1 := ⟨ce1, gE1.1, gE1.2⟩
              have gT2' : StmAt w NoX vt2 th2 := ⟨ct2, gT2.1, gT2.2⟩
              have gE2' : StmAt w NoX ve2 el2 := ⟨ce2, gE2.1, gE2.2⟩
              have hbW : Below w.heap.size w ((wr.alloc (.cells #[.int .i64 op1, .string x1, .string y1, .string p1, va1, vp1, vt1, ve1] 59)).alloc (.cells #[.int .i64 op2, .string x2, .string y2, .string p2, va2, vp2, vt2, ve2] 59)) := (hb.alloc hb.size _).alloc (by rw [World.size_alloc]; have := hb.size; omega) _
              simp only [M.Tr.sz] at hsz
              have hcall := sameStmt_any k hB ((wr.alloc (.cells #[.int .i64 op1, .string x1, .string y1, .string p1, va1, vp1, vt1, ve1] 59)).alloc (.cells #[.int .i64 op2, .string x2, .string y2, .string p2, va2, vp2, vt2, ve2] 59)) op1 op2 x1 x2 y1 y2 p1 p2 a1 a2 pr1 pr2 th1 th2 el1 el2 va1 va2 vp1 vp2 vt1 vt2 ve1 ve2 (by omega) (by omega)
                (SlAt.bel gA1 hbW) (SlAt.bel gA2 hbW) (SlAt.bel gP1 hbW) (SlAt.bel gP2 hbW) (gT1'.bel hbW) (gT2'.bel hbW) (gE1'.bel hbW) (gE2'.bel hbW)
              obtain ⟨q1, m1, rfl⟩ := SlAt.form gA1
              obtain ⟨q2, m2, rfl⟩ := SlAt.form gA2
              obtain ⟨q3, m3, rfl⟩ := SlAt.form gP1
              obtain ⟨q4, m4, rfl⟩ := SlAt.form gP2
              obtain ⟨q5, m5, rfl⟩ := StmAt.form gT1'
              obtain ⟨q6, m6, rfl⟩ := StmAt.form gT2'
              obtain ⟨q7, m7, rfl⟩ := StmAt.form gE1'
              obtain ⟨q8, m8, rfl⟩ := StmAt.form gE2'
              have hi1 : (j : Int) < (t.len : Int) := by omega
              have hi2 : (j : Int) < (u.len : Int) := by omega
              have hlw1 : b1 < wr.heap.size := Nat.lt_of_lt_of_le hlt1 hb.size
              have hlw2 : b2 < wr.heap.size := Nat.lt_of_lt_of_le hlt2 hb.size
              have HJ := hid hll
              clear hll hbc
              by_cases hcd : op1 = op2 ∧ x1 = x2 ∧ y1 = y2 ∧ p1 = p2 ∧ a1 = a2 ∧ pr1 = pr2 ∧ th1 = th2 ∧ el1 = el2
              · rw [decide_eq_true hcd] at hcall
                have HE2 : Hid (decide (t = u) = decide (nx1 = nx2)) := by
                  unfold Hid; rw [HE.out]; exact decide_eq_decide.2 ⟨fun h => (cons_eq.1 h).2, fun h => cons_eq.2 ⟨hcd, h⟩⟩
                clear hcd HE
                go_wp2_with fail
                refine hcall.mono ?_
                rintro e w5 ⟨rfl, hb5⟩
                go_wp2_with fail
                refine ⟨⟨j + 1, nx1, nx2, by go_num, by simp only [M.Tr.len] at hj1; omega, by simp only [M.Tr.len] at hj2; omega, ?_, by rw [fr]; exact gN1, by rw [sr]; exact gN2, HE2, by omega⟩, by simp [intOf]; omega⟩
                exact hbW.trans (hb5.mono (by rw [World.size_alloc, World.size_alloc]; have := hb.size; omega))
              · rw [decide_eq_false hcd] at hcall
                have HE2 : Hid (decide (t = u) = false) := by
                  unfold Hid; rw [HE.out]; exact decide_eq_false fun h => hcd (cons_eq.1 h).1
                clear hcd HE
                go_wp2_with fail
                refine hcall.mono ?_
                rintro e w5 ⟨rfl, hb5⟩
                go_wp2_with fail
                go_ret
                refine ⟨ret_bool HE2.out.symm, ?_⟩
                exact hbW.trans (hb5.mono (by rw [World.size_alloc, World.size_alloc]; have := hb.size; omega))
        · obtain rfl : t' = .nil := len_nil (by omega)
          obtain rfl : u' = .nil := len_nil (by omega)
          clear hll
          go_wp2_with fail
          go_ret
          refine ⟨ret_bool ?_, hb⟩
          rw [HE.out]; rfl
  · have hd : ((t.len : Int) != (u.len : Int)) = true := by simp; omega
    have HN : Hid (t ≠ u) := fun h => hl (by rw [h])
    clear hl
    go_enter Tryz.func60, Tryz.ntmps60
    go_wp2_with fail
    go_ret
    exact ⟨ret_bool (decide_eq_false HN.out).symm, Below.refl _ _⟩

theorem sameBlock_any (k : Nat) (hB : SameC k) : SameC (k + 1) := by
  intro w va vb t u hk h1 h2
  go_enter Tryz.func47, Tryz.ntmps47
  go_wp2_with fail
  refine (eqFuncS_any k hB w va vb t u hk h1 h2).mono ?_
  rintro e w' ⟨rfl, hb⟩
  go_wp2_with fail
  go_ret
  exact ⟨rfl, hb⟩
theorem same0 : SameC 0 := by
  intro w va vb t u hk h1 h2
  have h0 : t.sz = 0 := by omega
  have hB : SameC 0 → True := fun _ => trivial
  obtain rfl : t = .nil := len_nil (by have := sz_pos t; omega)
  obtain ⟨cs, ⟨l1, a1, cap1, rfl, g1⟩, row1⟩ := h1
  obtain ⟨ds, ⟨l2, a2, cap2, rfl, g2⟩, row2⟩ := h2
  have hcall : Calls Tryz.prog 60 #[.slice a1 M.Tr.nil.len cap1, .slice a2 u.len cap2, .func (.func 61) #[] #[]] w fun e w' => e = .returned (.bool (decide (M.Tr.nil = u))) ∧ Below w.heap.size w w' := by
    by_cases hu : u.len = 0
    · obtain rfl := len_nil hu
      go_enter Tryz.func60, Tryz.ntmps60
      go_wp2_with fail
      go_loop [17] (fun i => i = .int .i64 0) (fun _ => 0)
      case atStart => rfl
      case round =>
        subst hrel
        go_wp2_with fail
        go_ret
        exact ⟨rfl, Below.refl _ _⟩
    · have hd : ((M.Tr.nil.len : Int) != (u.len : Int)) = true := by simp [M.Tr.len]; omega
      have HN : Hid (M.Tr.nil ≠ u) := fun h => hu (by rw [← h]; rfl)
      go_enter Tryz.func60, Tryz.ntmps60
      go_wp2_with fail
      go_ret
      exact ⟨ret_bool (decide_eq_false HN.out).symm, Below.refl _ _⟩
  go_enter Tryz.func47, Tryz.ntmps47
  go_wp2_with fail
  refine hcall.mono ?_
  rintro e w' ⟨rfl, hb⟩
  go_wp2_with fail
  go_ret
  exact ⟨rfl, hb⟩
theorem sameC : ∀ k, SameC k
  | 0 => same0
  | k + 1 => sameBlock_any k (sameC k)
end Go.Proofs.YtkonkdhoakcmdaaGreatDoor
