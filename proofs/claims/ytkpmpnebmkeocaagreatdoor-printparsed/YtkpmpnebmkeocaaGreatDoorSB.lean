/-
  The walk of proteanref02.Stmts over statements that are the same: they are found so. No conditions. The walk of proteanref02.Same over programs that are the same: they are found so. No conditions. What parse.Parse answers of a text whose parse is known; a row that lies in a block. No conditions.
-/
import Derived.Test.YtkpmpnebmkeocaaGreatDoorSA
import Derived.KernelRfl
section
set_option linter.unusedVariables false
namespace Go.Proofs.YtkpmpnebmkeocaaGreatDoor
open Go.RowKit

def SameR (k : Nat) : Prop := ∀ (w : World) (va vb : Value) (t : M.Tr), t.sz ≤ k → StmAt w NoX va t → StmAt w NoX vb t → Calls Tryz.prog 32 #[va, vb] w fun e w' => e = .returned (.bool true) ∧ Below w.heap.size w w'
theorem textsB (w : World) (va vb : Value) (a : List ByteArray) (h1 : StrsAt w NoX va a) (h2 : StrsAt w NoX vb a) :
    Calls Tryz.prog 31 #[va, vb] w fun e w' => e = .returned (.bool true) ∧ Below w.heap.size w w' :=
  (texts_any _ _ _ _ _ _ w h1 h2).mono fun e w' ⟨h, n, hw⟩ => ⟨by rw [h, decide_eq_true rfl], by rw [hw]; exact below_drewN (Below.refl _ _) n⟩
/-- two new blocks, whichever comes first -/
theorem pair_new {wr : World} {A B : Obj} : Below wr.heap.size wr ((wr.alloc A).alloc B).drew ∧ ((wr.alloc A).alloc B).drew.heap[wr.heap.size]? = some A ∧ ((wr.alloc A).alloc B).drew.heap[wr.heap.size + 1]? = some B ∧ ((wr.alloc A).alloc B).drew.heap.size = wr.heap.size + 2 := by
  refine ⟨(((Below.refl _ _).alloc (Nat.le_refl _) _).alloc (by simp) _).drew, ?_, ?_, ?_⟩
  · show ((wr.alloc A).alloc B).heap[wr.heap.size]? = _
    exact (Below.heap_alloc _ _ _ (by simp)).trans (heap_alloc_new wr _)
  · show ((wr.alloc A).alloc B).heap[wr.heap.size + 1]? = _
    have := heap_alloc_new (wr.alloc A) B
    rw [World.size_alloc] at this; exact this
  · show ((wr.alloc A).alloc B).heap.size = _
    simp only [World.size_alloc]

set_option maxRecDepth 8000 in
set_option maxHeartbeats 3200000 in
theorem stmtsR_any (k : Nat) (hB : SameR k) : SameR (k + 1) := by
  intro w va vb t hk h1 h2
  obtain ⟨cs, ⟨l1, a1, cap1, rfl, g1⟩, row1⟩ := h1
  obtain ⟨ds, ⟨l2, a2, cap2, rfl, g2⟩, row2⟩ := h2
  by_cases h0 : t.len = 0
  · obtain rfl := len_nil h0
    go_enter Tryz.func32, Tryz.ntmps32
    go_wp2_with fail
    go_loop [5] (fun i => i = .int .i64 0) (fun _ => 0)
    case atStart => rfl
    case round =>
      subst hrel
      go_wp2_with fail
      go_ret
      exact ⟨rfl, Below.refl _ _⟩
  · rcases g1 with ⟨g1, _⟩ | ⟨b1, o1, rfl, hlt1, _, hc1⟩
    · exact absurd g1 h0
    rcases g2 with ⟨g2, _⟩ | ⟨b2, o2, rfl, hlt2, _, hc2⟩
    · exact absurd g2 h0
    go_enter Tryz.func32, Tryz.ntmps32
    go_wp2_with fail
    go_loopw [5] (fun i wr => ∃ (j : Nat) (t' : M.Tr), i = .int .i64 j ∧ j + t'.len = t.len ∧ Below w.heap.size w wr ∧ RowAt w NoX (cs.drop (j * 8)) t' ∧ RowAt w NoX (ds.drop (j * 8)) t' ∧ t'.sz ≤ k + 1) (fun i _ => t.len - (intOf i).toNat)
    case atStart => exact ⟨0, t, rfl, Nat.zero_add _, Below.refl _ _, by simpa using row1, by simpa using row2, hk⟩
    case round =>
      obtain ⟨j, t', rfl, hj1, hb, r1, r2, hsz⟩ := hrel
      by_cases hjl : j < t.len
      · cases t' with
        | nil => simp only [M.Tr.len] at hj1; omega
        | cons op x y p a pr th el nx =>
          obtain ⟨va1, vp1, vt1, ve1, ct1, ce1, rest1, e1, gA1, gP1, gT1, gE1, gN1⟩ := r1
          obtain ⟨va2, vp2, vt2, ve2, ct2, ce2, rest2, e2, gA2, gP2, gT2, gE2, gN2⟩ := r2
          obtain ⟨f0, f1, f2, f3, f4, f5, f6, f7, fr⟩ := eight hc1 e1
          obtain ⟨s0, s1, s2, s3, s4, s5, s6, s7, sr⟩ := eight hc2 e2
          have hbc := fun (b o : Nat) (hlt : b < w.heap.size) => hb.cell (p := ⟨b, o, none⟩) hlt
          rw [← hbc b1 _ hlt1] at f0 f1 f2 f3 f4 f5 f6 f7
          rw [← hbc b2 _ hlt2] at s0 s1 s2 s3 s4 s5 s6 s7
          have gT1' : StmAt w NoX vt1 th := ⟨ct1, gT1.1, gT1.2⟩
          have gE1' : StmAt w NoX ve1 el := ⟨ce1, gE1.1, gE1.2⟩
          have gT2' : StmAt w NoX vt2 th := ⟨ct2, gT2.1, gT2.2⟩
          have gE2' : StmAt w NoX ve2 el := ⟨ce2, gE2.1, gE2.2⟩
          simp only [M.Tr.sz] at hsz
          simp only [M.Tr.len] at hj1
          have hk1 : th.sz ≤ k := by omega
          have hk2 : el.sz ≤ k := by omega
          obtain ⟨q1, m1, rfl⟩ := SlAt.form gA1
          obtain ⟨q2, m2, rfl⟩ := SlAt.form gA2
          obtain ⟨q3, m3, rfl⟩ := SlAt.form gP1
          obtain ⟨q4, m4, rfl⟩ := SlAt.form gP2
          obtain ⟨q5, m5, rfl⟩ := StmAt.form gT1'
          obtain ⟨q6, m6, rfl⟩ := StmAt.form gT2'
          obtain ⟨q7, m7, rfl⟩ := StmAt.form gE1'
          obtain ⟨q8, m8, rfl⟩ := StmAt.form gE2'
          have hi1 : (j : Int) < (t.len : Int) := by omega
          have hlw1 : b1 < wr.heap.size := Nat.lt_of_lt_of_le hlt1 hb.size
          have hlw2 : b2 < wr.heap.size := Nat.lt_of_lt_of_le hlt2 hb.size
          have hla : a.length ≤ 4398046511104 := gA1.1
          clear hbc
          go_wp2_with fail
          go_region_held3 (fun w' => w'.cell? ⟨b1, o1 + j * 8, none⟩ = some (.int .i64 op) ∧ w'.cell? ⟨b1, o1 + j * 8 + 1, none⟩ = some (.string x) ∧ w'.cell? ⟨b1, o1 + j * 8 + 2, none⟩ = some (.string y) ∧ w'.cell? ⟨b1, o1 + j * 8 + 3, none⟩ = some (.string p) ∧ w'.cell? ⟨b1, o1 + j * 8 + 4, none⟩ = some (.slice q1 a.length m1) ∧ w'.cell? ⟨b1, o1 + j * 8 + 5, none⟩ = some (.slice q3 pr.length m3) ∧ w'.cell? ⟨b1, o1 + j * 8 + 6, none⟩ = some (.slice q5 th.len m5) ∧ w'.cell? ⟨b1, o1 + j * 8 + 7, none⟩ = some (.slice q7 el.len m7) ∧ w'.cell? ⟨b2, o2 + j * 8, none⟩ = some (.int .i64 op) ∧ w'.cell? ⟨b2, o2 + j * 8 + 1, none⟩ = some (.string x) ∧ w'.cell? ⟨b2, o2 + j * 8 + 2, none⟩ = some (.string y) ∧ w'.cell? ⟨b2, o2 + j * 8 + 3, none⟩ = some (.string p) ∧ w'.cell? ⟨b2, o2 + j * 8 + 4, none⟩ = some (.slice q2 a.length m2) ∧ w'.cell? ⟨b2, o2 + j * 8 + 5, none⟩ = some (.slice q4 pr.length m4) ∧ w'.cell? ⟨b2, o2 + j * 8 + 6, none⟩ = some (.slice q6 th.len m6) ∧ w'.cell? ⟨b2, o2 + j * 8 + 7, none⟩ = some (.slice q8 el.len m8)) (go_keep) (fail)
          · obtain ⟨hn0, hn1, hn2, hn3⟩ := pair_new (wr := wr) (A := (.cells #[.int .i64 op, .string x, .string y, .string p, .slice q1 a.length m1, .slice q3 pr.length m3, .slice q5 th.len m5, .slice q7 el.len m7] 32)) (B := (.cells #[.int .i64 op, .string x, .string y, .string p, .slice q2 a.length m2, .slice q4 pr.length m4, .slice q6 th.len m6, .slice q8 el.len m8] 32))
            generalize hw4 : ((wr.alloc (.cells #[.int .i64 op, .string x, .string y, .string p, .slice q1 a.length m1, .slice q3 pr.length m3, .slice q5 th.len m5, .slice q7 el.len m7] 32)).alloc (.cells #[.int .i64 op, .string x, .string y, .string p, .slice q2 a.length m2, .slice q4 pr.length m4, .slice q6 th.len m6, .slice q8 el.len m8] 32)).drew = w4 at hn0 hn1 hn2 hn3 ⊢
            clear hw4
            have hP4 := hn1
            have hQ4 := hn2
            have hz4 : wr.heap.size + 2 ≤ w4.heap.size := by omega
            have hb4 : Below w.heap.size w w4 := hb.trans (hn0.mono hb.size)
            clear hn1 hn2 hn3
            obtain ⟨k0, k1, k2, k3, k4, k5, k6, k7, kf, kz⟩ := cells8 hP4
            obtain ⟨l0, l1, l2, l3, l4, l5, l6, l7, lf, lz⟩ := cells8 hQ4
            go_wp2_with fail
            refine (textsB _ _ _ pr (SlAt.bel gP1 hb4) (SlAt.bel gP2 hb4)).mono ?_
            rintro e w5 ⟨rfl, hb5⟩
            have hw5 : Below w.heap.size w w5 := hb4.trans (hb5.mono hb4.size)
            have hP5 := (hb5.block _ kz).trans hP4
            have hQ5 := (hb5.block _ lz).trans hQ4
            clear k0 k1 k2 k3 k4 k5 k6 k7 kf l0 l1 l2 l3 l4 l5 l6 l7 lf
            obtain ⟨k0, k1, k2, k3, k4, k5, k6, k7, kf, kz5⟩ := cells8 hP5
            obtain ⟨l0, l1, l2, l3, l4, l5, l6, l7, lf, lz5⟩ := cells8 hQ5
            go_wp2_with fail
            refine (hB _ _ _ th hk1 (gT1'.bel hw5) (gT2'.bel hw5)).mono ?_
            rintro e w6 ⟨rfl, hb6⟩
            have hw6 : Below w.heap.size w w6 := hw5.trans (hb6.mono hw5.size)
            have hP6 := (hb6.block _ kz5).trans hP5
            have hQ6 := (hb6.block _ lz5).trans hQ5
            clear k0 k1 k2 k3 k4 k5 k6 k7 kf l0 l1 l2 l3 l4 l5 l6 l7 lf
            obtain ⟨k0, k1, k2, k3, k4, k5, k6, k7, kf, kz6⟩ := cells8 hP6
            obtain ⟨l0, l1, l2, l3, l4, l5, l6, l7, lf, lz6⟩ := cells8 hQ6
            go_wp2_with fail
            refine (hB _ _ _ el hk2 (gE1'.bel hw6) (gE2'.bel hw6)).mono ?_
            rintro e w7 ⟨rfl, hb7⟩
            have hw7 : Below w.heap.size w w7 := hw6.trans (hb7.mono hw6.size)
            have hP7 := (hb7.block _ kz6).trans hP6
            have hQ7 := (hb7.block _ lz6).trans hQ6
            have kz7 := Nat.lt_of_lt_of_le kz6 hb7.size
            have lz7 := Nat.lt_of_lt_of_le lz6 hb7.size
            clear k0 k1 k2 k3 k4 k5 k6 k7 kf l0 l1 l2 l3 l4 l5 l6 l7 lf
            obtain ⟨_, _, _, gx, gc1⟩ := ops_cells gA1
            obtain ⟨_, _, _, gy, gc2⟩ := ops_cells gA2
            simp only [Value.slice.injEq] at gx gy
            obtain ⟨rfl, _, rfl⟩ := gx
            obtain ⟨rfl, _, rfl⟩ := gy
            go_wp2_with fail
            go_loopw [8] (fun i w8 => ∃ n : Nat, n ≤ a.length ∧ i = .int .i64 n ∧ ∃ d, w8 = w7.drewN d) (fun i _ => a.length - (intOf i).toNat)
            case atStart => exact ⟨0, Nat.zero_le _, rfl, 0, rfl⟩
            case round =>
              obtain ⟨n, hn, rfl, d, rfl⟩ := hrel
              obtain ⟨k0, k1, k2, k3, k4, k5, k6, k7, kf, _⟩ := cells8 hP7
              obtain ⟨l0, l1, l2, l3, l4, l5, l6, l7, lf, _⟩ := cells8 hQ7
              by_cases hnl : n < a.length
              · rcases gc1 with gc1 | ⟨c1, p1, rfl, hlc1, gc1⟩
                · rw [gc1] at hnl; simp at hnl
                rcases gc2 with gc2 | ⟨c2, p2, rfl, hlc2, gc2⟩
                · rw [gc2] at hnl; simp at hnl
                obtain ⟨x1, x2, x3⟩ := gc1 n hnl
                obtain ⟨y1, y2, y3⟩ := gc2 n hnl
                rw [← hw7.cell (p := ⟨c1, _, none⟩) hlc1] at x1 x2 x3
                rw [← hw7.cell (p := ⟨c2, _, none⟩) hlc2] at y1 y2 y3
                have hne := fun w' => neq_op a[n] a[n] w'
                simp only [decide_eq_true, Bool.not_true] at hne
                have hsO := stoodOp
                have hgO := guardOp
                have hni : (n : Int) < (a.length : Int) := by omega
                go_wp2_with fail
                go_quiet (fail)
                go_wp2
                refine ⟨⟨n + 1, by omega, by go_num, _, rfl⟩, by simp [intOf]; omega⟩
              · go_wp2
                refine ⟨⟨j + 1, nx, by go_num, by omega, below_drewN hw7 _, by rw [fr]; exact gN1, by rw [sr]; exact gN2, by omega⟩, by simp [intOf]; omega⟩
          · obtain ⟨hn0, hn1, hn2, hn3⟩ := pair_new (wr := wr) (A := (.cells #[.int .i64 op, .string x, .string y, .string p, .slice q2 a.length m2, .slice q4 pr.length m4, .slice q6 th.len m6, .slice q8 el.len m8] 32)) (B := (.cells #[.int .i64 op, .string x, .string y, .string p, .slice q1 a.length m1, .slice q3 pr.length m3, .slice q5 th.len m5, .slice q7 el.len m7] 32))
            generalize hw4 : ((wr.alloc (.cells #[.int .i64 op, .string x, .string y, .string p, .slice q2 a.length m2, .slice q4 pr.length m4, .slice q6 th.len m6, .slice q8 el.len m8] 32)).alloc (.cells #[.int .i64 op, .string x, .string y, .string p, .slice q1 a.length m1, .slice q3 pr.length m3, .slice q5 th.len m5, .slice q7 el.len m7] 32)).drew = w4 at hn0 hn1 hn2 hn3 ⊢
            clear hw4
            have hP4 := hn2
            have hQ4 := hn1
            have hz4 : wr.heap.size + 2 ≤ w4.heap.size := by omega
            have hb4 : Below w.heap.size w w4 := hb.trans (hn0.mono hb.size)
            clear hn1 hn2 hn3
            obtain ⟨k0, k1, k2, k3, k4, k5, k6, k7, kf, kz⟩ := cells8 hP4
            obtain ⟨l0, l1, l2, l3, l4, l5, l6, l7, lf, lz⟩ := cells8 hQ4
            go_wp2_with fail
            refine (textsB _ _ _ pr (SlAt.bel gP1 hb4) (SlAt.bel gP2 hb4)).mono ?_
            rintro e w5 ⟨rfl, hb5⟩
            have hw5 : Below w.heap.size w w5 := hb4.trans (hb5.mono hb4.size)
            have hP5 := (hb5.block _ kz).trans hP4
            have hQ5 := (hb5.block _ lz).trans hQ4
            clear k0 k1 k2 k3 k4 k5 k6 k7 kf l0 l1 l2 l3 l4 l5 l6 l7 lf
            obtain ⟨k0, k1, k2, k3, k4, k5, k6, k7, kf, kz5⟩ := cells8 hP5
            obtain ⟨l0, l1, l2, l3, l4, l5, l6, l7, lf, lz5⟩ := cells8 hQ5
            go_wp2_with fail
            refine (hB _ _ _ th hk1 (gT1'.bel hw5) (gT2'.bel hw5)).mono ?_
            rintro e w6 ⟨rfl, hb6⟩
            have hw6 : Below w.heap.size w w6 := hw5.trans (hb6.mono hw5.size)
            have hP6 := (hb6.block _ kz5).trans hP5
            have hQ6 := (hb6.block _ lz5).trans hQ5
            clear k0 k1 k2 k3 k4 k5 k6 k7 kf l0 l1 l2 l3 l4 l5 l6 l7 lf
            obtain ⟨k0, k1, k2, k3, k4, k5, k6, k7, kf, kz6⟩ := cells8 hP6
            obtain ⟨l0, l1, l2, l3, l4, l5, l6, l7, lf, lz6⟩ := cells8 hQ6
            go_wp2_with fail
            refine (hB _ _ _ el hk2 (gE1'.bel hw6) (gE2'.bel hw6)).mono ?_
            rintro e w7 ⟨rfl, hb7⟩
            have hw7 : Below w.heap.size w w7 := hw6.trans (hb7.mono hw6.size)
            have hP7 := (hb7.block _ kz6).trans hP6
            have hQ7 := (hb7.block _ lz6).trans hQ6
            have kz7 := Nat.lt_of_lt_of_le kz6 hb7.size
            have lz7 := Nat.lt_of_lt_of_le lz6 hb7.size
            clear k0 k1 k2 k3 k4 k5 k6 k7 kf l0 l1 l2 l3 l4 l5 l6 l7 lf
            obtain ⟨_, _, _, gx, gc1⟩ := ops_cells gA1
            obtain ⟨_, _, _, gy, gc2⟩ := ops_cells gA2
            simp only [Value.slice.injEq] at gx gy
            obtain ⟨rfl, _, rfl⟩ := gx
            obtain ⟨rfl, _, rfl⟩ := gy
            go_wp2_with fail
            go_loopw [8] (fun i w8 => ∃ n : Nat, n ≤ a.length ∧ i = .int .i64 n ∧ ∃ d, w8 = w7.drewN d) (fun i _ => a.length - (intOf i).toNat)
            case atStart => exact ⟨0, Nat.zero_le _, rfl, 0, rfl⟩
            case round =>
              obtain ⟨n, hn, rfl, d, rfl⟩ := hrel
              obtain ⟨k0, k1, k2, k3, k4, k5, k6, k7, kf, _⟩ := cells8 hP7
              obtain ⟨l0, l1, l2, l3, l4, l5, l6, l7, lf, _⟩ := cells8 hQ7
              by_cases hnl : n < a.length
              · rcases gc1 with gc1 | ⟨c1, p1, rfl, hlc1, gc1⟩
                · rw [gc1] at hnl; simp at hnl
                rcases gc2 with gc2 | ⟨c2, p2, rfl, hlc2, gc2⟩
                · rw [gc2] at hnl; simp at hnl
                obtain ⟨x1, x2, x3⟩ := gc1 n hnl
                obtain ⟨y1, y2, y3⟩ := gc2 n hnl
                rw [← hw7.cell (p := ⟨c1, _, none⟩) hlc1] at x1 x2 x3
                rw [← hw7.cell (p := ⟨c2, _, none⟩) hlc2] at y1 y2 y3
                have hne := fun w' => neq_op a[n] a[n] w'
                simp only [decide_eq_true, Bool.not_true] at hne
                have hsO := stoodOp
                have hgO := guardOp
                have hni : (n : Int) < (a.length : Int) := by omega
                go_wp2_with fail
                go_quiet (fail)
                go_wp2
                refine ⟨⟨n + 1, by omega, by go_num, _, rfl⟩, by simp [intOf]; omega⟩
              · go_wp2
                refine ⟨⟨j + 1, nx, by go_num, by omega, below_drewN hw7 _, by rw [fr]; exact gN1, by rw [sr]; exact gN2, by omega⟩, by simp [intOf]; omega⟩
      · obtain rfl : t' = .nil := len_nil (by omega)
        go_wp2_with fail
        go_ret
        exact ⟨rfl, hb⟩
end Go.Proofs.YtkpmpnebmkeocaaGreatDoor
end
section
set_option linter.unusedVariables false
namespace Go.Proofs.YtkpmpnebmkeocaaGreatDoor
open Go.RowKit

theorem sameR0 : SameR 0 := by
  intro w va vb t hk h1 h2
  obtain rfl : t = .nil := len_nil (by have := sz_pos t; omega)
  obtain ⟨cs, ⟨l1, a1, cap1, rfl, g1⟩, row1⟩ := h1
  obtain ⟨ds, ⟨l2, a2, cap2, rfl, g2⟩, row2⟩ := h2
  go_enter Tryz.func32, Tryz.ntmps32
  go_wp2_with fail
  go_loop [5] (fun i => i = .int .i64 0) (fun _ => 0)
  case atStart => rfl
  case round =>
    subst hrel
    go_wp2_with fail
    go_ret
    exact ⟨rfl, Below.refl _ _⟩
theorem sameR : ∀ k, SameR k
  | 0 => sameR0
  | k + 1 => stmtsR_any k (sameR k)

set_option maxRecDepth 8000 in
set_option maxHeartbeats 1600000 in
theorem rsame_eq (w : World) (va vb : Value) (l : List M.Fn) (h1 : ProgAt w NoX va l) (h2 : ProgAt w NoX vb l) :
    Calls Tryz.prog 18 #[.agg #[va], .agg #[vb]] w fun e w' => e = .returned (.bool true) ∧ Below w.heap.size w w' := by
  obtain ⟨cs, ⟨l1, a1, cap1, rfl, g1⟩, row1⟩ := h1
  obtain ⟨ds, ⟨l2, a2, cap2, rfl, g2⟩, row2⟩ := h2
  by_cases h0 : l.length = 0
  · obtain rfl := List.length_eq_zero_iff.1 h0
    go_enter Tryz.func18, Tryz.ntmps18
    go_wp2_with fail
    go_loop [5] (fun i => i = .int .i64 0) (fun _ => 0)
    case atStart => rfl
    case round =>
      subst hrel
      go_wp2_with fail
      go_ret
      exact ⟨rfl, ((Below.refl _ _).alloc (Nat.le_refl _) _).alloc (by simp) _⟩
  · rcases g1 with ⟨g1, _⟩ | ⟨b1, o1, rfl, hlt1, _, hc1⟩
    · exact absurd g1 h0
    rcases g2 with ⟨g2, _⟩ | ⟨b2, o2, rfl, hlt2, _, hc2⟩
    · exact absurd g2 h0
    have hB0 : Below (w.heap.size + 2) ((w.alloc (.cells #[.slice (some ⟨b1, o1, none⟩) l.length cap1] 24)).alloc (.cells #[.slice (some ⟨b2, o2, none⟩) l.length cap2] 24)) ((w.alloc (.cells #[.slice (some ⟨b1, o1, none⟩) l.length cap1] 24)).alloc (.cells #[.slice (some ⟨b2, o2, none⟩) l.length cap2] 24)) := Below.refl _ _
    go_enter Tryz.func18, Tryz.ntmps18
    go_wp2_with fail
    go_loopw [5] (fun i wr => ∃ (j : Nat) (l' : List M.Fn), i = .int .i64 j ∧ j + l'.length = l.length ∧ Below (w.heap.size + 2) ((w.alloc (.cells #[.slice (some ⟨b1, o1, none⟩) l.length cap1] 24)).alloc (.cells #[.slice (some ⟨b2, o2, none⟩) l.length cap2] 24)) wr ∧ FnsAt w NoX (cs.drop (j * 3)) l' ∧ FnsAt w NoX (ds.drop (j * 3)) l') (fun i _ => l.length - (intOf i).toNat)
    case atStart => exact ⟨0, l, rfl, Nat.zero_add _, hB0, by simpa using row1, by simpa using row2⟩
    case round =>
      obtain ⟨j, l', rfl, hj1, hB, r1, r2⟩ := hrel
      have hzz : ((w.alloc (.cells #[.slice (some ⟨b1, o1, none⟩) l.length cap1] 24)).alloc (.cells #[.slice (some ⟨b2, o2, none⟩) l.length cap2] 24)).heap.size = w.heap.size + 2 := by simp only [World.size_alloc]
      have hbz := hB.size
      rw [hzz] at hbz
      have hb : Below w.heap.size w wr := (((Below.refl w.heap.size w).alloc (Nat.le_refl _) _).alloc (by simp) _).trans (hB.mono (by omega))
      have hA1 : wr.heap[w.heap.size]? = some (.cells #[.slice (some ⟨b1, o1, none⟩) l.length cap1] 24) := (hB.block w.heap.size (by omega)).trans ((Below.heap_alloc _ _ _ (by simp)).trans (heap_alloc_new w _))
      have hA2 : wr.heap[w.heap.size + 1]? = some (.cells #[.slice (some ⟨b2, o2, none⟩) l.length cap2] 24) := (hB.block (w.heap.size + 1) (by omega)).trans (by
        have := heap_alloc_new (w.alloc (.cells #[.slice (some ⟨b1, o1, none⟩) l.length cap1] 24)) (.cells #[.slice (some ⟨b2, o2, none⟩) l.length cap2] 24)
        simp only [World.size_alloc] at this; exact this)
      have cA1 := cell0 hA1
      have cA2 := cell0 hA2
      clear hzz
      by_cases hjl : j < l.length
      · cases l' with
        | nil => simp only [List.length_nil] at hj1; omega
        | cons f lr =>
          obtain ⟨vp1, vb1, rest1, e1, gP1, gB1, gN1⟩ := r1
          obtain ⟨vp2, vb2, rest2, e2, gP2, gB2, gN2⟩ := r2
          obtain ⟨f0, f1, f2, fr⟩ := three_cells hc1 e1
          obtain ⟨s0, s1, s2, sr⟩ := three_cells hc2 e2
          have hbc := fun (b o : Nat) (hlt : b < w.heap.size) => hb.cell (p := ⟨b, o, none⟩) hlt
          rw [← hbc b1 _ hlt1] at f0 f1 f2
          rw [← hbc b2 _ hlt2] at s0 s1 s2
          obtain ⟨q3, m3, rfl⟩ := SlAt.form gP1
          obtain ⟨q4, m4, rfl⟩ := SlAt.form gP2
          obtain ⟨q5, m5, rfl⟩ := StmAt.form gB1
          obtain ⟨q6, m6, rfl⟩ := StmAt.form gB2
          have hi1 : (j : Int) < (l.length : Int) := by omega
          have hlw1 : b1 < wr.heap.size := Nat.lt_of_lt_of_le hlt1 hb.size
          have hlw2 : b2 < wr.heap.size := Nat.lt_of_lt_of_le hlt2 hb.size
          clear hbc
          simp only [List.length_cons] at hj1
          go_wp2_with fail
          go_region_held3 (fun w' => w'.cell? ⟨w.heap.size, 0, none⟩ = some (.slice (some ⟨b1, o1, none⟩) l.length cap1) ∧ w'.cell? ⟨w.heap.size + 1, 0, none⟩ = some (.slice (some ⟨b2, o2, none⟩) l.length cap2) ∧ w'.cell? ⟨b1, o1 + j * 3, none⟩ = some (.string f.name) ∧ w'.cell? ⟨b1, o1 + j * 3 + 1, none⟩ = some (.slice q3 f.ps.length m3) ∧ w'.cell? ⟨b1, o1 + j * 3 + 2, none⟩ = some (.slice q5 f.body.len m5) ∧ w'.cell? ⟨b2, o2 + j * 3, none⟩ = some (.string f.name) ∧ w'.cell? ⟨b2, o2 + j * 3 + 1, none⟩ = some (.slice q4 f.ps.length m4) ∧ w'.cell? ⟨b2, o2 + j * 3 + 2, none⟩ = some (.slice q6 f.body.len m6)) (go_keep) (fail)
          · obtain ⟨hn0, hn1, hn2, hn3⟩ := pair_new (wr := wr) (A := (.cells #[.string f.name, .slice q3 f.ps.length m3, .slice q5 f.body.len m5] 34)) (B := (.cells #[.string f.name, .slice q4 f.ps.length m4, .slice q6 f.body.len m6] 34))
            generalize hw4 : ((wr.alloc (.cells #[.string f.name, .slice q3 f.ps.length m3, .slice q5 f.body.len m5] 34)).alloc (.cells #[.string f.name, .slice q4 f.ps.length m4, .slice q6 f.body.len m6] 34)).drew = w4 at hn0 hn1 hn2 hn3 ⊢
            clear hw4
            have hP4 := hn1
            have hQ4 := hn2
            have hb4 : Below w.heap.size w w4 := hb.trans (hn0.mono hb.size)
            have hB4 := hB.trans (hn0.mono hbz)
            clear hn1 hn2 hn3
            obtain ⟨k0, k1, k2, kf, kz⟩ := cells3 hP4
            obtain ⟨l0, l1, l2, lf, lz⟩ := cells3 hQ4
            go_wp2_with fail
            refine (textsB _ _ _ f.ps (SlAt.bel gP1 hb4) (SlAt.bel gP2 hb4)).mono ?_
            rintro e w5 ⟨rfl, hb5⟩
            have hz4 := hB4.size
            have hw5 : Below w.heap.size w w5 := hb4.trans (hb5.mono hb4.size)
            have hB5 := hB4.trans (hb5.mono (by rw [World.size_alloc, World.size_alloc] at hz4; exact hz4))
            have hP5 := (hb5.block _ kz).trans hP4
            have hQ5 := (hb5.block _ lz).trans hQ4
            clear k0 k1 k2 kf l0 l1 l2 lf
            obtain ⟨k0, k1, k2, kf, kz5⟩ := cells3 hP5
            obtain ⟨l0, l1, l2, lf, lz5⟩ := cells3 hQ5
            go_wp2_with fail
            refine (sameR f.body.sz _ _ _ f.body (Nat.le_refl _) (gB1.bel hw5) (gB2.bel hw5)).mono ?_
            rintro e w6 ⟨rfl, hb6⟩
            have hz5 := hB5.size
            have hB6 := hB5.trans (hb6.mono (by rw [World.size_alloc, World.size_alloc] at hz5; exact hz5))
            go_wp2_with fail
            refine ⟨⟨j + 1, lr, by go_num, by omega, hB6, by rw [fr]; exact gN1, by rw [sr]; exact gN2⟩, by simp [intOf]; omega⟩
          · obtain ⟨hn0, hn1, hn2, hn3⟩ := pair_new (wr := wr) (A := (.cells #[.string f.name, .slice q4 f.ps.length m4, .slice q6 f.body.len m6] 34)) (B := (.cells #[.string f.name, .slice q3 f.ps.length m3, .slice q5 f.body.len m5] 34))
            generalize hw4 : ((wr.alloc (.cells #[.string f.name, .slice q4 f.ps.length m4, .slice q6 f.body.len m6] 34)).alloc (.cells #[.string f.name, .slice q3 f.ps.length m3, .slice q5 f.body.len m5] 34)).drew = w4 at hn0 hn1 hn2 hn3 ⊢
            clear hw4
            have hP4 := hn2
            have hQ4 := hn1
            have hb4 : Below w.heap.size w w4 := hb.trans (hn0.mono hb.size)
            have hB4 := hB.trans (hn0.mono hbz)
            clear hn1 hn2 hn3
            obtain ⟨k0, k1, k2, kf, kz⟩ := cells3 hP4
            obtain ⟨l0, l1, l2, lf, lz⟩ := cells3 hQ4
            go_wp2_with fail
            refine (textsB _ _ _ f.ps (SlAt.bel gP1 hb4) (SlAt.bel gP2 hb4)).mono ?_
            rintro e w5 ⟨rfl, hb5⟩
            have hz4 := hB4.size
            have hw5 : Below w.heap.size w w5 := hb4.trans (hb5.mono hb4.size)
            have hB5 := hB4.trans (hb5.mono (by rw [World.size_alloc, World.size_alloc] at hz4; exact hz4))
            have hP5 := (hb5.block _ kz).trans hP4
            have hQ5 := (hb5.block _ lz).trans hQ4
            clear k0 k1 k2 kf l0 l1 l2 lf
            obtain ⟨k0, k1, k2, kf, kz5⟩ := cells3 hP5
            obtain ⟨l0, l1, l2, lf, lz5⟩ := cells3 hQ5
            go_wp2_with fail
            refine (sameR f.body.sz _ _ _ f.body (Nat.le_refl _) (gB1.bel hw5) (gB2.bel hw5)).mono ?_
            rintro e w6 ⟨rfl, hb6⟩
            have hz5 := hB5.size
            have hB6 := hB5.trans (hb6.mono (by rw [World.size_alloc, World.size_alloc] at hz5; exact hz5))
            go_wp2_with fail
            refine ⟨⟨j + 1, lr, by go_num, by omega, hB6, by rw [fr]; exact gN1, by rw [sr]; exact gN2⟩, by simp [intOf]; omega⟩
      · obtain rfl : l' = [] := List.length_eq_zero_iff.1 (by omega)
        go_wp2_with fail
        go_ret
        exact ⟨rfl, hb⟩
end Go.Proofs.YtkpmpnebmkeocaaGreatDoor
end
section
set_option linter.unusedVariables false
namespace Go.Proofs.YtkpmpnebmkeocaaGreatDoor
open Go.RowKit

theorem parseAt (s : ByteArray) (l : List UInt8) (p : List M.Fn) (f : M.Flt) (w : World) (hs : s.size ≤ maxLen) (hl : s.data.toList = l) (hr : M.parseR l = (p, f)) :
    Calls Tryz.prog 34 #[.string s] w fun e w' => Below w.heap.size w w' ∧ ∃ a c, e = .returned (.tuple #[.agg #[.slice a p.length c], .agg #[.int .i64 f.1, .int .i64 f.2]]) ∧ ProgAt w' NoX (.slice a p.length c) p := by
  subst hl
  refine (parse_any s w hs).mono ?_
  rintro e w' ⟨hb, vf, rfl, hP⟩
  rw [hr] at hP ⊢
  obtain ⟨a, c, rfl⟩ : ∃ a c, vf = .slice a p.length c := by obtain ⟨_, h1, _⟩ := hP; exact SlAt.form h1
  exact ⟨hb, a, c, rfl, hP.weak fun _ _ _ h => h⟩

/-- a row that lies in a block -/
theorem slAt_heap {w : World} {g n cap : Nat} {T : TypeId} (cs : List Value) (h : w.heap[g]? = some (.cells cs.toArray T)) (hn : n ≤ 4398046511104) (hcp : n ≤ cap ∧ cap ≤ maxLen := by simp [maxLen]) : SlAt w NoX (.slice (some ⟨g, 0, none⟩) n cap) n cs :=
  ⟨hn, some ⟨g, 0, none⟩, cap, rfl, .inr ⟨g, 0, rfl, (Array.getElem?_eq_some_iff.1 h).1, ⟨fun h => h, hcp⟩, fun i u hu => by rw [Lib.cell_of_heap h]; simpa using hu⟩⟩

end Go.Proofs.YtkpmpnebmkeocaaGreatDoor
end
