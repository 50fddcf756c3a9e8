/-
  proteanlaw02.ParsePlaces, walked where there is a fault: true, and all that was there is as it was. No conditions.
-/
import Derived.Test.YtkonkdhoakcmdaaDoorS12
set_option linter.unusedVariables false
namespace Go.Proofs.YtkonkdhoakcmdaaDoor
open Go.RowKit
namespace ParsePlaces

/-- which way it goes: what was lexed, which number -/
inductive Way (ts : List M.Tok) (c y : Int) (sz : Nat) (fx fy : Int) : Int → Prop
  | lex (n : Int) (h : c ≠ 0) : Way ts c y sz fx fy n
  | low (n : Int) (h : c = 0) (h1 : n < 0) : Way ts c y sz fx fy n
  | high (n : Int) (h : c = 0) (h1 : 0 ≤ n) (h2 : (ts.length : Int) < n) : Way ts c y sz fx fy n
  | behind (n : Int) (h : c = 0) (h0 : 0 ≤ n) (h1 : n.toNat < ts.length) (h2 : fy < (ts[n.toNat]'h1).p) : Way ts c y sz fx fy n
  | good (n : Int) (h : c = 0) (h0 : 0 ≤ n) (h1 : n.toNat < ts.length) (h2 : (ts[n.toNat]'h1).p ≤ fy) (p : List M.Fn) (f : M.Flt) (h3 : Hid (M.readR (ts.take n.toNat) (sz : Int) = (p, f))) (h4 : f.1 = 0 ∨ f = (20, (sz : Int))) : Way ts c y sz fx fy n
  | all (n : Int) (h : c = 0) (h1 : n = (ts.length : Int)) (p : List M.Fn) (h3 : Hid (M.readR ts (sz : Int) = (p, (fx, fy)))) : Way ts c y sz fx fy n

set_option maxRecDepth 8000 in
set_option maxHeartbeats 4000000 in
theorem walk_hard (s : ByteArray) (n : Int) (w : World) (hs : s.size ≤ 2000) (x y : Int) (hx : ¬ x = 0) (hy0 : 0 ≤ y) (hy1 : y ≤ (s.size : Int)) (H : Hid (M.parseR s.data.toList = ([], (x, y)))) (ts : List M.Tok) (c z : Int) (HL : Hid (M.lex s.data.toList = (ts, c, z)))
    (hn : ts.length ≤ 65536) (hw : Way ts c z s.size x y n) :
    Calls Tryd.prog 3 #[.string s, .int .i64 n] w fun e w' => e = .returned (.bool true) ∧ Below w.heap.size w w' := by
  have hs25 := stood25
  have hg25 := guard25
  have hsi : (s.size : Int) ≤ 2000 := by omega
  go_enter Tryd.func3, Tryd.ntmps3
  go_wp2_with fail
  refine (parseAt _ _ _ _ _ (by unfold maxLen; omega) rfl H.out).mono ?_
  rintro e w1 ⟨hb1, b1, c1, rfl, hP1⟩
  go_wp2_with fail
  refine (fixed_any _).mono ?_
  rintro e w2 ⟨rfl, hb2⟩
  simp only [World.size_alloc] at hb2
  have hz := hb2.size
  simp only [World.size_alloc] at hz
  have hN := heap_alloc_new (w1.alloc (.cells #[.slice b1 0 c1] 24)) (.cells #[.int .i64 x, .int .i64 y] 27)
  simp only [World.size_alloc] at hN
  have q0 : w2.cell? ⟨w1.heap.size + 1, 0, none⟩ = some (.int .i64 x) := by
    rw [hb2.cell (p := ⟨w1.heap.size + 1, 0, none⟩) (by simp only; omega), Lib.cell_of_heap hN]; rfl
  have q1 : w2.cell? ⟨w1.heap.size + 1, 1, none⟩ = some (.int .i64 y) := by
    rw [hb2.cell (p := ⟨w1.heap.size + 1, 1, none⟩) (by simp only; omega), Lib.cell_of_heap hN]; rfl
  have q2 : w2.cell? ⟨w1.heap.size, 0, none⟩ = some (.slice b1 0 c1) := by
    rw [hb2.cell (p := ⟨w1.heap.size, 0, none⟩) (by simp only; omega)]
    exact cell0 ((Below.heap_alloc _ _ _ (by simp)).trans (heap_alloc_new w1 _))
  have hl0 : w1.heap.size < w2.heap.size := by omega
  have hl1 : w1.heap.size + 1 < w2.heap.size := by omega
  have hbb : Below w.heap.size w w2 := hb1.trans (((((Below.refl w1.heap.size w1).alloc (Nat.le_refl _) _).alloc (by simp) _).trans (hb2.mono (by omega))).mono hb1.size)
  clear hz hN hb2
  go_wp2_with fail
  refine (rlexAt _ _ _ _ _ (by unfold maxLen; omega) HL.out).mono ?_
  rintro e w3 ⟨hb3, a3, cap3, rfl, T3, ap3, k3, m3⟩
  have q3 : w3.cell? ⟨w1.heap.size + 1, 1, none⟩ = some (.int .i64 y) := (hb3.cell (p := ⟨w1.heap.size + 1, 1, none⟩) hl1).trans q1
  have hl3 : w1.heap.size + 1 < w3.heap.size := Nat.lt_of_lt_of_le hl1 hb3.size
  have hb33 : Below w.heap.size w w3 := hbb.trans (hb3.mono hbb.size)
  clear q0 q1 q2 hl0 hl1
  go_wp2_with fail
  cases hw with
  | lex h =>
    have g1 : (c != 0) = true := by simpa using h
    go_quiet (fail)
    go_wp2_with fail
    go_ret
    exact ⟨rfl, below_drewN (hb33.alloc hb33.size _) _⟩
  | low h h1 =>
    subst h
    have g2 : decide (n < 0) = true := decide_eq_true h1
    go_quiet (fail)
    go_wp2_with fail
    go_ret
    exact ⟨rfl, below_drewN (hb33.alloc hb33.size _) _⟩
  | high h h1 h2 =>
    subst h
    have g2 : decide (n < 0) = false := decide_eq_false (by omega)
    have g3 : decide ((ts.length : Int) < n) = true := decide_eq_true h2
    go_quiet (fail)
    go_wp2_with fail
    go_ret
    exact ⟨rfl, below_drewN (hb33.alloc hb33.size _) _⟩
  | behind h h0 h1 h2 =>
    subst h
    have g2 : decide (n < 0) = false := decide_eq_false (by omega)
    have g3 : decide ((ts.length : Int) < n) = false := decide_eq_false (by omega)
    have g4 : decide (n < (ts.length : Int)) = true := decide_eq_true (by omega)
    have g5 : decide (y < (ts[n.toNat]'h1).p) = true := decide_eq_true h2
    have g6 : n < (ts.length : Int) := by omega
    obtain ⟨u1, u2, av, cv, eq, u3⟩ := T3
    simp only [Value.slice.injEq] at eq
    obtain ⟨rfl, _, rfl⟩ := eq
    rcases u3 with u3 | ⟨b, o, rfl, hlt, hcell⟩
    · rw [u3] at h1; simp at h1
    · have hp := (hcell n.toNat h1).2.2
      clear hcell u1 u2
      go_quiet (fail)
      go_wp2_with fail
      go_ret
      exact ⟨rfl, below_drewN (hb33.alloc hb33.size _) _⟩
  | good h h0 h1 h2 p f h3 h4 =>
    subst h
    have g2 : decide (n < 0) = false := decide_eq_false (by omega)
    have g3 : decide ((ts.length : Int) < n) = false := decide_eq_false (by omega)
    have g4 : decide (n < (ts.length : Int)) = true := decide_eq_true (by omega)
    have g5 : decide (y < (ts[n.toNat]'h1).p) = false := decide_eq_false (by omega)
    have g6 : n < (ts.length : Int) := by omega
    have T3' := tok_take T3 n.toNat (by omega)
    obtain ⟨u1, u2, av, cv, eq, u3⟩ := T3
    simp only [Value.slice.injEq] at eq
    obtain ⟨rfl, _, rfl⟩ := eq
    rcases u3 with u3 | ⟨b, o, rfl, hlt, hcell⟩
    · rw [u3] at h1; simp at h1
    · have hp := (hcell n.toNat h1).2.2
      clear hcell u1 u2
      go_quiet (fail)
      go_wp2_with fail
      have hb4 : Below w3.heap.size w3 ((w3.alloc (.cells #[.int .i64 0, .int .i64 z] 27)).drewN nq) := below_drewN ((Below.refl _ _).alloc (Nat.le_refl _) _) _
      have hb44 : Below w.heap.size w ((w3.alloc (.cells #[.int .i64 0, .int .i64 z] 27)).drewN nq) := below_drewN (hb33.alloc hb33.size _) _
      generalize hW : ((w3.alloc (.cells #[.int .i64 0, .int .i64 z] 27)).drewN nq) = w4 at hb4 hb44 ⊢
      refine (readAt _ _ _ _ _ _ _ _ (T3'.keep hb4) (fun b' o' n' c' e => by simp only [Value.slice.injEq, Option.some.injEq, Addr.mk.injEq] at e; obtain ⟨⟨rfl, _, _⟩, _, _⟩ := e; exact Nat.lt_of_lt_of_le hlt hb4.size) (by omega) m3 (by rw [List.length_take]; omega) h3.out).mono ?_
      rintro e w5 ⟨hb5, a5, c5, rfl⟩
      have hb6 : Below w.heap.size w w5 := hb44.trans (hb5.mono hb44.size)
      clear hW
      obtain ⟨f1, f2⟩ := f
      simp only [Prod.mk.injEq] at h4
      rcases h4 with rfl | ⟨rfl, rfl⟩
      · go_wp2_with fail
        go_ret
        exact ⟨rfl, (hb6.alloc hb6.size _).alloc (by simp; have := hb6.size; omega) _⟩
      · go_wp2_with fail
        go_ret
        exact ⟨rfl, (hb6.alloc hb6.size _).alloc (by simp; have := hb6.size; omega) _⟩
  | all h h1 p h3 =>
    subst h
    have g2 : decide (n < 0) = false := decide_eq_false (by omega)
    have g3 : decide ((ts.length : Int) < n) = false := decide_eq_false (by omega)
    have g4 : decide (n < (ts.length : Int)) = false := decide_eq_false (by omega)
    have g5 : (n == (ts.length : Int)) = true := by simpa using h1
    have g6 : 0 ≤ n := by omega
    have g7 : n ≤ (cap3 : Int) := by omega
    have HH := hid h1
    clear h1
    go_quiet (fail)
    go_wp2_with fail
    have hb4 : Below w3.heap.size w3 ((w3.alloc (.cells #[.int .i64 0, .int .i64 z] 27)).drewN nq) := below_drewN ((Below.refl _ _).alloc (Nat.le_refl _) _) _
    have hb44 : Below w.heap.size w ((w3.alloc (.cells #[.int .i64 0, .int .i64 z] 27)).drewN nq) := below_drewN (hb33.alloc hb33.size _) _
    generalize hW : ((w3.alloc (.cells #[.int .i64 0, .int .i64 z] 27)).drewN nq) = w4 at hb4 hb44 ⊢
    rw [HH.out]
    refine (readAt _ _ _ _ _ _ _ _ (T3.keep hb4) (fun b' o' n' c' e => Nat.lt_of_lt_of_le (ap3 _ _ _ _ e) hb4.size) k3 m3 (by omega) h3.out).mono ?_
    rintro e w5 ⟨hb5, a5, c5, rfl⟩
    have hb6 : Below w.heap.size w w5 := hb44.trans (hb5.mono hb44.size)
    clear hW
    go_wp2_with fail
    all_goals
      go_ret
      exact ⟨rfl, (hb6.alloc hb6.size _).alloc (by simp; have := hb6.size; omega) _⟩
end ParsePlaces
end Go.Proofs.YtkonkdhoakcmdaaDoor
