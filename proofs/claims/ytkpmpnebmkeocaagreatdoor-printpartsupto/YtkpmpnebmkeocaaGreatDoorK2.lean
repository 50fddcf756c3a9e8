/-
  The walks of proteanref03.Deep, proteanref03.Big and the law's deep: an answer, whatever it is. No conditions but bounds.
-/
import Derived.Test.YtkpmpnebmkeocaaGreatDoorK1
set_option linter.unusedVariables false
set_option linter.unusedSimpArgs false
namespace Go.Proofs.YtkpmpnebmkeocaaGreatDoor
open Go.RowKit

def DepC (m : Nat) : Prop := ∀ (w : World) (v : Value) (t : M.Tr), StmAt w NoX v t → Calls Tryz.prog 19 #[v, .int .i64 (m : Nat)] w fun e w' => e = .returned (.int .i64 (M.deep t m : Nat)) ∧ ∃ n, w' = w.drewN n
def M.deepOn (q : Nat) (t : M.Tr) (m : Nat) : Nat := max q (M.deep t m)

theorem if_max (q A B : Nat) : (if (q : Int) < 1 + if A < B then (B : Int) else (A : Int) then 1 + if A < B then (B : Int) else (A : Int) else (q : Int)) = ((max q (1 + max A B) : Nat) : Int) := by
  by_cases h : A < B
  · simp only [if_pos h]; split <;> omega
  · simp only [if_neg h]; split <;> omega
theorem rdeep0 : DepC 0 := by
  intro w v t hv
  obtain ⟨cs, ⟨l1, a1, cap1, rfl, g1⟩, row1⟩ := hv
  have hd : M.deep t 0 = 0 := by have := M.deep_le t 0; omega
  have HD := hid hd
  clear hd
  go_enter Tryz.func19, Tryz.ntmps19
  go_wp2_with fail
  go_loop [5, 6] (fun n i => n = .int .i64 0 ∧ i = .int .i64 0) (fun _ _ => 0)
  case atStart => exact ⟨rfl, rfl⟩
  case round =>
    obtain ⟨rfl, rfl⟩ := hrel
    by_cases h0 : (0 : Int) < (t.len : Int)
    · go_wp2_with fail
      go_ret
      exact ⟨ret_int (by rw [HD.out]; rfl), 0, rfl⟩
    · have h0b : ¬ (0 : Int) < (t.len : Int) := h0
      go_wp2_with fail
      go_ret
      exact ⟨ret_int (by rw [HD.out]; rfl), 0, rfl⟩

set_option maxRecDepth 8000 in
set_option maxHeartbeats 2000000 in
theorem rdeep_step (m : Nat) (hm : m < 100) (hC : DepC m) : DepC (m + 1) := by
  intro w v t hv
  obtain ⟨cs, ⟨l1, a1, cap1, rfl, g1⟩, row1⟩ := hv
  go_enter Tryz.func19, Tryz.ntmps19
  go_wp2_with fail
  go_loopw [5, 6] (fun n i wr => ∃ (j : Nat) (t' : M.Tr) (q : Nat), i = .int .i64 j ∧ j + t'.len = t.len ∧ n = .int .i64 (q : Nat) ∧ q ≤ m + 1 ∧ Hid (M.deepOn q t' (m + 1) = M.deep t (m + 1)) ∧ (∃ d, wr = w.drewN d) ∧ RowAt w NoX (cs.drop (j * 8)) t') (fun _ i _ => t.len - (intOf i).toNat)
  case atStart => exact ⟨0, t, 0, rfl, Nat.zero_add _, rfl, Nat.zero_le _, by show max 0 _ = _; omega, ⟨0, rfl⟩, by simpa using row1⟩
  case round =>
    obtain ⟨j, t', q, rfl, hj, rfl, hq, HQ, ⟨d, rfl⟩, r1⟩ := hrel
    by_cases hjl : j < t.len
    · cases t' with
      | nil => simp only [M.Tr.len] at hj; omega
      | cons op x y p a pr th el nx =>
        obtain ⟨va1, vp1, vt1, ve1, ct1, ce1, rest1, e1, gA1, gP1, gT1, gE1, gN1⟩ := r1
        rcases g1 with ⟨g1, _⟩ | ⟨b1, o1, rfl, hlt1, _, hc1⟩
        · omega
        obtain ⟨f0, f1, f2, f3, f4, f5, f6, f7, fr⟩ := eight hc1 e1
        have gT1' : StmAt w NoX vt1 th := ⟨ct1, gT1.1, gT1.2⟩
        have gE1' : StmAt w NoX ve1 el := ⟨ce1, gE1.1, gE1.2⟩
        obtain ⟨q5, m5, rfl⟩ := StmAt.form gT1'
        obtain ⟨q7, m7, rfl⟩ := StmAt.form gE1'
        have hj3 : j + (nx.len + 1) = t.len := hj
        have gT2 := stm_drewN gT1' d
        have gE2 := stm_drewN gE1' d
        replace f6 : (w.drewN d).cell? ⟨b1, o1 + j * 8 + 6, none⟩ = some (.slice q5 th.len m5) := f6
        replace f7 : (w.drewN d).cell? ⟨b1, o1 + j * 8 + 7, none⟩ = some (.slice q7 el.len m7) := f7
        have HW2 : Hid (∃ d', w.drewN d = w.drewN d') := ⟨d, rfl⟩
        clear f0 f1 f2 f3 f4 f5
        generalize w.drewN d = W at f6 f7 gT2 gE2 HW2 ⊢
        have hi1 : ((m + 1 : Nat) : Int) - 1 = (m : Int) := by omega
        have HT : Hid (∀ n, Calls Tryz.prog 19 #[.slice q5 th.len m5, .int .i64 (m : Nat)] (W.drewN n) fun e w' => e = .returned (.int .i64 (M.deep th m : Nat)) ∧ ∃ m, w' = (W.drewN n).drewN m) := fun n => hC _ _ th (stm_drewN gT2 n)
        have HE : Hid (∀ n, Calls Tryz.prog 19 #[.slice q7 el.len m7, .int .i64 (m : Nat)] (W.drewN n) fun e w' => e = .returned (.int .i64 (M.deep el m : Nat)) ∧ ∃ m, w' = (W.drewN n).drewN m) := fun n => hC _ _ el (stm_drewN gE2 n)
        have hd1 := M.deep_le th m
        have hd2 := M.deep_le el m
        have HDN : Hid (M.deepOn (max q (1 + max (M.deep th m) (M.deep el m))) nx (m + 1) = M.deep t (m + 1)) := by
          show max _ _ = _
          rw [← HQ.out]
          show _ = max q (M.deep (.cons op x y p a pr th el nx) (m + 1))
          rw [M.deep, if_neg (by omega), Nat.add_sub_cancel]
          omega
        generalize hA : M.deep th m = A at HT HDN hd1
        generalize hBB : M.deep el m = B at HE HDN hd2
        clear hA hBB
        have hji : (j : Int) < (t.len : Int) := by omega
        have HJ := hid hj3
        clear hj hj3
        go_wp2_with fail
        go_quiet ((first | (go_at_call 19; with_reducible exact Calls.quiet_of (HT.out _)) | (go_at_call 19; with_reducible exact Calls.quiet_of (HE.out _))))
        go_wp2
        have e1 := HJ.out
        refine ⟨⟨j + 1, nx, max q (1 + max A B), by go_num, by omega, by first | rw [if_max] | (congr 1; omega), by omega, HDN, (by obtain ⟨d', e⟩ := HW2.out; rw [e]; exact ⟨_, drewN_drewN _ _ _⟩), by rw [fr]; exact gN1⟩, by simp [intOf]; omega⟩
    · obtain rfl : t' = .nil := len_nil (by omega)
      go_wp2
      go_ret
      have h1 := HQ.out
      have h2 : max q (M.deep .nil (m + 1)) = M.deep t (m + 1) := h1
      rw [M.deep] at h2
      exact ⟨ret_int (by omega), _, rfl⟩
theorem rdeepC : ∀ m, m ≤ 100 → DepC m
  | 0, _ => rdeep0
  | m + 1, h => rdeep_step m (by omega) (rdeepC m (by omega))

def AnyB (e : Ending) : Prop := ∃ b, e = .returned (.bool b)
set_option maxRecDepth 8000 in
set_option maxHeartbeats 2000000 in
theorem rbigP_any (w : World) (v : Value) (p : List M.Fn) (hv : ProgAt w NoX v p) (hN : ∀ f ∈ p, f.body.sz ≤ 4294967296) :
    Calls Tryz.prog 9 #[.agg #[v]] w fun e w' => AnyB e ∧ Below w.heap.size w w' := by
  obtain ⟨cs, hsl, hrow⟩ := hv
  obtain ⟨hl, a1, cap1, rfl, _⟩ := id hsl
  have hbA : Below w.heap.size w (w.alloc (.cells #[.slice a1 p.length cap1] 24)) := (Below.refl _ _).alloc (Nat.le_refl _) _
  have sl1 := hsl.bel hbA
  have row1 := FnsAt.keep (Below.keepX hbA) hrow
  have hbx := heap_alloc_new w (.cells #[.slice a1 p.length cap1] 24)
  go_enter Tryz.func9, Tryz.ntmps9
  go_wp2_with fail
  generalize w.alloc (.cells #[.slice a1 p.length cap1] 24) = W at hbA sl1 row1 hbx ⊢
  have x0 := cell0 hbx
  go_loopw [3, 4] (fun n i wr => (∃ d, wr = W.drewN d) ∧ ∃ (j : Nat) (p' : List M.Fn) (m : Int), i = .int .i64 j ∧ j + p'.length = p.length ∧ n = .int .i64 m ∧ (∀ f ∈ p', f.body.sz ≤ 4294967296) ∧ FnsAt W NoX (cs.drop (j * 3)) p') (fun _ i _ => p.length - (intOf i).toNat)
  case atStart => exact ⟨⟨0, rfl⟩, 0, p, 0, rfl, Nat.zero_add _, rfl, hN, by simpa using row1⟩
  case round =>
    obtain ⟨⟨d, rfl⟩, j, p', m, rfl, hj, rfl, hN', row'⟩ := hrel
    by_cases hjl : j < p.length
    · cases p' with
      | nil => simp only [List.length_nil] at hj; omega
      | cons f nx =>
        obtain ⟨vp1, vb1, rest1, e1, gP1, gB1, gN1⟩ := row'
        have g1 := sl1.2
        obtain ⟨a', cap', e', g1⟩ := g1
        simp only [Value.slice.injEq, true_and] at e'
        obtain ⟨rfl, rfl⟩ := e'
        rcases g1 with ⟨g1, _⟩ | ⟨b1, o1, rfl, hlt1, _, hc1⟩
        · omega
        obtain ⟨f0, f1, f2, fr⟩ := three_cells hc1 e1
        obtain ⟨q3, m3, rfl⟩ := SlAt.form gP1
        obtain ⟨q5, m5, rfl⟩ := StmAt.form gB1
        have hji : (j : Int) < (p.length : Int) := by omega
        have hsz := hN' f (List.mem_cons_self ..)
        have HJ : Hid (j + 1 + nx.length = p.length) := by unfold Hid; simp only [List.length_cons] at hj; omega
        have HN : Hid (∀ g ∈ nx, g.body.sz ≤ 4294967296) := fun g hg => hN' g (List.mem_cons_of_mem _ hg)
        clear hj
        go_wp2_with (go_at_call 19; refine stopHere ?_)
        refine stopAt ?_
        refine (rdeepC 60 (by omega) _ _ f.body (stm_drewN gB1 d)).mono ?_
        rintro e W2 ⟨rfl, d2, rfl⟩
        by_cases h60 : 60 ≤ M.deep f.body 60
        · go_wp2_with fail
          go_ret
          exact ⟨⟨_, rfl⟩, below_drewN hbA _⟩
        · have hlt : M.deep f.body 60 < 60 := by omega
          go_wp2_with fail
          have hv2 := stm_drewN gB1 (d + d2)
          have HW2 : Hid (∃ d', W.drewN (d + d2) = W.drewN d') := ⟨_, rfl⟩
          replace x0 : (W.drewN (d + d2)).cell? ⟨w.heap.size, 0, none⟩ = some (.slice (some ⟨b1, o1, none⟩) p.length cap1) := x0
          replace f1 : (W.drewN (d + d2)).cell? ⟨b1, o1 + j * 3 + 1, none⟩ = some (.slice q3 f.ps.length m3) := f1
          replace f2 : (W.drewN (d + d2)).cell? ⟨b1, o1 + j * 3 + 2, none⟩ = some (.slice q5 f.body.len m5) := f2
          clear f0 h60 hlt
          generalize W.drewN (d + d2) = V at hv2 HW2 x0 f1 f2 ⊢
          have HC : Hid (∀ n, Calls Tryz.prog 20 #[.slice q5 f.body.len m5] (V.drewN n) fun e w' => e = .returned (.int .i64 (f.body.sz : Nat)) ∧ ∃ m, w' = (V.drewN n).drewN m) := fun n => rcount_any _ _ f.body hsz (stm_drewN hv2 n)
          go_quiet ((go_at_call 20; with_reducible exact Calls.quiet_of (HC.out _)))
          go_wp2
          refine ⟨⟨(by obtain ⟨d', e⟩ := HW2.out; rw [e]; exact ⟨_, drewN_drewN _ _ _⟩), j + 1, nx, _, by go_num, HJ.out, rfl, HN.out, by rw [fr]; exact gN1⟩, by simp [intOf]; omega⟩
    · have hjn : ¬ (j : Int) < (p.length : Int) := by omega
      by_cases h3 : (3000 : Int) < m
      · go_wp2
        go_ret
        exact ⟨⟨_, rfl⟩, below_drewN hbA _⟩
      · by_cases h4 : (1000 : Int) < (p.length : Int)
        · go_wp2
          go_ret
          exact ⟨⟨_, rfl⟩, below_drewN hbA _⟩
        · go_wp2
          go_ret
          exact ⟨⟨_, rfl⟩, below_drewN hbA _⟩
end Go.Proofs.YtkpmpnebmkeocaaGreatDoor
