/-
  The walk of the document's List. No conditions but bounds.
-/
import Derived.Test.YtcjmjdgcehmigaaW3
set_option linter.unusedVariables false
set_option linter.unusedSimpArgs false
namespace Go.Proofs.Ytcjmjdgcehmigaa
open Go.RowKit

/-- what the document's List answers of statements of at most that size, whose memory is w0's -/
def RLC (k : Nat) : Prop := ∀ (w0 w : World) (v : Value) (t : M.Tr), t.sz ≤ k → t.sz ≤ 1048576 → Below w0.heap.size w0 w → StmAt w0 NoX v t → Calls Try.prog 14 #[v] w fun e w' => ∃ q m cells, e = .returned (.slice q (M.nodes t).length m) ∧ SlAt w' NoX (.slice q (M.nodes t).length m) (M.nodes t).length cells ∧ RowAt w0 NoX cells (M.toTr (M.nodes t)) ∧ Below w.heap.size w w'
theorem new8 (w : World) (c0 c1 c2 c3 c4 c5 c6 c7 : Value) : SlAt (w.alloc (.cells #[c0, c1, c2, c3, c4, c5, c6, c7] 36)) NoX (.slice (some ⟨w.heap.size, 0, none⟩) 1 1) 1 [c0, c1, c2, c3, c4, c5, c6, c7] := by
  refine ⟨by omega, _, _, rfl, .inr ⟨w.heap.size, 0, rfl, by simp, ⟨fun h => h, by omega, by simp [maxLen]⟩, fun i u hu => ?_⟩⟩
  rw [Lib.cell_of_heap (heap_alloc_new w _), Nat.zero_add]
  simpa using hu

set_option maxRecDepth 16000 in
set_option maxHeartbeats 4000000 in
theorem rlist_step (k : Nat) (hC : RLC k) : RLC (k + 1) := by
  intro w0 w v t hk hN hw hv
  obtain ⟨cs, ⟨l1, a1, cap1, rfl, g1⟩, row1⟩ := hv
  have hlen : t.len ≤ t.sz := M.len_le_sz t
  have hrow0 := World.ownsRow_lit (base := w.heap.size) (e := 36) (size := 8) w #[] 0 (Nat.le_refl _) (by simp [maxLen]) (by simp)
  have bA : Below w.heap.size w (w.alloc (.cells #[] 36)) := (Below.refl _ _).alloc (Nat.le_refl _) _
  go_enter Try.func14, Try.ntmps14
  go_wp2_with fail
  go_loopw [3, 4] (fun out i wr => ∃ (j : Nat) (t1 t2 : M.Tr) (a : Option Addr) (cap : Nat) (cells : List Value), i = .int .i64 j ∧ t1.len = j ∧ j + t2.len = t.len ∧ Hid (t = t1.app t2) ∧ out = .slice a (M.nodes t1).length cap ∧ wr.ownsRow w.heap.size 36 8 (.slice a (M.nodes t1).length cap) (M.nodes t1).length cells ∧ RowAt w0 NoX cells (M.toTr (M.nodes t1)) ∧ RowAt w0 NoX (cs.drop (j * 8)) t2 ∧ Below w.heap.size w wr) (fun _ i _ => t.len - (intOf i).toNat)
  case atStart => exact ⟨0, .nil, t, _, _, [], rfl, rfl, Nat.zero_add _, rfl, rfl, by simpa [M.nodes] using hrow0, rfl, by simpa using row1, bA⟩
  case round =>
    obtain ⟨j, t1, t2, a, cap, cells, rfl, hj1, hj2, HT, rfl, ho, r1, r2, hB⟩ := hrel
    have hsz : t1.sz + t2.sz ≤ 1048576 ∧ t1.sz + t2.sz ≤ k + 1 := by
      have h1 := hN
      have h2 := hk
      rw [HT.out, M.app_sz] at h1 h2
      exact ⟨h1, h2⟩
    have hn1 := M.nodes_len t1
    by_cases hjl : j < t.len
    · cases t2 with
      | nil => simp only [M.Tr.len] at hj2; omega
      | cons op x y p aa pr th el nx =>
        obtain ⟨va1, vp1, vt1, ve1, ct1, ce1, rest1, e1, gA1, gP1, gT1, gE1, gN1⟩ := r2
        rcases g1 with ⟨g1, _⟩ | ⟨b1, o1, rfl, hlt1, _, hc1⟩
        · omega
        obtain ⟨f0, f1, f2, f3, f4, f5, f6, f7, fr⟩ := eight hc1 e1
        have hWr := hw.trans (hB.mono hw.size)
        have hbc := fun (o : Nat) => hWr.cell (p := ⟨b1, o, none⟩) hlt1
        rw [← hbc] at f0 f1 f2 f3 f4 f5 f6 f7
        have gT1' : StmAt w0 NoX vt1 th := ⟨ct1, gT1.1, gT1.2⟩
        have gE1' : StmAt w0 NoX ve1 el := ⟨ce1, gE1.1, gE1.2⟩
        obtain ⟨q1, m1, rfl⟩ := SlAt.form gA1
        obtain ⟨q3, m3, rfl⟩ := SlAt.form gP1
        obtain ⟨q5, m5, rfl⟩ := StmAt.form gT1'
        obtain ⟨q7, m7, rfl⟩ := StmAt.form gE1'
        simp only [M.Tr.sz] at hsz
        simp only [M.Tr.len] at hj2
        have hji : (j : Int) < (t.len : Int) := by omega
        have HJ := hid hj2
        have HJ1 := hid hj1
        have hb1w : b1 < wr.heap.size := Nat.lt_of_lt_of_le hlt1 hWr.size
        clear hj1 hj2 hbc
        obtain ⟨n1, hn1e⟩ : ∃ n1, n1 = (M.nodes t1).length := ⟨_, rfl⟩
        rw [← hn1e] at ho hn1 ⊢
        have HN1 := hid hn1e
        clear hn1e
        have hnb : n1 ≤ t1.sz := by omega
        clear hn1
        go_wp2_with (at_builtin; refine stopHere ?_)
        refine stopAt ?_
        refine wpList_append_stmts rfl _ _ rfl w.heap.size (.slice a n1 cap) n1 cells rfl (ho.alloc _) _ 1 _ rfl (new8 wr _ _ _ _ _ _ _ _) rfl (by simp [Value.oneCell']) (by omega) (by have := hB.size; simp; omega) ?_
        intro a2 c2 w2 ho2 hg2
        have bw2 : Below w.heap.size w w2 := (hB.alloc hB.size _).grown hg2 (by have := hB.size; simp; omega) (fun k e => (ho.lt k e).1)
        have W2 := hw.trans (bw2.mono hw.size)
        have g6 : w2.cell? ⟨b1, o1 + j * 8 + 6, none⟩ = some (.slice q5 th.len m5) := by
          rw [W2.cell (p := ⟨b1, _, none⟩) hlt1, ← hWr.cell (p := ⟨b1, _, none⟩) hlt1]; exact f6
        clear f0 f1 f2 f3 f4 f5 f6
        go_wp2_with (go_at_call 14; refine stopHere ?_)
        refine stopAt ?_
        refine (hC w0 w2 _ th (by omega) (by omega) W2 gT1').mono ?_
        rintro e w3 ⟨qt, mt, ct, rfl, st, rt, b3⟩
        have bw3 := bw2.trans (b3.mono bw2.size)
        have ho3 := ho2.kept (row := none) ⟨b3.os, b3.tape, b3.output, b3.size, fun k hk _ => b3.block k hk⟩ (by cases h : (Value.slice a2 (n1 + 1) c2).ownBlock <;> simp)
        have hnt : (M.nodes th).length ≤ th.sz := Nat.le_of_eq (M.nodes_len th)
        have hne : (M.nodes el).length ≤ el.sz := Nat.le_of_eq (M.nodes_len el)
        have ot := row_one rt
        rw [M.toTr_len] at ot
        go_wp2_with (at_builtin; refine stopHere ?_)
        refine stopAt ?_
        refine wpList_append_stmts rfl _ _ rfl w.heap.size (.slice a2 (n1 + 1) c2) (n1 + 1) _ rfl ho3 _ (M.nodes th).length ct rfl st ot.1 ot.2 (by omega) bw3.size ?_
        intro a4 c4 w4 ho4 hg4
        have bw4 : Below w.heap.size w w4 := bw3.grown hg4 bw3.size (fun k e => (ho3.lt k e).1)
        have W4 := hw.trans (bw4.mono hw.size)
        have g7 : w4.cell? ⟨b1, o1 + j * 8 + 7, none⟩ = some (.slice q7 el.len m7) := by
          rw [W4.cell (p := ⟨b1, _, none⟩) hlt1, ← hWr.cell (p := ⟨b1, _, none⟩) hlt1]; exact f7
        clear f7 g6
        go_wp2_with (go_at_call 14; refine stopHere ?_)
        refine stopAt ?_
        refine (hC w0 w4 _ el (by omega) (by omega) W4 gE1').mono ?_
        rintro e w5 ⟨qe, me, ce, rfl, se, re, b5⟩
        have bw5 := bw4.trans (b5.mono bw4.size)
        have ho5 := ho4.kept (row := none) ⟨b5.os, b5.tape, b5.output, b5.size, fun k hk _ => b5.block k hk⟩ (by cases h : (Value.slice a4 (n1 + 1 + (M.nodes th).length) c4).ownBlock <;> simp)
        have oe := row_one re
        rw [M.toTr_len] at oe
        go_wp2_with (at_builtin; refine stopHere ?_)
        refine stopAt ?_
        refine wpList_append_stmts rfl _ _ rfl w.heap.size (.slice a4 (n1 + 1 + (M.nodes th).length) c4) (n1 + 1 + (M.nodes th).length) _ rfl ho5 _ (M.nodes el).length ce rfl se oe.1 oe.2 (by omega) bw5.size ?_
        intro a6 c6 w6 ho6 hg6
        have bw6 : Below w.heap.size w w6 := bw5.grown hg6 bw5.size (fun k e => (ho5.lt k e).1)
        go_wp2
        have e1 := HJ.out
        have e2 := HJ1.out
        have hnodes : M.nodes (t1.app (M.one op x y p aa pr th el)) = M.nodes t1 ++ ([⟨op, x, y, p, aa, pr, th, el⟩] ++ (M.nodes th ++ M.nodes el)) := by
          rw [M.nodes_app]; simp [M.one, M.nodes]
        have hnl : (M.nodes (t1.app (M.one op x y p aa pr th el))).length = n1 + 1 + (M.nodes th).length + (M.nodes el).length := by
          rw [hnodes, HN1.out]; simp only [List.length_append, List.length_cons, List.length_nil]; omega
        refine ⟨⟨j + 1, t1.app (M.one op x y p aa pr th el), nx, a6, c6, _, by go_num, by rw [M.app_len]; simp [M.one, M.Tr.len]; omega, by omega, ?_, by rw [hnl], by rw [hnl]; exact ho6, ?_, by rw [fr]; exact gN1, bw6⟩, by simp [intOf]; omega⟩
        · show t = _
          rw [HT.out, M.app_assoc]; rfl
        · rw [hnodes, M.toTr_app, M.toTr_app, M.toTr_app, List.append_assoc, List.append_assoc]
          refine RowAt.app r1 ?_
          refine RowAt.app ?_ (RowAt.app rt re)
          exact RowAt.one gA1 gP1 gT1' gE1'
    · obtain rfl : t2 = .nil := len_nil (by omega)
      have e1 := HT.out
      rw [M.app_nil] at e1
      subst e1
      go_wp2
      go_ret
      exact ⟨_, _, cells, rfl, SlAt.of_owns ho (fun b _ h => h) (by omega), r1, hB⟩
end Go.Proofs.Ytcjmjdgcehmigaa
