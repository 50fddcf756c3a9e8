/-
  The walk of the law NumberNext. No conditions but bounds.
-/
import Derived.Test.YtcjmjdgcehmigaaW1
set_option linter.unusedVariables false
set_option linter.unusedSimpArgs false
namespace Go.Proofs.Ytcjmjdgcehmigaa
open Go.RowKit

theorem sub_run1 {w : World} {b o L c i : Nat} {l : List M.Nd} {d : M.Nd} (h : StmAt w NoX (.slice (some ⟨b, o, none⟩) L c) (M.toTr l)) (hd : l[i]? = some d) (hL : l.length = L) (hc : L ≤ c) :
    ∃ a1 c1, (∀ W, (Instr.slice 22 (.slice (some ⟨b, o, none⟩) L c) (some (.int .i64 (i : Int))) (some (.int .i64 ((i : Int) + 1))) none).run Try.prog W = .ok (.slice a1 1 c1) W) ∧ StmAt w NoX (.slice a1 1 c1) (M.toTr [d]) := by
  have hi : i < l.length := (List.getElem?_eq_some_iff.1 hd).1
  obtain ⟨a1, c1, R, S⟩ := sub_run h (i := i) (j := i + 1) (by omega) (by omega) hc
  rw [Nat.add_sub_cancel_left] at R S
  refine ⟨a1, c1, fun W => ?_, ?_⟩
  · have := R W
    rw [show ((i + 1 : Nat) : Int) = (i : Int) + 1 by omega] at this
    exact this
  · have e : (l.drop i).take 1 = [d] := by
      rw [List.drop_eq_getElem_cons hi]
      have : l[i] = d := by simpa [List.getElem?_eq_getElem hi] using hd
      simp [this]
    rw [e] at S; exact S
theorem nodes_cons (d : M.Nd) (r : List M.Nd) : M.nodes (M.toTr (d :: r)) = d :: (M.nodes d.th ++ (M.nodes d.el ++ M.nodes (M.toTr r))) := rfl
theorem nodes_append (l m : List M.Nd) : M.nodes (M.toTr (l ++ m)) = M.nodes (M.toTr l) ++ M.nodes (M.toTr m) := by rw [M.toTr_app, M.nodes_app]
theorem pre_stm {w : World} {b o L c k : Nat} {l : List M.Nd} (h : StmAt w NoX (.slice (some ⟨b, o, none⟩) L c) (M.toTr l)) (hk : k ≤ L) : StmAt w NoX (.slice (some ⟨b, o, none⟩) k c) (M.toTr (l.take k)) := by
  have := sub_stm h (i := 0) (j := k) (Nat.zero_le _) hk
  simpa using this

namespace NumberNext
set_option maxRecDepth 16000 in
set_option maxHeartbeats 8000000 in
theorem walkL (w : World) (va : Option Addr) (vc : Nat) (l : List M.Nd) (n : Int) (hv : StmAt w NoX (.slice va l.length vc) (M.toTr l)) (hN : (M.nodes (M.toTr l)).length ≤ 1048576) (hF : Few 4294967296 (M.toTr l)) :
    Calls Try.prog 7 #[.slice va l.length vc, .int .i64 n] w fun e w' => e = .returned (.bool true) ∧ Below w.heap.size w w' := by
  have hsz : (M.toTr l).sz ≤ 1048576 := by rw [← M.nodes_len]; exact hN
  have hll : l.length ≤ 1048576 := by rw [← M.toTr_len]; exact Nat.le_trans (M.len_le_sz _) hsz
  go_enter Try.func7, Try.ntmps7
  go_wp2_with (go_at_call 8; refine stopHere ?_)
  refine stopAt ?_
  refine (deep_any w _ _ hv (by omega)).mono ?_
  rintro e w1 ⟨rfl, b1⟩
  by_cases hbig : M.big (M.toTr l) = true
  · rw [hbig]
    go_wp2_with (go_at_call 9; refine stopHere ?_)
    refine stopAt ?_
    refine (fixed_any w1).mono ?_
    rintro e w2 ⟨rfl, b2⟩
    go_wp2
    go_ret
    exact ⟨rfl, b1.trans (b2.mono b1.size)⟩
  have hbf : M.big (M.toTr l) = false := by simpa using hbig
  rw [hbf]
  clear hbig hbf
  by_cases hn : 0 ≤ n ∧ n < (l.length : Int)
  case neg =>
    rcases (by omega : n < 0 ∨ (0 ≤ n ∧ (l.length : Int) ≤ n)) with h | ⟨h, h'⟩
    all_goals
      clear hn
      go_wp2_with (go_at_call 9; refine stopHere ?_)
      refine stopAt ?_
      refine (fixed_any w1).mono ?_
      rintro e w2 ⟨rfl, b2⟩
      go_wp2
      go_ret
      exact ⟨rfl, b1.trans (b2.mono b1.size)⟩
  obtain ⟨k, rfl⟩ : ∃ k : Nat, n = (k : Int) := ⟨n.toNat, by omega⟩
  have hk : k < l.length := by omega
  have hki : (k : Int) < (l.length : Int) := by omega
  have hk0 : ¬ (k : Int) < 0 := by omega
  clear hn
  go_wp2_with (go_at_call 17; refine stopHere ?_)
  refine stopAt ?_
  refine (count_any w1 _ _ (hv.bel b1) (by omega)).mono ?_
  rintro e w2 ⟨rfl, b2⟩
  have B2 := b1.trans (b2.mono b1.size)
  by_cases h1000 : 1000 < (M.nodes (M.toTr l)).length
  · have hti : (1000 : Int) < ((M.nodes (M.toTr l)).length : Int) := by omega
    go_wp2_with (go_at_call 9; refine stopHere ?_)
    refine stopAt ?_
    refine (fixed_any w2).mono ?_
    rintro e w3 ⟨rfl, b3⟩
    go_wp2
    go_ret
    exact ⟨rfl, B2.trans (b3.mono B2.size)⟩
  have hti : ¬ (1000 : Int) < ((M.nodes (M.toTr l)).length : Int) := by omega
  obtain ⟨d, hd⟩ : ∃ d, l[k]? = some d := ⟨_, List.getElem?_eq_getElem hk⟩
  have hva := at_stm hv hd
  obtain ⟨gb, go, qa, ma, qp, mp, qt, mt, qe, me, rfl, hgb, hcL, hcM, _, _, _⟩ := hva
  have hkc : (k : Int) ≤ (vc : Int) := by omega
  have hcm : vc ≤ 9223372036854775807 := by unfold maxLen at hcM; omega
  go_wp2_with (go_at_call 17; refine stopHere ?_)
  refine stopAt ?_
  have hsp : l = l.take k ++ d :: l.drop (k + 1) := by
    have h1 : l[k] = d := by simpa [List.getElem?_eq_getElem hk] using hd
    rw [← h1, ← List.drop_eq_getElem_cons hk, List.take_append_drop]
  have hnod : M.nodes (M.toTr l) = M.nodes (M.toTr (l.take k)) ++ d :: (M.nodes d.th ++ (M.nodes d.el ++ M.nodes (M.toTr (l.drop (k + 1))))) := by
    conv => lhs; rw [hsp, nodes_append, nodes_cons]
  obtain ⟨A, hA⟩ : ∃ A : Nat, A = (M.nodes (M.toTr (l.take k))).length := ⟨_, rfl⟩
  obtain ⟨E, hE⟩ : ∃ E : Nat, E = A + 1 + (M.nodes d.th).length + (M.nodes d.el).length := ⟨_, rfl⟩
  obtain ⟨L, hL⟩ : ∃ L : Nat, L = (M.nodes (M.toTr l)).length := ⟨_, rfl⟩
  have hLE : L = E + (M.nodes (M.toTr (l.drop (k + 1)))).length := by
    rw [hL, hnod, hE, hA]; simp only [List.length_append, List.length_cons]; omega
  refine (count_any w2 _ _ (pre_stm (hv.bel B2) (by omega)) (by omega)).mono ?_
  rintro e w3 ⟨rfl, b3⟩
  have B3 := B2.trans (b3.mono B2.size)
  rw [← hA]
  have i4 : A ≤ 1048576 := by omega
  have i5 : E ≤ L := by omega
  have i6 : A < L := by omega
  have i7 : L ≤ 1048576 := by omega
  have HLE := hid hLE
  have HNOD := hid hnod
  have HL := hid hL
  have HE := hid hE
  have HA := hid hA
  have HD := hid hd
  clear hLE hnod hL hE hA hsp hd
  go_wp2_with (go_at_call 12; refine stopHere ?_)
  refine stopAt ?_
  refine (blocks_any w3 _ _ (A : Nat) (hv.bel B3) (by omega)).mono ?_
  rintro e w4 ⟨rfl, b4⟩
  have B4 := B3.trans (b4.mono B3.size)
  have HBL : M.blocks (M.nodes (M.toTr l)) (A : Nat) = ((A : Int) + 1, (A : Int) + 1 + ((M.nodes d.th).length : Nat), ((E : Nat) : Int)) := by
    rw [HA.out, M.blocks_yes HNOD.out, HE.out, ← HA.out]; simp
  rw [HBL]
  clear HBL
  go_wp2_with (go_at_call 16; refine stopHere ?_)
  refine stopAt ?_
  refine (list_any w4 _ _ (hv.bel B4) (by omega) hF).mono ?_
  rintro e w5 ⟨q5, m5, rfl, s5, b5⟩
  have B5 := B4.trans (b5.mono B4.size)
  rw [← HL.out] at s5 ⊢
  have hAd : (M.nodes (M.toTr l))[A]? = some d := by rw [HNOD.out, HA.out]; simp
  obtain ⟨g5, o5, _, _, _, _, _, _, _, _, rfl, hg5, hc5, hm5, _, _, _⟩ := at_stm s5 hAd
  obtain ⟨a1, c1, R1, S1⟩ := sub_run1 s5 hAd HL.out.symm hc5
  obtain ⟨a2, c2, R2, S2⟩ := sub_run1 (hv.bel B5) HD.out rfl hcL
  have X1 : Hid (∀ W, Below w5.heap.size w5 W → Calls Try.prog 15 #[.slice a1 1 c1, .slice a2 1 c2] W fun e w' => e = .returned (.bool true) ∧ Below w5.heap.size w5 w') := fun W hb => (sameU _ W _ _ _ _ (Nat.le_refl _) (S1.bel hb) (S2.bel hb)).mono fun e w' ⟨h1, h3⟩ => ⟨by rw [h1, decide_eq_true rfl], hb.trans (h3.mono hb.size)⟩
  have i1 : ¬ (E : Int) < 0 := by omega
  have i2 : ¬ (L : Int) < (E : Int) := by omega
  have i3 : ¬ (L : Int) ≤ (A : Int) := by omega
  have d1 : decide ((E : Int) < 0) = false := decide_eq_false i1
  have d2 : decide ((L : Int) < (E : Int)) = false := decide_eq_false i2
  have d3 : decide ((L : Int) ≤ (A : Int)) = false := decide_eq_false i3
  have d2' : decide (L < E) = false := decide_eq_false (by omega)
  have d3' : decide (L ≤ A) = false := decide_eq_false (by omega)
  have y1 : IntKind.i64.wrap ((A : Int) + 1) = (A : Int) + 1 := by rw [IntKind.wrap_i64]; omega
  have y2 : IntKind.i64.wrap ((k : Int) + 1) = (k : Int) + 1 := by rw [IntKind.wrap_i64]; omega
  clear hAd b1 b2 b3 b4 B2 B3 b5
  go_wp2_with fail
  go_region_held3 (fun _ => True) (trivial) ((go_at_call 15; with_reducible refine (X1.out _ (Below.refl _ _).drew).mono ?_; rintro e w6 ⟨rfl, C6⟩))
  have B6 := B5.trans (C6.mono B5.size)
  clear X1 R1 R2 S1 S2 d1 d2 d3 d2' d3'
  by_cases hlast : k + 1 = l.length
  · have hli : ((k : Int) + 1 == (l.length : Int)) = true := by simp; omega
    have hEL : ((E : Int) == (L : Int)) = true := by
      have h1 := HLE.out
      rw [List.drop_eq_nil_of_le (by omega)] at h1
      have h2 : (M.nodes (M.toTr [])).length = 0 := rfl
      simp; omega
    clear hlast
    go_wp2_with (go_at_call 9; refine stopHere ?_)
    refine stopAt ?_
    refine (fixed_any w6).mono ?_
    rintro e w7 ⟨rfl, b7⟩
    go_wp2
    go_ret
    exact ⟨ret_bool (by first | rfl | simp [hEL]), B6.trans (b7.mono B6.size)⟩
  · have hli : ((k : Int) + 1 == (l.length : Int)) = false := by simp; omega
    have hk2 : k + 1 < l.length := by omega
    obtain ⟨d', hd'⟩ : ∃ d', l[k + 1]? = some d' := ⟨_, List.getElem?_eq_getElem hk2⟩
    have hC : l.drop (k + 1) = d' :: l.drop (k + 1 + 1) := by
      rw [List.drop_eq_getElem_cons hk2]
      have : l[k + 1] = d' := by simpa [List.getElem?_eq_getElem hk2] using hd'
      rw [this]
    have hE' : (M.nodes (M.toTr l))[E]? = some d' := by
      rw [HNOD.out, hC, nodes_cons, HE.out, HA.out]
      rw [show M.nodes (M.toTr (l.take k)) ++ d :: (M.nodes d.th ++ (M.nodes d.el ++ d' :: (M.nodes d'.th ++ (M.nodes d'.el ++ M.nodes (M.toTr (l.drop (k + 1 + 1))))))) = (M.nodes (M.toTr (l.take k)) ++ d :: (M.nodes d.th ++ M.nodes d.el)) ++ d' :: (M.nodes d'.th ++ (M.nodes d'.el ++ M.nodes (M.toTr (l.drop (k + 1 + 1))))) by simp]
      rw [List.getElem?_append_right (by simp only [List.length_append, List.length_cons]; omega)]
      rw [show (M.nodes (M.toTr (l.take k))).length + 1 + (M.nodes d.th).length + (M.nodes d.el).length - (M.nodes (M.toTr (l.take k)) ++ d :: (M.nodes d.th ++ M.nodes d.el)).length = 0 by simp only [List.length_append, List.length_cons]; omega]
      rfl
    have hEL : E < L := by rw [HL.out]; exact (List.getElem?_eq_some_iff.1 hE').1
    have C56 : Below w5.heap.size w5 w6 := C6
    obtain ⟨a3, c3, R3, S3⟩ := sub_run1 (s5.bel C56) hE' HL.out.symm hc5
    obtain ⟨a4, c4, R4', S4⟩ := sub_run1 (hv.bel B6) hd' rfl hcL
    have R4 : ∀ W, (Instr.slice 22 (.slice (some ⟨gb, go, none⟩) l.length vc) (some (.int .i64 ((k : Int) + 1))) (some (.int .i64 ((k : Int) + 2))) none).run Try.prog W = .ok (.slice a4 1 c4) W := fun W => by
      have := R4' W
      rw [show ((k + 1 : Nat) : Int) = (k : Int) + 1 by omega, show (k : Int) + 1 + 1 = (k : Int) + 2 by omega] at this
      exact this
    have FX : Hid (∀ W, Below w6.heap.size w6 W → Calls Try.prog 9 #[] W fun e w' => e = .returned (.bool true) ∧ Below w6.heap.size w6 w') := fun W hb => (fixed_any W).mono fun e w' ⟨h1, h2⟩ => ⟨h1, hb.trans (h2.mono hb.size)⟩
    have X2 : Hid (∀ W, Below w6.heap.size w6 W → Calls Try.prog 15 #[.slice a3 1 c3, .slice a4 1 c4] W fun e w' => e = .returned (.bool true) ∧ Below w6.heap.size w6 w') := fun W hb => (sameU _ W _ _ _ _ (Nat.le_refl _) (S3.bel hb) (S4.bel hb)).mono fun e w' ⟨h1, h3⟩ => ⟨by rw [h1, decide_eq_true rfl], hb.trans (h3.mono hb.size)⟩
    have d1 : decide ((E : Int) < (L : Int)) = true := decide_eq_true (by omega)
    have d1' : decide (E < L) = true := decide_eq_true hEL
    have y3 : IntKind.i64.wrap ((E : Int) + 1) = (E : Int) + 1 := by rw [IntKind.wrap_i64]; omega
    have y4 : IntKind.i64.wrap ((k : Int) + 2) = (k : Int) + 2 := by rw [IntKind.wrap_i64]; omega
    clear hd' hC hE' hlast S3 S4 R4' C6 C56 s5
    go_wp2_with fail
    go_region_held3 (fun _ => True) (trivial) (first | (go_at_call 9; with_reducible refine (FX.out _ (Below.refl _ _).drew).mono ?_; rintro e w7 ⟨rfl, C7⟩) | (go_at_call 15; with_reducible refine (X2.out _ C7).mono ?_; rintro e w8 ⟨rfl, C8⟩))
    all_goals
      go_wp2_with fail
      go_ret
      exact ⟨ret_bool (by first | rfl | simp), B6.trans (C8.mono B6.size)⟩
theorem walk (w : World) (v : Value) (t : M.Tr) (n : Int) (hv : StmAt w NoX v t) (hN : (M.nodes t).length ≤ 1048576) (hF : Few 4294967296 t) :
    Calls Try.prog 7 #[v, .int .i64 n] w fun e w' => e = .returned (.bool true) ∧ Below w.heap.size w w' := by
  obtain ⟨va, vc, rfl⟩ := StmAt.form hv
  have h := walkL w va vc (M.tops t) n (by rw [M.tops_len, M.toTr_tops]; exact hv) (by rw [M.toTr_tops]; exact hN) (by rw [M.toTr_tops]; exact hF)
  rw [M.tops_len] at h
  exact h
end NumberNext
end Go.Proofs.Ytcjmjdgcehmigaa
