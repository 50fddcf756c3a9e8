/-
  The walks of the document's Norm, May, Union and Rename of atoms. Conditions: lists of at most 100000 atoms.
-/
import Derived.Test.YtbaaeobdjiglgaaGreatR2
set_option linter.unusedVariables false
set_option linter.unusedSimpArgs false
namespace Go.Proofs.YtbaaeobdjiglgaaGreat
open Go.RowKit Go.Sort

theorem fold_step {l acc : List M.Atm} {j : Nat} (h : j < l.length) : (l.take (j + 1)).foldl M.add acc = M.add ((l.take j).foldl M.add acc) l[j] := by
  rw [List.take_succ_eq_append_getElem h, List.foldl_append]; rfl
theorem fold_len (l acc : List M.Atm) (h : M.Rising acc) : (l.foldl M.add acc).length ≤ acc.length + l.length := (M.fold_norm l acc h).2.2

set_option maxHeartbeats 1000000 in
theorem rnorm_new (w : World) (v : Value) (l : List M.Atm) (h : AtAt w v l) (hn : l.length ≤ 100000) :
    Calls Tryz.prog 63 #[v] w fun e w' => ∃ v', e = .returned v' ∧ AtAt w' v' (M.norm l) ∧ Below w.heap.size w w' ∧ ∀ k, v'.ownBlock = some k → w.heap.size ≤ k := by
  obtain ⟨r1, a1, cp, rfl, g1⟩ := h
  have HC1 : Hid (l ≠ [] → ∃ b o, a1 = some ⟨b, o, none⟩ ∧ b < w.heap.size ∧ ∀ i (h : i < l.length), w.cell? ⟨b, o + i * 2, none⟩ = some (.int .i64 l[i].k) ∧ w.cell? ⟨b, o + i * 2 + 1, none⟩ = some (.int .i64 l[i].n)) := by
    intro hne
    rcases g1 with h | ⟨b, o, h1, h2, _, h3⟩
    · exact absurd h hne
    · exact ⟨b, o, h1, h2, h3⟩
  have R1 := hid r1
  clear g1 r1
  go_enter Tryz.func63, Tryz.ntmps63
  go_wp2
  go_loopw [4, 3] (fun i u w' => ∃ (j : Nat) (acc : List M.Atm), j ≤ l.length ∧ i = .int .i64 j ∧ acc.length ≤ l.length ∧ Hid (acc = (l.take j).foldl M.add []) ∧ Hid (AtAt w' u acc) ∧ Hid (Below w.heap.size w w') ∧ Hid (∀ k, u.ownBlock = some k → w.heap.size ≤ k)) (fun i _ _ => l.length - (intOf i).toNat)
  case atStart => exact ⟨0, [], Nat.zero_le _, rfl, Nat.zero_le _, rfl, (RowA.new w w.heap.size (Nat.le_refl _)).at (by simp), (Below.refl _ _).alloc (Nat.le_refl _) _, fun k e => by cases e; exact Nat.le_refl _⟩
  case round =>
    obtain ⟨j, acc, hj, rfl, hal, hacc, hT, hbel, hnk⟩ := hrel
    obtain ⟨q5, m5, rfl⟩ := hT.out.form
    by_cases hjl : j < l.length
    · obtain ⟨b, o, rfl, hlt, hc⟩ := HC1.out (by intro e; rw [e] at hjl; simp at hjl)
      obtain ⟨c1, c2⟩ := hc j hjl
      rw [← hbel.out.cell (p := ⟨b, o + j * 2, none⟩) hlt] at c1
      rw [← hbel.out.cell (p := ⟨b, o + j * 2 + 1, none⟩) hlt] at c2
      have HR := R1.out _ (List.getElem_mem hjl)
      obtain ⟨x, hx⟩ : ∃ x, l[j] = x := ⟨_, rfl⟩
      rw [hx] at c1 c2 HR
      have HX := hid hx
      clear hx hc
      have K1 := hid (add_new wr _ acc x hT.out (by omega) HR)
      unfold av at K1
      go_wp2_with (go_at_call 68; refine stopHere ?_)
      refine stopAt ?_
      refine K1.out.mono ?_
      rintro e w3 ⟨v3, rfl, hA3, hb3, hk3⟩
      have hAA := hid hA3
      have hkk : Hid (∀ k, v3.ownBlock = some k → w.heap.size ≤ k) := fun k e => by
        rcases hk3 with h | h
        · rw [h] at e; exact hnk.out k e
        · exact Nat.le_trans hbel.out.size (h k e)
      obtain ⟨q6, m6, rfl⟩ := hA3.form
      clear hA3 hk3
      go_wp2
      have hst : Hid (M.add acc x = (l.take (j + 1)).foldl M.add []) := by unfold Hid; rw [fold_step hjl, ← hacc.out, HX.out]
      refine ⟨⟨j + 1, M.add acc x, by omega, by go_num, ?_, hst, hAA, hbel.out.trans (hb3.mono hbel.out.size), hkk⟩, by simp [intOf]; omega⟩
      rw [hst.out]
      have := fold_len (l.take (j + 1)) [] List.Pairwise.nil
      simp at this
      omega
    · go_wp2
      go_ret
      have := hacc.out
      rw [List.take_of_length_le (by omega)] at this
      have hT2 := hT.out
      rw [this] at hT2
      refine ⟨_, rfl, ?_, hbel.out, hnk.out⟩
      rw [this]
      exact hT2

theorem rnorm_any (w : World) (v : Value) (l : List M.Atm) (h : AtAt w v l) (hn : l.length ≤ 100000) :
    Calls Tryz.prog 63 #[v] w fun e w' => ∃ v', e = .returned v' ∧ AtAt w' v' (M.norm l) ∧ Below w.heap.size w w' :=
  (rnorm_new w v l h hn).mono fun e w' ⟨v', h1, h2, h3, _⟩ => ⟨v', h1, h2, h3⟩

set_option maxHeartbeats 1000000 in
theorem rmay_any (w : World) (v : Value) (l : List M.Atm) (h : AtAt w v l) (hn : l.length ≤ 100000) :
    Calls Tryz.prog 44 #[v] w fun e w' => e = .returned (.bool (M.mayL l)) ∧ Below w.heap.size w w' := by
  have T0 := hid h
  obtain ⟨a, cap, rfl⟩ := h.form
  clear h
  go_enter Tryz.func44, Tryz.ntmps44
  go_wp2_with (go_at_call 63; refine stopHere ?_)
  refine stopAt ?_
  refine (rnorm_any w _ l T0.out hn).mono ?_
  rintro e w1 ⟨v1, rfl, hA1, hb1⟩
  have T1 := hid hA1
  obtain ⟨q1, m1, rfl⟩ := hA1.form
  have T2 := hid (T0.out.bel hb1)
  clear hA1
  go_wp2_with (go_at_call 23; refine stopHere ?_)
  refine stopAt ?_
  refine (same_any w1 _ _ l (M.norm l) T2.out T1.out (by omega)).mono ?_
  rintro e w2 ⟨rfl, hb2⟩
  go_wp2
  go_ret
  exact ⟨rfl, hb1.trans (hb2.mono hb1.size)⟩

set_option maxHeartbeats 1000000 in
theorem runion_any (w : World) (va vb : Value) (la lb : List M.Atm) (ha : AtAt w va la) (hb : AtAt w vb lb) (na : la.length ≤ 100000) (nb : lb.length ≤ 100000) :
    Calls Tryz.prog 49 #[va, vb] w fun e w' => ∃ v', e = .returned v' ∧ AtAt w' v' (M.norm (la ++ lb)) ∧ Below w.heap.size w w' := by
  have TA := hid ha
  obtain ⟨a0, c0, rfl⟩ := ha.form
  clear ha
  obtain ⟨r1, a1, cp, rfl, g1⟩ := hb
  have HC1 : Hid (lb ≠ [] → ∃ b o, a1 = some ⟨b, o, none⟩ ∧ b < w.heap.size ∧ ∀ i (h : i < lb.length), w.cell? ⟨b, o + i * 2, none⟩ = some (.int .i64 lb[i].k) ∧ w.cell? ⟨b, o + i * 2 + 1, none⟩ = some (.int .i64 lb[i].n)) := by
    intro hne
    rcases g1 with h | ⟨b, o, h1, h2, _, h3⟩
    · exact absurd h hne
    · exact ⟨b, o, h1, h2, h3⟩
  have R1 := hid r1
  clear g1 r1
  go_enter Tryz.func49, Tryz.ntmps49
  go_wp2_with (go_at_call 63; refine stopHere ?_)
  refine stopAt ?_
  refine (rnorm_any w _ la TA.out na).mono ?_
  rintro e w1 ⟨v1, rfl, hA1, hb1⟩
  have T1 := hid hA1
  have B1 := hid hb1
  obtain ⟨q1, m1, rfl⟩ := hA1.form
  have hnl := M.norm_length la
  clear hA1 hb1
  go_wp2
  go_loopw [6, 5] (fun i u w' => ∃ (j : Nat) (acc : List M.Atm), j ≤ lb.length ∧ i = .int .i64 j ∧ acc.length ≤ la.length + lb.length ∧ Hid (acc = (lb.take j).foldl M.add (M.norm la)) ∧ Hid (AtAt w' u acc) ∧ Hid (Below w.heap.size w w')) (fun i _ _ => lb.length - (intOf i).toNat)
  case atStart => exact ⟨0, M.norm la, Nat.zero_le _, rfl, by omega, rfl, T1, B1⟩
  case round =>
    obtain ⟨j, acc, hj, rfl, hal, hacc, hT, hbel⟩ := hrel
    obtain ⟨q5, m5, rfl⟩ := hT.out.form
    by_cases hjl : j < lb.length
    · obtain ⟨b, o, rfl, hlt, hc⟩ := HC1.out (by intro e; rw [e] at hjl; simp at hjl)
      obtain ⟨c1, c2⟩ := hc j hjl
      rw [← hbel.out.cell (p := ⟨b, o + j * 2, none⟩) hlt] at c1
      rw [← hbel.out.cell (p := ⟨b, o + j * 2 + 1, none⟩) hlt] at c2
      have HR := R1.out _ (List.getElem_mem hjl)
      obtain ⟨x, hx⟩ : ∃ x, lb[j] = x := ⟨_, rfl⟩
      rw [hx] at c1 c2 HR
      have HX := hid hx
      clear hx hc
      have K1 := hid (add_any wr _ acc x hT.out (by omega) HR)
      unfold av at K1
      go_wp2_with (go_at_call 68; refine stopHere ?_)
      refine stopAt ?_
      refine K1.out.mono ?_
      rintro e w3 ⟨v3, rfl, hA3, hb3⟩
      have hAA := hid hA3
      obtain ⟨q6, m6, rfl⟩ := hA3.form
      clear hA3
      go_wp2
      have hst : Hid (M.add acc x = (lb.take (j + 1)).foldl M.add (M.norm la)) := by unfold Hid; rw [fold_step hjl, ← hacc.out, HX.out]
      refine ⟨⟨j + 1, M.add acc x, by omega, by go_num, ?_, hst, hAA, hbel.out.trans (hb3.mono hbel.out.size)⟩, by simp [intOf]; omega⟩
      rw [hst.out]
      have := fold_len (lb.take (j + 1)) (M.norm la) (M.norm_rising la)
      rw [List.length_take] at this
      omega
    · go_wp2
      go_ret
      have := hacc.out
      rw [List.take_of_length_le (by omega), ← M.norm_append] at this
      have hT2 := hT.out
      rw [this] at hT2
      refine ⟨_, rfl, ?_, hbel.out⟩
      rw [this]
      exact hT2
end Go.Proofs.YtbaaeobdjiglgaaGreat
