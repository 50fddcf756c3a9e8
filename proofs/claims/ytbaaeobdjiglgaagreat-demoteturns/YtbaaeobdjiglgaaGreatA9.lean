/-
  The walks of atoms.Within, Has and Rename. Conditions: lists of at most 100000 atoms.
-/
import Derived.Test.YtbaaeobdjiglgaaGreatA8
set_option linter.unusedVariables false
set_option linter.unusedSimpArgs false
namespace Go.Proofs.YtbaaeobdjiglgaaGreat
open Go.RowKit Go.Sort

/-- the first j of l renamed -/
def renTo (l : List M.Atm) (s : Int) (j : Nat) : Nat → M.Atm := fun i => if i < j then M.ren s (l.getD i ⟨0, 0⟩) else l.getD i ⟨0, 0⟩
theorem renTo_map (l : List M.Atm) (s : Int) : (List.range l.length).map (renTo l s l.length) = l.map (M.ren s) := by
  apply List.ext_getElem
  · simp
  · intro i h1 h2
    simp at h1 h2 ⊢
    unfold renTo
    rw [if_pos h1]
    simp [List.getD, h1]
theorem CellsF.congr {W : World} {g o n : Nat} {f h : Nat → M.Atm} (hc : CellsF W g o n f) (he : ∀ i, i < n → f i = h i) : CellsF W g o n h := fun i hi => by rw [← he i hi]; exact hc i hi
theorem CellsF.kind {W : World} {g o n K : Nat} {f : Nat → M.Atm} (h : CellsF W g o n f) (hK : K < n) (z : Int) :
    CellsF (W.setCell ⟨g, o + K * 2, none⟩ (.int .i64 z)) g o n (upd f K ⟨z, (f K).n⟩) := by
  intro i hi
  obtain ⟨c1, c2, c3, c4⟩ := h i hi
  refine ⟨?_, ?_, by rw [World.frozen?_setCell]; exact c3, by rw [World.frozen?_setCell]; exact c4⟩
  · unfold upd
    by_cases e : i = K
    · subst e
      rw [if_pos rfl]; exact World.cell?_setCell_same _ _ _ c1
    · rw [if_neg e, World.cell?_setCell_other _ _ _ _ (by simp <;> omega)]; exact c1
  · rw [World.cell?_setCell_other _ _ _ _ (by simp <;> omega)]
    unfold upd
    by_cases e : i = K
    · subst e
      rw [if_pos rfl]; exact c2
    · rw [if_neg e]; exact c2
theorem CellsF.bel {W W' : World} {g o n : Nat} {f : Nat → M.Atm} (h : CellsF W g o n f) (hg : g < W.heap.size) (hb : Below W.heap.size W W') : CellsF W' g o n f := by
  intro i hi
  obtain ⟨c1, c2, c3, c4⟩ := h i hi
  refine ⟨?_, ?_, ?_, ?_⟩
  · rw [hb.cell (p := ⟨g, o + i * 2, none⟩) hg]; exact c1
  · rw [hb.cell (p := ⟨g, o + i * 2 + 1, none⟩) hg]; exact c2
  · rw [hb.frozen (p := ⟨g, o + i * 2, none⟩) hg]; exact c3
  · rw [hb.frozen (p := ⟨g, o + i * 2 + 1, none⟩) hg]; exact c4
theorem renTo_step {l : List M.Atm} {s : Int} {j : Nat} (hj : j < l.length) (h : M.ren s l[j] = l[j]) : ∀ i, renTo l s j i = renTo l s (j + 1) i := by
  intro i
  unfold renTo
  by_cases e : i = j
  · subst e
    rw [if_neg (by omega), if_pos (by omega)]
    have : l.getD i ⟨0, 0⟩ = l[i] := by simp [List.getD, hj]
    rw [this, h]
  · by_cases h1 : i < j
    · rw [if_pos h1, if_pos (by omega)]
    · rw [if_neg h1, if_neg (by omega)]
theorem renTo_put {l : List M.Atm} {s : Int} {j : Nat} (hj : j < l.length) (h : l[j].k = 4 ∧ l[j].n = s) : ∀ i, upd (renTo l s j) j ⟨5, (renTo l s j j).n⟩ i = renTo l s (j + 1) i := by
  intro i
  have hd : l.getD j ⟨0, 0⟩ = l[j] := by simp [List.getD, hj]
  unfold upd renTo
  by_cases e : i = j
  · subst e
    rw [if_pos rfl, if_neg (by omega), if_pos (by omega), hd]
    unfold M.ren
    rw [if_pos h]
  · rw [if_neg e]
    by_cases h1 : i < j
    · rw [if_pos h1, if_pos (by omega)]
    · rw [if_neg h1, if_neg (by omega)]
set_option maxHeartbeats 2000000 in
set_option maxRecDepth 100000 in
theorem rename_new (w : World) (va : Value) (la : List M.Atm) (s : Int) (ha : AtAt w va la) (na : la.length ≤ 100000) :
    Calls Tryz.prog 55 #[va, .int .i64 s] w fun e w' => ∃ v, e = .returned v ∧ AtAt w' v (M.rename la s) ∧ Fresh w.heap.size v ∧ Below w.heap.size w w' := by
  have K0 := hid (clone_any w va la ha (by omega))
  have RA := hid ha.1
  obtain ⟨a1, c1, rfl⟩ := ha.form
  clear ha
  go_enter Tryz.func55, Tryz.ntmps55
  go_wp2_with (first | (go_at_call 75; refine stopHere ?_))
  refine stopAt ?_
  refine K0.out.mono ?_
  rintro e w1 ⟨v1, rfl, hown1, hb1⟩
  have hbw1 := hid hb1
  rcases owns_form hown1 with ⟨rfl, h0⟩ | ⟨g, cap, rfl⟩
  · have hl0 : la = [] := List.length_eq_zero_iff.1 h0
    subst hl0
    have K1 := hid (norm_new w1 (.slice none 0 0) [] ⟨by simp, none, 0, rfl, .inl rfl⟩ (by simp))
    clear hown1 hb1
    go_wp2
    go_loopw [11] (fun i w' => i = .int .i64 0 ∧ w' = w1) (fun _ _ => 0)
    case atStart => exact ⟨rfl, rfl⟩
    case round =>
      obtain ⟨rfl, rfl⟩ := hrel
      go_wp2_with (first | (go_at_call 67; refine stopHere ?_))
      refine stopAt ?_
      refine K1.out.mono ?_
      rintro e w3 ⟨v3, rfl, hA, hF, hb3⟩
      have hAA := hid hA
      have hFF := hid hF
      obtain ⟨q, m, rfl⟩ := hA.form
      clear hA hF
      go_wp2
      go_ret
      exact ⟨_, rfl, hAA.out, hFF.out.mono hbw1.out.size, hbw1.out.trans (hb3.mono hbw1.out.size)⟩
  · obtain ⟨hOA, hgb, _⟩ := OwnA.of_owns hown1
    have hOF := hid hOA.cellsF
    have hcm : la.length ≤ cap ∧ cap ≤ maxLen := by obtain ⟨cur, _, h2, h3, _⟩ := hOA; exact ⟨h2, h3⟩
    have hg1 : g < w1.heap.size := by obtain ⟨cur, h1, _⟩ := hOA; exact (Array.getElem?_eq_some_iff.1 h1).1
    clear hOA hown1 hb1
    go_wp2
    go_loopw [11] (fun i w' => ∃ j : Nat, j ≤ la.length ∧ i = .int .i64 j ∧ Hid (CellsF w' g 0 la.length (renTo la s j)) ∧ Hid (g < w'.heap.size) ∧ Hid (Below w.heap.size w w')) (fun i _ => la.length - (intOf i).toNat)
    case atStart => exact ⟨0, Nat.zero_le _, rfl, hOF.out.congr (fun i _ => by unfold renTo; rw [if_neg (Nat.not_lt_zero _)]), hg1, hbw1⟩
    case round =>
      obtain ⟨j, hj, rfl, hCF, hgs, hbel⟩ := hrel
      by_cases hjl : j < la.length
      · obtain ⟨c1, c2, c3, _⟩ := hCF.out j hjl
        have hgs' := hgs.out
        have hx : renTo la s j j = la[j] := by unfold renTo; rw [if_neg (Nat.lt_irrefl _)]; simp [List.getD, hjl]
        rw [hx] at c1 c2
        simp only [Nat.zero_add] at c1 c2 c3
        obtain ⟨x, hx2⟩ : ∃ x, la[j] = x := ⟨_, rfl⟩
        rw [hx2] at c1 c2
        have HX := hid hx2
        clear hx hx2
        have hCF1 := hid (hCF.out.bel hgs.out ((Gr.refl wr).alloc (.cells #[.int .i64 x.k, .int .i64 x.n] 34)).below)
        have hb1 := hid (hbel.out.alloc hbel.out.size (.cells #[.int .i64 x.k, .int .i64 x.n] 34))
        have hgs1 : Hid (g < (wr.alloc (.cells #[.int .i64 x.k, .int .i64 x.n] 34)).heap.size) := by unfold Hid; simp; omega
        by_cases h4 : x.k = 4
        · by_cases hs : x.n = s
          · have HH : Hid (x.k = 4 ∧ x.n = s) := ⟨h4, hs⟩
            have hd1 : (x.k == 4) = true := by simp [h4]
            have hd2 : (x.n == s) = true := by simp [hs]
            clear h4 hs
            go_wp2
            have hsz : (wr.setCell ⟨g, j * 2, none⟩ (.int .i64 5)).heap.size = wr.heap.size := by simp [World.setCell]
            refine ⟨⟨j + 1, by omega, by go_num, ?_, ?_, ?_⟩, by simp [intOf]; omega⟩
            · have := hCF.out.kind hjl 5
              simp only [Nat.zero_add] at this
              exact (this.bel (by rw [hsz]; exact hgs') ((Gr.refl _).alloc _).below).congr fun i _ => renTo_put hjl (by rw [HX.out]; exact HH.out) i
            · show _ < _
              rw [World.size_alloc, hsz]; omega
            · have hbs := hbel.out.setCell (p := ⟨g, j * 2, none⟩) hgb (.int .i64 5)
              exact hbs.alloc hbs.size _
          · have HH : Hid (¬ (x.k = 4 ∧ x.n = s)) := fun h => hs h.2
            have hd1 : (x.k == 4) = true := by simp [h4]
            have hd2 : (x.n == s) = false := by simp [hs]
            clear h4 hs hCF hbel
            go_wp2
            exact ⟨⟨j + 1, by omega, by go_num, hCF1.out.congr fun i _ => renTo_step hjl (by rw [HX.out]; unfold M.ren; rw [if_neg HH.out]) i, hgs1, hb1⟩, by simp [intOf]; omega⟩
        · have HH : Hid (¬ (x.k = 4 ∧ x.n = s)) := fun h => h4 h.1
          have hd1 : (x.k == 4) = false := by simp [h4]
          clear h4 hCF hbel
          go_wp2
          exact ⟨⟨j + 1, by omega, by go_num, hCF1.out.congr fun i _ => renTo_step hjl (by rw [HX.out]; unfold M.ren; rw [if_neg HH.out]) i, hgs1, hb1⟩, by simp [intOf]; omega⟩
      · obtain rfl : j = la.length := by omega
        have hAt : AtAt wr (.slice (some ⟨g, 0, none⟩) la.length cap) (la.map (M.ren s)) := hCF.out.at (renTo_map la s) hgs.out hcm.1 hcm.2 (fun y hy => by
          obtain ⟨z, hz, rfl⟩ := List.mem_map.1 hy
          have := RA.out z hz
          unfold M.ren
          split
          · exact this
          · exact this)
        have K1 := hid (norm_new wr _ _ hAt (by simpa using na))
        clear hAt
        go_wp2_with (first | (go_at_call 67; refine stopHere ?_))
        refine stopAt ?_
        refine K1.out.mono ?_
        rintro e w3 ⟨v3, rfl, hA, hF, hb3⟩
        have hAA := hid hA
        have hFF := hid hF
        obtain ⟨q, m, rfl⟩ := hA.form
        clear hA hF
        go_wp2
        go_ret
        exact ⟨_, rfl, hAA.out, hFF.out.mono hbel.out.size, hbel.out.trans (hb3.mono hbel.out.size)⟩
theorem rename_any (w : World) (va : Value) (la : List M.Atm) (s : Int) (ha : AtAt w va la) (na : la.length ≤ 100000) :
    Calls Tryz.prog 55 #[va, .int .i64 s] w fun e w' => ∃ v, e = .returned v ∧ AtAt w' v (M.rename la s) ∧ Below w.heap.size w w' :=
  (rename_new w va la s ha na).mono fun _ _ ⟨v, h1, h2, _, h3⟩ => ⟨v, h1, h2, h3⟩
end Go.Proofs.YtbaaeobdjiglgaaGreat
