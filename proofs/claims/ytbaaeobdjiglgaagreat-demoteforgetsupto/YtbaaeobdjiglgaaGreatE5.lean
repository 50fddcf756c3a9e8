/-
  The walks of state.byName, state.byAtom and state.place. Conditions: lists of at most 2^20 elements.
-/
import Derived.Test.YtbaaeobdjiglgaaGreatE1
import Derived.Test.YtbaaeobdjiglgaaGreatGA
set_option linter.unusedVariables false
set_option linter.unusedSimpArgs false
namespace Go.Proofs.YtbaaeobdjiglgaaGreat
open Go.RowKit Go.Sort
namespace M
section
variable {κ ν : Type} [DecidableEq κ] (o : Key κ)
theorem placeK_hit {l : List (κ × ν)} {k : κ} {j w : Nat} (hj : j < l.length) (h : l[j].1 = k) : placeK o k j w (l.drop j) = (j, true) := by
  rw [List.drop_eq_getElem_cons hj]; unfold placeK; rw [if_pos h]
theorem placeK_lt {l : List (κ × ν)} {k : κ} {j w : Nat} (hj : j < l.length) (h : l[j].1 ≠ k) (hl : o.lt l[j].1 k = true) : placeK o k j w (l.drop j) = placeK o k (j + 1) (j + 1) (l.drop (j + 1)) := by
  rw [List.drop_eq_getElem_cons hj]; conv => { lhs; unfold placeK }
  rw [if_neg h, if_pos hl]
theorem placeK_gt {l : List (κ × ν)} {k : κ} {j w : Nat} (hj : j < l.length) (h : l[j].1 ≠ k) (hl : o.lt l[j].1 k = false) : placeK o k j w (l.drop j) = placeK o k (j + 1) w (l.drop (j + 1)) := by
  rw [List.drop_eq_getElem_cons hj]; conv => { lhs; unfold placeK }
  rw [if_neg h, if_neg (by rw [hl]; decide)]
theorem placeK_end {l : List (κ × ν)} {k : κ} {j w : Nat} (hj : l.length ≤ j) : placeK o k j w (l.drop j) = (w, false) := by
  rw [List.drop_eq_nil_of_le hj]; rfl
end
end M
theorem bndOf_get (R : List Bnd) (i : Nat) (h : i < R.length) : (bndOf R)[i]'(by rw [bndOf_len]; exact h) = R[i].p := by simp [bndOf]
theorem lclOf_get (R : List Lcl) (i : Nat) (h : i < R.length) : (lclOf R)[i]'(by rw [lclOf_len]; exact h) = R[i].p := by simp [lclOf]
theorem cells4 {w : World} {g : Nat} {T : TypeId} {v0 v1 v2 v3 : Value} (h : w.heap[g]? = some (.cells #[v0, v1, v2, v3] T (0, 0))) :
    w.cell? ⟨g, 0, none⟩ = some v0 ∧ w.cell? ⟨g, 1, none⟩ = some v1 ∧ w.cell? ⟨g, 2, none⟩ = some v2 ∧ w.cell? ⟨g, 3, none⟩ = some v3 ∧ (∀ i, w.frozen? ⟨g, i, none⟩ = false) := by
  refine ⟨?_, ?_, ?_, ?_, fun i => Lib.frozen_of_heap h i⟩
  all_goals (rw [Lib.cell_of_heap h]; rfl)

set_option maxHeartbeats 1000000 in
theorem sbyName_any (x y : Bnd) (w : World) : Calls Tryz.prog 52 #[bv x, bv y] w fun e w' => e = .returned (.int .i64 (cmpN x.nm y.nm)) ∧ Gr w w' := by
  unfold bv
  go_enter Tryz.func52, Tryz.ntmps52
  go_wp2_with (go_at_call 72; refine (compare_str _ _ _).mono ?_; rintro e w' ⟨rfl, rfl⟩)
  go_ret
  exact ⟨rfl, ((Gr.refl _).alloc _).alloc _⟩

set_option maxHeartbeats 2000000 in
theorem sbyAtom_any (x y : Lcl) (w : World) : Calls Tryz.prog 54 #[lv x, lv y] w fun e w' => e = .returned (.int .i64 (ordI x.x y.x)) ∧ Gr w w' := by
  unfold lv ordI
  go_enter Tryz.func54, Tryz.ntmps54
  go_wp2_with fail
  go_region_held3 (fun w' => w'.cell? ⟨w.heap.size, 0, none⟩ = some (.int .i64 x.x.k) ∧ w'.cell? ⟨w.heap.size, 1, none⟩ = some (.int .i64 x.x.n) ∧ w'.cell? ⟨w.heap.size + 1, 0, none⟩ = some (.int .i64 y.x.k) ∧ w'.cell? ⟨w.heap.size + 1, 1, none⟩ = some (.int .i64 y.x.n)) (go_keep) (first | (go_at_call 74; refine (compare_any _ _ _).mono ?_; rintro e w' ⟨rfl, rfl⟩) | (go_at_call 73; refine (or_any (cmpI x.x.k y.x.k) (cmpI x.x.n y.x.n) _ _ _ (new2 (by simp)).1 (new2 (by simp)).2).mono ?_; rintro e w' ⟨rfl, rfl⟩))
  all_goals
    go_wp2
    go_ret
    exact ⟨rfl, ((((Gr.refl _).alloc _).alloc _).drew).alloc _⟩

theorem enters_sbyName : ∀ args w, (callFunc 52 args).run Tryz.prog w = .ok (.enter 52 args) w := enters_of Tryz.func52 (by kernel_rfl) rfl
theorem enters_sbyAtom : ∀ args w, (callFunc 54 args).run Tryz.prog w = .ok (.enter 54 args) w := enters_of Tryz.func54 (by kernel_rfl) rfl
/-- the values of state.byName and state.byAtom -/
def fnByN : Value := .func (.func 52) #[] #[]
def fnByA : Value := .func (.func 54) #[] #[]

set_option maxHeartbeats 2000000 in
theorem placeB_any (w : World) (v : Value) (B : List Bnd) (x : Bnd) (h : BsAt w v B) (hn : B.length ≤ 1048576) :
    Calls Tryz.prog 85 #[v, bv x, fnByN] w fun e w' => e = .returned (.tuple #[.int .i64 (M.placeK M.keyN x.nm 0 0 (bndOf B)).1, .bool (M.placeK M.keyN x.nm 0 0 (bndOf B)).2]) ∧ Gr w w' := by
  have eg := enters_sbyName
  have T := hid h
  obtain ⟨a, cap, rfl⟩ := h.1.form
  clear h
  unfold fnByN bv
  obtain ⟨W0, hW0⟩ : ∃ W0, w.alloc (.cells #[.string x.nm, .slice x.a x.vs.length x.c] 47) = W0 := ⟨_, rfl⟩
  have G0 : Hid (Gr w W0) := by unfold Hid; rw [← hW0]; exact gr_new _ _
  have P0 : Hid (W0.heap[w.heap.size]? = some (.cells #[.string x.nm, .slice x.a x.vs.length x.c] 47 (0, 0))) := by unfold Hid; rw [← hW0]; exact new_at _ _
  have hz : w.heap.size < W0.heap.size := by rw [← hW0]; simp
  go_enter Tryz.func85, Tryz.ntmps85
  go_wp2
  clear hW0
  go_loopw [14, 8] (fun i u w' => ∃ j wd : Nat, j ≤ B.length ∧ wd ≤ j ∧ i = .int .i64 j ∧ u = .int .i64 wd ∧ Hid (M.placeK M.keyN x.nm 0 0 (bndOf B) = M.placeK M.keyN x.nm j wd ((bndOf B).drop j)) ∧ Hid (Gr W0 w')) (fun i _ _ => B.length - (intOf i).toNat)
  case atStart => exact ⟨0, 0, Nat.zero_le _, Nat.le_refl _, rfl, rfl, rfl, Gr.refl _⟩
  case round =>
    obtain ⟨j, wd, hj, hwd, rfl, rfl, hI, hg⟩ := hrel
    have GW : Hid (Gr w wr) := G0.out.trans hg.out
    by_cases hjl : j < B.length
    · obtain ⟨b, o, rfl, hlt, hc⟩ := Bs_some (T.out.ext (Ext.of_below GW.out.below)) hjl
      obtain ⟨c1, c2⟩ := hc j hjl
      have hjo : j < (bndOf B).length := by rw [bndOf_len]; exact hjl
      have HG : Hid (((bndOf B)[j]'hjo).1 = B[j].nm) := by unfold Hid; rw [bndOf_get B j hjl]; rfl
      have HJ := hid hjo
      obtain ⟨y, hy⟩ : ∃ y, B[j] = y := ⟨_, rfl⟩
      rw [hy] at c1 c2 HG
      clear hc hy
      obtain ⟨W1, hW1⟩ : ∃ W1, wr.alloc (.cells #[.string y.nm, .slice y.a y.vs.length y.c] 47) = W1 := ⟨_, rfl⟩
      have hB1 : Below wr.heap.size wr W1 := by rw [← hW1]; exact (gr_new _ _).below
      have hs1 : wr.heap.size < W1.heap.size := by rw [← hW1]; simp
      have n0 := cells2 (new_at wr (.cells #[.string y.nm, .slice y.a y.vs.length y.c] 47))
      rw [hW1] at n0
      obtain ⟨n1, n2, nf⟩ := n0
      obtain ⟨p1, p2, pf⟩ := cells2 (kept P0.out hz (hg.out.below.trans (hB1.mono hg.out.below.size)))
      have G1 : Hid (Gr W0 W1) := by unfold Hid; rw [← hW1]; exact hg.out.alloc _
      have K := sbyName_any y x W1
      unfold bv at K
      obtain ⟨r, hr⟩ : ∃ r, cmpN y.nm x.nm = r := ⟨_, rfl⟩
      rw [hr] at K
      have HR := hid hr
      have HK := hid K
      clear K hr hB1
      by_cases h0 : r = 0
      · subst h0
        have he : Hid (y.nm = x.nm) := (cmpN_zero _ _).1 HR.out
        go_wp2_with (go_at_fn 52; refine stopHere ?_)
        refine stopAt ?_
        refine HK.out.mono ?_
        rintro e w3 ⟨rfl, hg3⟩
        clear c1 c2 n1 n2 p1 p2 nf pf hW1
        go_wp2
        go_ret2
        rw [hI.out, M.placeK_hit M.keyN HJ.out (HG.out.trans he.out)]
        exact ⟨rfl, (G0.out.trans G1.out).trans hg3⟩
      · have hz0 : (r == 0) = false := by simpa using h0
        have hne : Hid (((bndOf B)[j]'HJ.out).1 ≠ x.nm) := by
          intro e
          rw [HG.out] at e
          exact h0 (by rw [← HR.out]; exact (cmpN_zero _ _).2 e)
        by_cases h1 : r < 0
        · have hd : decide (r < 0) = true := decide_eq_true h1
          have hl : Hid (M.keyN.lt (((bndOf B)[j]'HJ.out).1) x.nm = true) := by unfold Hid; rw [HG.out]; exact (cmpN_lt _ _).1 (by rw [HR.out]; exact h1)
          clear h0
          go_wp2_with (go_at_fn 52; refine stopHere ?_)
          refine stopAt ?_
          refine HK.out.mono ?_
          rintro e w3 ⟨rfl, hg3⟩
          clear c1 c2 n1 n2 p1 p2 nf pf hW1
          go_wp2
          refine ⟨⟨j + 1, j + 1, by omega, Nat.le_refl _, by go_num, by go_num, ?_, G1.out.trans hg3⟩, by simp [intOf]; omega⟩
          exact hI.out.trans (M.placeK_lt M.keyN HJ.out hne.out hl.out)
        · have hd : decide (r < 0) = false := decide_eq_false h1
          have hl : Hid (M.keyN.lt (((bndOf B)[j]'HJ.out).1) x.nm = false) := by
            unfold Hid
            rw [HG.out]
            cases hq : M.keyN.lt y.nm x.nm with
            | false => rfl
            | true => exact absurd (show r < 0 by rw [← HR.out]; exact (cmpN_lt _ _).2 hq) h1
          clear h0
          go_wp2_with (go_at_fn 52; refine stopHere ?_)
          refine stopAt ?_
          refine HK.out.mono ?_
          rintro e w3 ⟨rfl, hg3⟩
          clear c1 c2 n1 n2 p1 p2 nf pf hW1
          go_wp2
          refine ⟨⟨j + 1, wd, by omega, by omega, by go_num, rfl, ?_, G1.out.trans hg3⟩, by simp [intOf]; omega⟩
          exact hI.out.trans (M.placeK_gt M.keyN HJ.out hne.out hl.out)
    · go_wp2
      go_ret2
      rw [hI.out, M.placeK_end M.keyN (by rw [bndOf_len]; omega)]
      exact ⟨rfl, GW.out⟩

set_option maxHeartbeats 2000000 in
theorem placeL_any (w : World) (v : Value) (B : List Lcl) (x : Lcl) (h : LsAt w v B) (hn : B.length ≤ 1048576) :
    Calls Tryz.prog 56 #[v, lv x, fnByA] w fun e w' => e = .returned (.tuple #[.int .i64 (M.placeK M.keyA x.x 0 0 (lclOf B)).1, .bool (M.placeK M.keyA x.x 0 0 (lclOf B)).2]) ∧ Gr w w' := by
  have eg := enters_sbyAtom
  have T := hid h
  obtain ⟨a, cap, rfl⟩ := h.1.form
  clear h
  unfold fnByA lv
  obtain ⟨W0, hW0⟩ : ∃ W0, w.alloc (.cells #[.int .i64 x.x.k, .int .i64 x.x.n, .slice x.fa x.s.fs.length x.fn, .slice x.pa x.s.pr.length x.pn] 36) = W0 := ⟨_, rfl⟩
  have G0 : Hid (Gr w W0) := by unfold Hid; rw [← hW0]; exact gr_new _ _
  have P0 : Hid (W0.heap[w.heap.size]? = some (.cells #[.int .i64 x.x.k, .int .i64 x.x.n, .slice x.fa x.s.fs.length x.fn, .slice x.pa x.s.pr.length x.pn] 36 (0, 0))) := by unfold Hid; rw [← hW0]; exact new_at _ _
  have hz : w.heap.size < W0.heap.size := by rw [← hW0]; simp
  go_enter Tryz.func56, Tryz.ntmps56
  go_wp2
  clear hW0
  go_loopw [14, 8] (fun i u w' => ∃ j wd : Nat, j ≤ B.length ∧ wd ≤ j ∧ i = .int .i64 j ∧ u = .int .i64 wd ∧ Hid (M.placeK M.keyA x.x 0 0 (lclOf B) = M.placeK M.keyA x.x j wd ((lclOf B).drop j)) ∧ Hid (Gr W0 w')) (fun i _ _ => B.length - (intOf i).toNat)
  case atStart => exact ⟨0, 0, Nat.zero_le _, Nat.le_refl _, rfl, rfl, rfl, Gr.refl _⟩
  case round =>
    obtain ⟨j, wd, hj, hwd, rfl, rfl, hI, hg⟩ := hrel
    have GW : Hid (Gr w wr) := G0.out.trans hg.out
    by_cases hjl : j < B.length
    · obtain ⟨b, o, rfl, hlt, hc⟩ := Ls_some (T.out.ext (Ext.of_below GW.out.below)) hjl
      obtain ⟨c1, c2, c3, c4⟩ := hc j hjl
      have hjo : j < (lclOf B).length := by rw [lclOf_len]; exact hjl
      have HG : Hid (((lclOf B)[j]'hjo).1 = B[j].x) := by unfold Hid; rw [lclOf_get B j hjl]; rfl
      have HJ := hid hjo
      obtain ⟨y, hy⟩ : ∃ y, B[j] = y := ⟨_, rfl⟩
      rw [hy] at c1 c2 c3 c4 HG
      clear hc hy
      obtain ⟨W1, hW1⟩ : ∃ W1, wr.alloc (.cells #[.int .i64 y.x.k, .int .i64 y.x.n, .slice y.fa y.s.fs.length y.fn, .slice y.pa y.s.pr.length y.pn] 36) = W1 := ⟨_, rfl⟩
      have hB1 : Below wr.heap.size wr W1 := by rw [← hW1]; exact (gr_new _ _).below
      have hs1 : wr.heap.size < W1.heap.size := by rw [← hW1]; simp
      have n0 := cells4 (new_at wr (.cells #[.int .i64 y.x.k, .int .i64 y.x.n, .slice y.fa y.s.fs.length y.fn, .slice y.pa y.s.pr.length y.pn] 36))
      rw [hW1] at n0
      obtain ⟨n1, n2, n3, n4, nf⟩ := n0
      obtain ⟨p1, p2, p3, p4, pf⟩ := cells4 (kept P0.out hz (hg.out.below.trans (hB1.mono hg.out.below.size)))
      have G1 : Hid (Gr W0 W1) := by unfold Hid; rw [← hW1]; exact hg.out.alloc _
      have K := sbyAtom_any y x W1
      unfold lv at K
      obtain ⟨r, hr⟩ : ∃ r, ordI y.x x.x = r := ⟨_, rfl⟩
      rw [hr] at K
      have HR := hid hr
      have HK := hid K
      clear K hr hB1
      by_cases h0 : r = 0
      · subst h0
        have he : Hid (y.x = x.x) := (ordI_zero _ _).1 HR.out
        go_wp2_with (go_at_fn 54; refine stopHere ?_)
        refine stopAt ?_
        refine HK.out.mono ?_
        rintro e w3 ⟨rfl, hg3⟩
        clear c1 c2 c3 c4 n1 n2 n3 n4 p1 p2 p3 p4 nf pf hW1
        go_wp2
        go_ret2
        rw [hI.out, M.placeK_hit M.keyA HJ.out (HG.out.trans he.out)]
        exact ⟨rfl, (G0.out.trans G1.out).trans hg3⟩
      · have hz0 : (r == 0) = false := by simpa using h0
        have hne : Hid (((lclOf B)[j]'HJ.out).1 ≠ x.x) := by
          intro e
          rw [HG.out] at e
          exact h0 (by rw [← HR.out]; exact (ordI_zero _ _).2 e)
        by_cases h1 : r < 0
        · have hd : decide (r < 0) = true := decide_eq_true h1
          have hl : Hid (M.keyA.lt (((lclOf B)[j]'HJ.out).1) x.x = true) := by unfold Hid; rw [HG.out]; exact (ordI_lt _ _).1 (by rw [HR.out]; exact h1)
          clear h0
          go_wp2_with (go_at_fn 54; refine stopHere ?_)
          refine stopAt ?_
          refine HK.out.mono ?_
          rintro e w3 ⟨rfl, hg3⟩
          clear c1 c2 c3 c4 n1 n2 n3 n4 p1 p2 p3 p4 nf pf hW1
          go_wp2
          refine ⟨⟨j + 1, j + 1, by omega, Nat.le_refl _, by go_num, by go_num, ?_, G1.out.trans hg3⟩, by simp [intOf]; omega⟩
          exact hI.out.trans (M.placeK_lt M.keyA HJ.out hne.out hl.out)
        · have hd : decide (r < 0) = false := decide_eq_false h1
          have hl : Hid (M.keyA.lt (((lclOf B)[j]'HJ.out).1) x.x = false) := by
            unfold Hid
            rw [HG.out]
            cases hq : M.keyA.lt y.x x.x with
            | false => rfl
            | true => exact absurd (show r < 0 by rw [← HR.out]; exact (ordI_lt _ _).2 hq) h1
          clear h0
          go_wp2_with (go_at_fn 54; refine stopHere ?_)
          refine stopAt ?_
          refine HK.out.mono ?_
          rintro e w3 ⟨rfl, hg3⟩
          clear c1 c2 c3 c4 n1 n2 n3 n4 p1 p2 p3 p4 nf pf hW1
          go_wp2
          refine ⟨⟨j + 1, wd, by omega, by omega, by go_num, rfl, ?_, G1.out.trans hg3⟩, by simp [intOf]; omega⟩
          exact hI.out.trans (M.placeK_gt M.keyA HJ.out hne.out hl.out)
    · go_wp2
      go_ret2
      rw [hI.out, M.placeK_end M.keyA (by rw [lclOf_len]; omega)]
      exact ⟨rfl, GW.out⟩
end Go.Proofs.YtbaaeobdjiglgaaGreat
