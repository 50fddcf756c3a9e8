/-
  The walk of object.Join. Conditions: shapes of at most 100000 fields of as many atoms.
-/
import Derived.Test.YtbaaeobdjiglgaaGreatS12
import Derived.Test.YtbaaeobdjiglgaaGreatGG
set_option linter.unusedVariables false
set_option linter.unusedSimpArgs false
namespace Go.Proofs.YtbaaeobdjiglgaaGreat
open Go.RowKit Go.Sort

set_option maxHeartbeats 4000000 in
set_option maxRecDepth 100000 in
theorem ojoin_any (w : World) (va vb : Value) (s t : M.Shp) (h1 : ShAt w va s) (h2 : ShAt w vb t) (K1 : M.Sm 100000 s) (K2 : M.Sm 100000 t) :
    Calls Tryz.prog 36 #[va, vb] w fun e w' => ∃ v, e = .returned v ∧ ShNew w.heap.size w' v (if M.mayS s && M.mayS t then M.joinS s t else M.zeroS) ∧ Below w.heap.size w w' := by
  have mixed := mixedP
  obtain ⟨res, hres⟩ : ∃ r, (if M.mayS s && M.mayS t then M.joinS s t else M.zeroS) = r := ⟨_, rfl⟩
  rw [hres]
  have HRES := hid hres
  clear hres
  have T1 := hid h1
  have T2 := hid h2
  obtain ⟨R, a, c, b, d, hs, rfl, hR, hP⟩ := h1.open
  obtain ⟨Q, a', c', b', d', ht, rfl, hQ, hP'⟩ := h2.open
  obtain ⟨n1, v1, p1⟩ := sm_fs K1 hs
  obtain ⟨n2, v2, p2⟩ := sm_fs K2 ht
  have HF : Hid (s.fs = fldOf R ∧ t.fs = fldOf Q) := ⟨by rw [hs], by rw [ht]⟩
  have HK1 := hid K1
  have HK2 := hid K2
  have HR := hid hR
  have HQ := hid hQ
  have HP := hid hP
  have HP' := hid hP'
  have HV1 := hid v1
  have HV2 := hid v2
  clear h1 h2 hs ht hR hQ hP hP' K1 K2 v1 v2
  obtain ⟨sn, hsn⟩ : ∃ n, s.pr.length = n := ⟨_, rfl⟩
  obtain ⟨tn, htn⟩ : ∃ n, t.pr.length = n := ⟨_, rfl⟩
  rw [hsn] at T1 HP p1 ⊢
  rw [htn] at T2 HP' p2 ⊢
  have HSN := hid hsn
  have HTN := hid htn
  clear hsn htn
  obtain ⟨A1, hA1⟩ : ∃ o, (.cells #[.slice a R.length c, .slice b sn d] 31 : Obj) = o := ⟨_, rfl⟩
  obtain ⟨A2, hA2⟩ : ∃ o, (.cells #[.slice a' Q.length c', .slice b' tn d'] 31 : Obj) = o := ⟨_, rfl⟩
  obtain ⟨A3, hA3⟩ : ∃ o, (.cells #[.slice none 0 0, .slice none 0 0] 31 : Obj) = o := ⟨_, rfl⟩
  obtain ⟨W0, hW0⟩ : ∃ W0, ((w.alloc A1).alloc A2).alloc A3 = W0 := ⟨_, rfl⟩
  have b1 := (gr_new w A1).below
  have b2 := (gr_new (w.alloc A1) A2).below
  have b3 := (gr_new ((w.alloc A1).alloc A2) A3).below
  have p3 : W0.heap[w.heap.size]? = some A1 := by rw [← hW0]; exact kept (B := ((w.alloc A1).alloc A2).heap.size) (kept (B := (w.alloc A1).heap.size) (new_at w A1) (by simp) b2) (by simp; omega) b3
  have p4 : W0.heap[w.heap.size + 1]? = some A2 := by
    rw [← hW0]
    have := kept (B := ((w.alloc A1).alloc A2).heap.size) (new_at (w.alloc A1) A2) (by simp) b3
    rw [World.size_alloc] at this
    exact this
  have p5 : W0.heap[w.heap.size + 2]? = some A3 := by
    rw [← hW0]
    have := new_at ((w.alloc A1).alloc A2) A3
    rw [World.size_alloc, World.size_alloc] at this
    exact this
  have hz : w.heap.size + 3 ≤ W0.heap.size := by rw [← hW0]; simp
  have B0 : Hid (Below w.heap.size w W0) := by
    unfold Hid; rw [← hW0]; exact b1.trans ((b2.trans (b3.mono b2.size)).mono b1.size)
  rw [← hA1] at p3
  rw [← hA2] at p4
  rw [← hA3] at p5
  subst hA1 hA2 hA3
  have P1 := hid p3
  have P2 := hid p4
  have P3 := hid p5
  obtain ⟨x1, x2, _⟩ := cells2 p3
  obtain ⟨y1, y2, _⟩ := cells2 p4
  clear b1 b2 b3 p3 p4 p5
  have KA := omay_any W0 _ s (T1.out.bel B0.out) HK1.out
  cases ms : M.mayS s with
  | false =>
    rw [ms] at KA
    have HKA := hid KA
    have MS := hid ms
    clear KA ms
    go_enter Tryz.func36, Tryz.ntmps36
    go_wp2_with (go_at_call 41; refine stopHere ?_)
    refine stopAt ?_
    refine HKA.out.mono ?_
    rintro e w1 ⟨rfl, hb1⟩
    clear hW0 x1 x2 y1 y2
    obtain ⟨z0, z1, zf⟩ := cells2 (kept P3.out hz hb1)
    go_wp2
    refine bodyPost_ret (v := .agg #[.slice none 0 0, .slice none 0 0]) (by simp [results, Tryz.results36, go_sem, z0, z1]) rfl ?_
    rw [← HRES.out, MS.out]
    exact ⟨_, rfl, ShNew.zero _ _, set2b (B0.out.trans (hb1.mono B0.out.size)) (by omega) _ _⟩
  | true =>
    rw [ms] at KA
    have HKA := hid KA
    have MS := hid ms
    clear KA ms
    go_enter Tryz.func36, Tryz.ntmps36
    go_wp2_with (go_at_call 41; refine stopHere ?_)
    refine stopAt ?_
    refine HKA.out.mono ?_
    rintro e w1 ⟨rfl, hb1⟩
    have B1 : Hid (Below w.heap.size w w1) := B0.out.trans (hb1.mono B0.out.size)
    have hz1 : w.heap.size + 3 ≤ w1.heap.size := Nat.le_trans hz hb1.size
    have Q1 := hid (kept P1.out (by omega) hb1)
    have Q2 := hid (kept P2.out (by omega) hb1)
    have Q3 := hid (kept P3.out (by omega) hb1)
    clear hW0 x1 x2 y1 y2 hb1
    obtain ⟨x1, x2, _⟩ := cells2 Q1.out
    obtain ⟨y1, y2, _⟩ := cells2 Q2.out
    have KB := omay_any w1 _ t (T2.out.bel B1.out) HK2.out
    cases mt : M.mayS t with
    | false =>
      rw [mt] at KB
      have HKB := hid KB
      have MT := hid mt
      clear KB mt
      go_wp2_with (go_at_call 41; refine stopHere ?_)
      refine stopAt ?_
      refine HKB.out.mono ?_
      rintro e w2 ⟨rfl, hb2⟩
      clear x1 x2 y1 y2
      obtain ⟨z0, z1, zf⟩ := cells2 (kept Q3.out hz1 hb2)
      go_wp2
      refine bodyPost_ret (v := .agg #[.slice none 0 0, .slice none 0 0]) (by simp [results, Tryz.results36, go_sem, z0, z1]) rfl ?_
      rw [← HRES.out, MS.out, MT.out]
      exact ⟨_, rfl, ShNew.zero _ _, set2b (B1.out.trans (hb2.mono B1.out.size)) (by omega) _ _⟩
    | true =>
      rw [mt] at KB
      have HKB := hid KB
      have MT := hid mt
      clear KB mt
      go_wp2_with (go_at_call 41; refine stopHere ?_)
      refine stopAt ?_
      refine HKB.out.mono ?_
      rintro e w2 ⟨rfl, hb2⟩
      have B2 : Hid (Below w.heap.size w w2) := B1.out.trans (hb2.mono B1.out.size)
      have hz2 : w.heap.size + 3 ≤ w2.heap.size := Nat.le_trans hz1 hb2.size
      have U1 := hid (kept Q1.out (by omega) hb2)
      have U2 := hid (kept Q2.out (by omega) hb2)
      have U3 : Hid (∀ W, Below w2.heap.size w2 W → W.heap[w.heap.size + 2]? = some (.cells #[.slice none 0 0, .slice none 0 0] 31 (0, 0))) := fun W hb => kept (kept Q3.out (by omega) hb2) (by omega) hb
      clear x1 x2 y1 y2 hb2
      have KH : Hid (∀ W, Below w2.heap.size w2 W → (W.cell? ⟨w.heap.size, 0, none⟩ = some (.slice a R.length c) ∧ W.cell? ⟨w.heap.size, 1, none⟩ = some (.slice b sn d) ∧ W.cell? ⟨w.heap.size + 1, 0, none⟩ = some (.slice a' Q.length c') ∧ W.cell? ⟨w.heap.size + 1, 1, none⟩ = some (.slice b' tn d'))) := fun W hb => by
        obtain ⟨x1, x2, _⟩ := cells2 (kept U1.out (by omega) hb)
        obtain ⟨y1, y2, _⟩ := cells2 (kept U2.out (by omega) hb)
        exact ⟨x1, x2, y1, y2⟩
      have KS : Hid (∀ W u0 u1, Below w2.heap.size w2 W → (((W.setCell ⟨w.heap.size + 2, 0, none⟩ u0).setCell ⟨w.heap.size + 2, 1, none⟩ u1).cell? ⟨w.heap.size, 0, none⟩ = some (.slice a R.length c) ∧ ((W.setCell ⟨w.heap.size + 2, 0, none⟩ u0).setCell ⟨w.heap.size + 2, 1, none⟩ u1).cell? ⟨w.heap.size, 1, none⟩ = some (.slice b sn d) ∧ ((W.setCell ⟨w.heap.size + 2, 0, none⟩ u0).setCell ⟨w.heap.size + 2, 1, none⟩ u1).cell? ⟨w.heap.size + 1, 0, none⟩ = some (.slice a' Q.length c') ∧ ((W.setCell ⟨w.heap.size + 2, 0, none⟩ u0).setCell ⟨w.heap.size + 2, 1, none⟩ u1).cell? ⟨w.heap.size + 1, 1, none⟩ = some (.slice b' tn d'))) := fun W u0 u1 hb => by
        have k : ∀ b q, b ≠ w.heap.size + 2 → ((W.setCell ⟨w.heap.size + 2, 0, none⟩ u0).setCell ⟨w.heap.size + 2, 1, none⟩ u1).cell? ⟨b, q, none⟩ = W.cell? ⟨b, q, none⟩ := fun b q h => by
          rw [World.cell?_setCell_other _ _ _ _ (fun e => h (Addr.mk.inj e).1.symm), World.cell?_setCell_other _ _ _ _ (fun e => h (Addr.mk.inj e).1.symm)]
        rw [k _ _ (by omega), k _ _ (by omega), k _ _ (by omega), k _ _ (by omega)]
        exact KH.out W hb
      have KJ : Hid (∀ W, Below w2.heap.size w2 W → Calls Tryz.prog 59 #[.slice a R.length c, .slice a' Q.length c'] W fun e w' => ∃ q m, e = .returned (.slice q (M.joinF (fldOf R) (fldOf Q)).length m) ∧ FsNew w2.heap.size w' (.slice q (M.joinF (fldOf R) (fldOf Q)).length m) (M.joinF (fldOf R) (fldOf Q)) ∧ Below w2.heap.size w2 w' ∧ w2.heap.size ≤ w'.heap.size) := fun W hb =>
        (joined_any W _ _ R Q ((HR.out.bel B2.out).bel hb) ((HQ.out.bel B2.out).bel hb) n1 n2 (by rw [← HF.out.1]; exact M.ris_may MS.out) (by rw [← HF.out.2]; exact M.ris_may MT.out) HV1.out HV2.out (by rw [← HF.out.2]; exact ((M.mayS_iff t).1 MT.out).2.1)).mono fun e w' ⟨v, h1, h2, h3⟩ => by
          obtain ⟨q, m, rfl⟩ := h2.form
          exact ⟨q, m, h1, h2.mono hb.size, hb.trans (h3.mono hb.size), Nat.le_trans hb.size h3.size⟩
      have KU : Hid (∀ W, Below w2.heap.size w2 W → Calls Tryz.prog 60 #[.slice b sn d, .slice b' tn d'] W fun e w' => ∃ q m, e = .returned (.slice q (M.norm (s.pr ++ t.pr)).length m) ∧ AtAt w' (.slice q (M.norm (s.pr ++ t.pr)).length m) (M.norm (s.pr ++ t.pr)) ∧ (Below w2.heap.size w2 w' ∧ Below W.heap.size W w') ∧ w2.heap.size ≤ w'.heap.size) := fun W hb =>
        (union_any W _ _ s.pr t.pr ((HP.out.bel B2.out).bel hb) ((HP'.out.bel B2.out).bel hb) (by rw [HSN.out]; exact p1) (by rw [HTN.out]; exact p2)).mono fun e w' ⟨v, h1, h2, h3⟩ => by
          obtain ⟨q, m, rfl⟩ := h2.form
          exact ⟨q, m, h1, h2, ⟨hb.trans (h3.mono hb.size), h3⟩, Nat.le_trans hb.size h3.size⟩
      go_wp2_with fail
      refine wp_region_held_drew (S := (fun W => W.cell? ⟨w.heap.size, 0, none⟩ = some (.slice a R.length c) ∧ W.cell? ⟨w.heap.size, 1, none⟩ = some (.slice b sn d) ∧ W.cell? ⟨w.heap.size + 1, 0, none⟩ = some (.slice a' Q.length c') ∧ W.cell? ⟨w.heap.size + 1, 1, none⟩ = some (.slice b' tn d'))) (by kernel_rfl) (KH.out _ (Below.refl _ _).drew) (fun hHeld => ?_)
      refine tk 0 ⟨some 14, .fieldAddr 31 (.tmp 2) 0, 0, "object.go:36", #[], none⟩ (v := ?_) hHeld ?_ ?_
      rotate_left
      · intro w hSw; (try dsimp only at hSw); go_simp; (try with_reducible rfl)
      simp only [Act.put, List.setIfInBounds_toArray, List.set_cons_zero, List.set_cons_succ]
      refine tk 1 ⟨some 15, .load 28 (.tmp 14), 28, "object.go:36", #[⟨0, .data⟩], none⟩ (v := ?_) hHeld ?_ ?_
      rotate_left
      · intro w hSw; (try dsimp only at hSw); go_simp; (try with_reducible rfl)
      simp only [Act.put, List.setIfInBounds_toArray, List.set_cons_zero, List.set_cons_succ]
      refine tk 2 ⟨some 16, .fieldAddr 31 (.tmp 3) 0, 0, "object.go:36", #[], none⟩ (v := ?_) hHeld ?_ ?_
      rotate_left
      · intro w hSw; (try dsimp only at hSw); go_simp; (try with_reducible rfl)
      simp only [Act.put, List.setIfInBounds_toArray, List.set_cons_zero, List.set_cons_succ]
      refine tk 3 ⟨some 17, .load 28 (.tmp 16), 28, "object.go:36", #[⟨2, .data⟩], none⟩ (v := ?_) hHeld ?_ ?_
      rotate_left
      · intro w hSw; (try dsimp only at hSw); go_simp; (try with_reducible rfl)
      simp only [Act.put, List.setIfInBounds_toArray, List.set_cons_zero, List.set_cons_succ]
      refine tk 5 ⟨some 19, .fieldAddr 31 (.tmp 2) 1, 0, "object.go:36", #[], none⟩ (v := ?_) hHeld ?_ ?_
      rotate_left
      · intro w hSw; (try dsimp only at hSw); go_simp; (try with_reducible rfl)
      simp only [Act.put, List.setIfInBounds_toArray, List.set_cons_zero, List.set_cons_succ]
      refine tk 6 ⟨some 20, .load 29 (.tmp 19), 29, "object.go:36", #[⟨5, .data⟩], none⟩ (v := ?_) hHeld ?_ ?_
      rotate_left
      · intro w hSw; (try dsimp only at hSw); go_simp; (try with_reducible rfl)
      simp only [Act.put, List.setIfInBounds_toArray, List.set_cons_zero, List.set_cons_succ]
      refine tk 7 ⟨some 21, .fieldAddr 31 (.tmp 3) 1, 0, "object.go:36", #[], none⟩ (v := ?_) hHeld ?_ ?_
      rotate_left
      · intro w hSw; (try dsimp only at hSw); go_simp; (try with_reducible rfl)
      simp only [Act.put, List.setIfInBounds_toArray, List.set_cons_zero, List.set_cons_succ]
      refine tk 8 ⟨some 22, .load 29 (.tmp 21), 29, "object.go:36", #[⟨7, .data⟩], none⟩ (v := ?_) hHeld ?_ ?_
      rotate_left
      · intro w hSw; (try dsimp only at hSw); go_simp; (try with_reducible rfl)
      simp only [Act.put, List.setIfInBounds_toArray, List.set_cons_zero, List.set_cons_succ]
      refine wpAnyH_ready (rs := [4]) (by kernel_rfl) (by simp) ?_
      refine AllReadyH.cons (o := ⟨some 18, .call { callee := .value (.func 59), args := #[.tmp 15, .tmp 17], argTypes := #[28, 28] }, 28, "object.go:36", #[⟨1, .data⟩, ⟨3, .data⟩], none⟩) rfl (fun K hK => ?_) AllReadyH.nil
      go_simp
      refine (KJ.out _ (Below.refl _ _).drew).mono ?_
      rintro e w5 ⟨q5, m5, rfl, hF5, hb5, hz5⟩
      refine hK.out _ _ (KH.out _ hb5) (fun hHeld => ?_)
      refine wpAnyH_ready (rs := [9]) (by kernel_rfl) (by simp) ?_
      refine AllReadyH.cons (o := ⟨some 23, .call { callee := .value (.func 60), args := #[.tmp 20, .tmp 22], argTypes := #[29, 29] }, 29, "object.go:36", #[⟨6, .data⟩, ⟨8, .data⟩, ⟨4, .chain⟩], none⟩) rfl (fun K hK => ?_) AllReadyH.nil
      go_simp
      refine (KU.out _ hb5).mono ?_
      rintro e w6 ⟨q6, m6, rfl, hA6, hb6, hz6⟩
      refine hK.out _ _ (KH.out _ hb6.1) (fun hHeld => ?_)
      refine tk 10 ⟨some 24, .build 31 #[(0, .tmp 18), (1, .tmp 23)], 31, "object.go:36", #[⟨4, .data⟩, ⟨9, .data⟩], none⟩ (v := ?_) hHeld ?_ ?_
      rotate_left
      · intro w hSw; (try dsimp only at hSw); go_simp; (try with_reducible rfl)
      simp only [Act.put, List.setIfInBounds_toArray, List.set_cons_zero, List.set_cons_succ]
      refine wpAnyH_ready (rs := [11]) (by kernel_rfl) (by simp) ?_
      refine AllReadyH.cons (o := ⟨none, .store 31 (.tmp 4) (.tmp 24), 0, "object.go:36", #[⟨10, .data⟩, ⟨9, .chain⟩, ⟨0, .phase⟩, ⟨1, .phase⟩, ⟨2, .phase⟩, ⟨3, .phase⟩, ⟨4, .phase⟩, ⟨5, .phase⟩, ⟨6, .phase⟩, ⟨7, .phase⟩, ⟨8, .phase⟩, ⟨9, .phase⟩, ⟨10, .phase⟩], none⟩) rfl (fun K hK => ?_) AllReadyH.nil
      obtain ⟨z0, z1, zf⟩ := cells2 (U3.out _ hb6.1)
      go_simp
      refine hK.out _ _ (KS.out _ _ _ hb6.1) (fun hHeld => ?_)
      refine wpAnyH_done (by kernel_rfl) ?_ _
      have hF6 : Hid (FsNew (w.heap.size + 3) w6 (.slice q5 (M.joinF (fldOf R) (fldOf Q)).length m5) (M.joinF (fldOf R) (fldOf Q))) := (hF5.mono hz2).bel hb6.2
      have hA6' := hid hA6
      have hbb : Hid (Below w.heap.size w w6) := B2.out.trans (hb6.1.mono B2.out.size)
      clear hF5 hA6 hb5 hb6 hz5 hz6 hHeld
      go_wp2
      refine bodyPost_ret (v := .agg #[.slice q5 (M.joinF (fldOf R) (fldOf Q)).length m5, .slice q6 (M.norm (s.pr ++ t.pr)).length m6]) (by simp [results, Tryz.results36, go_sem, z0, z1]) rfl ?_
      refine ⟨_, rfl, ?_, set2b hbb.out (by omega) _ _⟩
      have hsh : ShNew (w.heap.size + 3) w6 (.agg #[.slice q5 (M.joinF (fldOf R) (fldOf Q)).length m5, .slice q6 (M.norm (s.pr ++ t.pr)).length m6]) (M.joinS s t) := ⟨_, _, rfl, by show FsNew _ _ _ (M.joinF s.fs t.fs); rw [HF.out.1, HF.out.2]; exact hF6.out, hA6'.out⟩
      rw [← HRES.out, MS.out, MT.out]
      exact (hsh.set2 (by omega) z0 z1 (noInt_v _ _ _) (noInt_v _ _ _)).mono (by omega)
end Go.Proofs.YtbaaeobdjiglgaaGreat
