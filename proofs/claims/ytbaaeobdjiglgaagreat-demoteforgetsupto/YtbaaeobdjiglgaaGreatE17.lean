/-
  The walk of demote.Alloc: what it answers lies in new blocks. Conditions: states of at most 1000 of each thing.
-/
import Derived.Test.YtbaaeobdjiglgaaGreatE16
set_option linter.unusedVariables false
set_option linter.unusedSimpArgs false
namespace Go.Proofs.YtbaaeobdjiglgaaGreat
open Go.RowKit Go.Sort
namespace M
theorem smSt_age {K L : Nat} {s : Sta} (h : SmSt K s) (hL : K + K + 1 ≤ L) (k : Int) : SmSt L (ageSt s k) := by
  have hr := smSt_renamed h k
  unfold ageSt
  cases e : getK s.ls ⟨4, k⟩ with
  | none => exact smSt_mono hr (by omega)
  | some o =>
    refine smSt_put (K := K) hr (by omega) _ ?_
    have ho := sm_ren (h.lv _ (getK_mem e)) k
    cases e5 : getK s.ls ⟨5, k⟩ with
    | none => exact sm_mono ho (by omega)
    | some p => exact sm_mono (sm_join ho (sm_ren (h.lv _ (getK_mem e5)) k)) (by omega)
theorem alloc_put {s : Sta} {k : Int} {o : Shp} (h : MaySt s) (hk : 0 ≤ k) (ho : mayS o = true) : (if maySt (ageSt s k) && (placeB ⟨4, k⟩ && mayS (renS o k)) then putS (ageSt s k) ⟨4, k⟩ (renS o k) else zeroSt) = putS (ageSt s k) ⟨4, k⟩ (renS o k) := by
  rw [(maySt_iff _).2 (may_age h hk), (place45 hk).1, may_renS ho k]; rfl
theorem alloc_set {s : Sta} {k : Int} {o : Shp} (n : ByteArray) (h : MaySt s) (hk : 0 ≤ k) (ho : mayS o = true) : (if maySt (putS (ageSt s k) ⟨4, k⟩ (renS o k)) then setS (putS (ageSt s k) ⟨4, k⟩ (renS o k)) n [⟨4, k⟩] else zeroSt) = allocSt s n k o := by
  rw [(maySt_iff _).2 (may_put (may_age h hk) (place45 hk).1 (may_renS ho k))]; rfl
end M

set_option maxHeartbeats 4000000 in
set_option maxRecDepth 100000 in
theorem dalloc_any (w : World) (v : Value) (s : M.Sta) (nm : ByteArray) (k : Int) (vo : Value) (o : M.Shp) (h : StAt w v s) (ho : ShAt w vo o) (hk : InR k) (hK : M.SmSt 1000 s) (hO : M.Sm 1000 o) :
    Calls Tryz.prog 13 #[v, .string nm, .int .i64 k, vo] w fun e w' => ∃ v', e = .returned v' ∧ StFr w.heap.size w' v' (if decide (0 ≤ k) && M.maySt s && M.mayS o then M.allocSt s nm k o else M.zeroSt) ∧ Below w.heap.size w w' := by
  have mixed := mixedP
  obtain ⟨res, hres⟩ : ∃ r, (if decide (0 ≤ k) && M.maySt s && M.mayS o then M.allocSt s nm k o else M.zeroSt) = r := ⟨_, rfl⟩
  rw [hres]
  have HRES := hid hres
  clear hres
  obtain ⟨a, c, b, d, rfl⟩ := h.form
  obtain ⟨a5, c5, b5, d5, rfl⟩ := ho.form
  have TS := hid h
  have TO := hid ho
  have HK := hid hK
  have HK1 := hid (M.smSt_mono hK (L := 100000) (by decide))
  have HSO := hid hO
  have HIR := hid hk
  clear h ho hK hk hO
  obtain ⟨A1, hA1⟩ : ∃ o', (.cells #[.bool s.dead, .slice a s.vs.length c, .slice b s.ls.length d] 25 : Obj) = o' := ⟨_, rfl⟩
  obtain ⟨A2, hA2⟩ : ∃ o', (.cells #[.slice a5 o.fs.length c5, .slice b5 o.pr.length d5] 31 : Obj) = o' := ⟨_, rfl⟩
  obtain ⟨A3, hA3⟩ : ∃ o', (.cells #[.bool false, .slice none 0 0, .slice none 0 0] 25 : Obj) = o' := ⟨_, rfl⟩
  obtain ⟨W0, hW0⟩ : ∃ W0, ((w.alloc A1).alloc A2).alloc A3 = W0 := ⟨_, rfl⟩
  have b1 := (gr_new w A1).below
  have b2 := (gr_new (w.alloc A1) A2).below
  have b3 := (gr_new ((w.alloc A1).alloc A2) A3).below
  have p3 : W0.heap[w.heap.size]? = some A1 := by rw [← hW0]; exact kept (B := ((w.alloc A1).alloc A2).heap.size) (kept (B := (w.alloc A1).heap.size) (new_at w A1) (by simp) b2) (by simp; omega) b3
  have p4 : W0.heap[w.heap.size + 1]? = some A2 := by
    rw [← hW0]
    have := kept (B := ((w.alloc A1).alloc A2).heap.size) (new_at (w.alloc A1) A2) (by simp) b3
    rw [World.size_alloc] at this
    exact this
  have p5 : W0.heap[w.heap.size + 2]? = some A3 := by
    rw [← hW0]
    have := new_at ((w.alloc A1).alloc A2) A3
    rw [World.size_alloc, World.size_alloc] at this
    exact this
  have hz : w.heap.size + 3 ≤ W0.heap.size := by rw [← hW0]; simp
  have B0 : Hid (Below w.heap.size w W0) := by unfold Hid; rw [← hW0]; exact (b1.trans (b2.mono b1.size)).trans (b3.mono (b1.trans (b2.mono b1.size)).size)
  rw [← hA1] at p3
  rw [← hA2] at p4
  rw [← hA3] at p5
  subst hA1 hA2 hA3
  have P1 := hid p3
  have P2 := hid p4
  have P3 := hid p5
  obtain ⟨x1, x2, x3, _⟩ := cells3 p3
  obtain ⟨x4, x5, _⟩ := cells2 p4
  clear b1 b2 b3 p3 p4
  by_cases hneg : k < 0
  · have hd : decide (k < 0) = true := decide_eq_true hneg
    obtain ⟨z1, z2, z3, zf⟩ := cells3 p5
    have HN : Hid (decide (0 ≤ k) = false) := decide_eq_false (by omega)
    go_enter Tryz.func13, Tryz.ntmps13
    go_wp2
    refine bodyPost_ret (v := .agg #[.bool false, .slice none 0 0, .slice none 0 0]) (by simp [results, Tryz.results13, go_sem, z1, z2, z3]) rfl ?_
    refine ⟨_, rfl, ?_, set3k B0.out (by omega) _ _ _⟩
    rw [← HRES.out, HN.out]
    exact stAt_zero _
  have hd : decide (k < 0) = false := decide_eq_false hneg
  have HP : Hid (0 ≤ k) := by unfold Hid; omega
  have HN : Hid (decide (0 ≤ k) = true) := decide_eq_true HP.out
  clear p5
  have KA := smay_any W0 _ s (TS.out.bel B0.out) HK1.out
  cases hms : M.maySt s with
  | false =>
    rw [hms] at KA
    have HKA := hid KA
    have MS := hid hms
    clear KA hms
    go_enter Tryz.func13, Tryz.ntmps13
    go_wp2_with (go_at_call 30; refine stopHere ?_)
    refine stopAt ?_
    refine HKA.out.mono ?_
    rintro e w1 ⟨rfl, hb1⟩
    clear hW0 x1 x2 x3 x4 x5
    obtain ⟨z1, z2, z3, zf⟩ := cells3 (kept P3.out (by omega) hb1)
    go_wp2
    refine bodyPost_ret (v := .agg #[.bool false, .slice none 0 0, .slice none 0 0]) (by simp [results, Tryz.results13, go_sem, z1, z2, z3]) rfl ?_
    refine ⟨_, rfl, ?_, set3k (B0.out.trans (hb1.mono B0.out.size)) (by omega) _ _ _⟩
    rw [← HRES.out, HN.out, MS.out]
    exact stAt_zero _
  | true =>
    rw [hms] at KA
    have HKA := hid KA
    have MS := hid hms
    have HM := hid ((M.maySt_iff s).1 hms)
    clear KA hms
    go_enter Tryz.func13, Tryz.ntmps13
    go_wp2_with (go_at_call 30; refine stopHere ?_)
    refine stopAt ?_
    refine HKA.out.mono ?_
    rintro e w1 ⟨rfl, hb1⟩
    clear hW0 x1 x2 x3 x4 x5 HKA
    have B1 : Hid (Below w.heap.size w w1) := B0.out.trans (hb1.mono B0.out.size)
    have hz1 : W0.heap.size ≤ w1.heap.size := hb1.size
    have Q1 := hid (kept P1.out (by omega) hb1)
    have Q2 := hid (kept P2.out (by omega) hb1)
    have Q3 := hid (kept P3.out (by omega) hb1)
    clear hb1 P1 P2 P3
    obtain ⟨x4, x5, _⟩ := cells2 Q2.out
    have KB := omay_any w1 _ o (TO.out.bel B1.out) (M.sm_mono HSO.out (by decide))
    cases hmo : M.mayS o with
    | false =>
      rw [hmo] at KB
      have HKB := hid KB
      have MO := hid hmo
      clear KB hmo
      go_wp2_with (go_at_call 41; refine stopHere ?_)
      refine stopAt ?_
      refine HKB.out.mono ?_
      rintro e w2 ⟨rfl, hb2⟩
      clear x4 x5
      obtain ⟨z1, z2, z3, zf⟩ := cells3 (kept Q3.out (by omega) hb2)
      go_wp2
      refine bodyPost_ret (v := .agg #[.bool false, .slice none 0 0, .slice none 0 0]) (by simp [results, Tryz.results13, go_sem, z1, z2, z3]) rfl ?_
      refine ⟨_, rfl, ?_, set3k (B1.out.trans (hb2.mono B1.out.size)) (by omega) _ _ _⟩
      rw [← HRES.out, HN.out, MS.out, MO.out]
      exact stAt_zero _
    | true =>
      rw [hmo] at KB
      have HKB := hid KB
      have MO := hid hmo
      clear KB hmo
      go_wp2_with (go_at_call 41; refine stopHere ?_)
      refine stopAt ?_
      refine HKB.out.mono ?_
      rintro e w2 ⟨rfl, hb2⟩
      clear x4 x5 HKB
      have B2 : Hid (Below w.heap.size w w2) := B1.out.trans (hb2.mono B1.out.size)
      have hz2 : w1.heap.size ≤ w2.heap.size := hb2.size
      have R1 := hid (kept Q1.out (by omega) hb2)
      have R2 := hid (kept Q2.out (by omega) hb2)
      have R3 := hid (kept Q3.out (by omega) hb2)
      clear hb2 Q1 Q2 Q3
      obtain ⟨x1, x2, x3, xf⟩ := cells3 R1.out
      obtain ⟨x4, x5, _⟩ := cells2 R2.out
      obtain ⟨ag, hag⟩ : ∃ x, M.ageSt s k = x := ⟨_, rfl⟩
      obtain ⟨ro, hro⟩ : ∃ x, M.renS o k = x := ⟨_, rfl⟩
      obtain ⟨pu, hpu⟩ : ∃ x, M.putS ag ⟨4, k⟩ ro = x := ⟨_, rfl⟩
      have HAG := hid hag
      have HRO := hid hro
      have HPU := hid hpu
      have HSA : Hid (M.SmSt 2001 ag) := by unfold Hid; rw [← hag]; exact M.smSt_age HK.out (by decide) k
      have HSR : Hid (M.Sm 1000 ro) := by unfold Hid; rw [← hro]; exact M.sm_ren HSO.out k
      have HSP : Hid (M.SmSt 100000 pu) := by unfold Hid; rw [← hpu]; exact M.smSt_put HSA.out (by decide) _ (M.sm_mono HSR.out (by decide))
      have KG : Hid (∀ W, Below w2.heap.size w2 W → Calls Tryz.prog 11 #[.agg #[.bool s.dead, .slice a s.vs.length c, .slice b s.ls.length d], .int .i64 k] W fun e w' => ∃ v', e = .returned v' ∧ StFr W.heap.size w' v' ag ∧ Below W.heap.size W w') := fun W hb => by
        have h1 := age_any W _ s k ((TS.out.bel B2.out).bel hb) HIR.out (M.smSt_mono HK.out (by decide))
        rw [HN.out, MS.out] at h1
        have h2 : (if (true && true) = true then M.ageSt s k else M.zeroSt) = ag := HAG.out
        rw [h2] at h1
        exact h1
      have KN : Hid (∀ W, Below w2.heap.size w2 W → Calls Tryz.prog 33 #[.int .i64 k] W fun e w' => e = .returned (.agg #[.int .i64 4, .int .i64 k]) ∧ Below W.heap.size W w') := fun W hb => newest_any k W
      have KR : Hid (∀ W, Below w2.heap.size w2 W → Calls Tryz.prog 34 #[.agg #[.slice a5 o.fs.length c5, .slice b5 o.pr.length d5], .int .i64 k] W fun e w' => ∃ v', e = .returned v' ∧ ShFr W.heap.size w' v' ro ∧ Below W.heap.size W w') := fun W hb => by
        have h1 := orename_fr W _ o k ((TO.out.bel B2.out).bel hb) (M.sm_mono HSO.out (by decide))
        rw [MO.out] at h1
        have h2 : (if true = true then M.renS o k else M.zeroS) = ro := HRO.out
        rw [h2] at h1
        exact h1
      have KP : ∀ (W : World) (va vb : Value), StAt W va ag → ShAt W vb ro → Calls Tryz.prog 37 #[va, .agg #[.int .i64 4, .int .i64 k], vb] W fun e w' => ∃ v', e = .returned v' ∧ StFr W.heap.size w' v' pu ∧ Below W.heap.size W w' := fun W va vb h1 h2 => by
        have h3 := sput_any W va ag ⟨4, k⟩ vb ro h1 h2 HIR.out (M.smSt_mono HSA.out (by decide)) (M.sm_mono HSR.out (by decide))
        have h4 := M.alloc_put HM.out HP.out MO.out
        rw [HAG.out, HRO.out] at h4
        rw [h4, HPU.out] at h3
        exact h3
      have KP := hid KP
      have KS : ∀ (W : World) (va vb : Value), StAt W va pu → AtAt W vb [⟨4, k⟩] → Calls Tryz.prog 42 #[va, .string nm, vb] W fun e w' => ∃ v', e = .returned v' ∧ StFr W.heap.size w' v' res ∧ Below W.heap.size W w' := fun W va vb h1 h2 => by
        have h3 := sset_any W va pu nm vb [⟨4, k⟩] h1 h2 HSP.out (by simp)
        have h4 := M.alloc_set nm HM.out HP.out MO.out
        rw [HAG.out, HRO.out, HPU.out] at h4
        have h5 : M.allocSt s nm k o = res := by rw [← HRES.out, HN.out, MS.out, MO.out]; rfl
        rw [h5] at h4
        rw [h4] at h3
        exact h3
      have KS := hid KS
      have hl1 : w.heap.size < w2.heap.size := by omega
      have hl2 : w.heap.size + 1 < w2.heap.size := by omega
      have hl3 : w.heap.size + 2 < w2.heap.size := by omega
      have hn12 : w.heap.size + 1 ≠ w.heap.size := by omega
      clear hag hro hpu
      go_wp2_with fail
      clear x1 x2 x3 xf x4 x5
      have KH : Hid (∀ Z : World, Z.heap[w.heap.size + 1]? = some (.cells #[.slice a5 o.fs.length c5, .slice b5 o.pr.length d5] 31 (0, 0)) → (Z.cell? ⟨w.heap.size + 1, 0, none⟩ = some (.slice a5 o.fs.length c5) ∧ Z.cell? ⟨w.heap.size + 1, 1, none⟩ = some (.slice b5 o.pr.length d5))) := fun Z k0 => by
        obtain ⟨y00, y01, _⟩ := cells2 k0
        exact ⟨y00, y01⟩
      refine wp_region_held_drew (S := fun W => W.cell? ⟨w.heap.size + 1, 0, none⟩ = some (.slice a5 o.fs.length c5) ∧ W.cell? ⟨w.heap.size + 1, 1, none⟩ = some (.slice b5 o.pr.length d5)) (by kernel_rfl) (KH.out _ R2.out) (fun hHeld => ?_)
      have Bh0 : Hid (Below w2.heap.size w2 w2.drew) := (Gr.refl w2).drew.below
      refine tk 1 ⟨some 23, .move (.tmp 2), 3, "demote.go:34", #[], none⟩ (v := ?_) hHeld ?_ ?_
      rotate_left
      · intro w hSw; (try dsimp only at hSw); go_simp; (try with_reducible rfl)
      simp only [Act.put, List.setIfInBounds_toArray, List.set_cons_zero, List.set_cons_succ]
      refine tk 3 ⟨some 25, .move (.tmp 2), 3, "demote.go:34", #[], none⟩ (v := ?_) hHeld ?_ ?_
      rotate_left
      · intro w hSw; (try dsimp only at hSw); go_simp; (try with_reducible rfl)
      simp only [Act.put, List.setIfInBounds_toArray, List.set_cons_zero, List.set_cons_succ]
      refine tk 5 ⟨some 27, .load 31 (.tmp 7), 31, "demote.go:34", #[], none⟩ (v := ?_) hHeld ?_ ?_
      rotate_left
      · intro w hSw; (try dsimp only at hSw); go_simp; (try with_reducible rfl)
      simp only [Act.put, List.setIfInBounds_toArray, List.set_cons_zero, List.set_cons_succ]
      refine tk 6 ⟨some 28, .move (.tmp 2), 3, "demote.go:34", #[], none⟩ (v := ?_) hHeld ?_ ?_
      rotate_left
      · intro w hSw; (try dsimp only at hSw); go_simp; (try with_reducible rfl)
      simp only [Act.put, List.setIfInBounds_toArray, List.set_cons_zero, List.set_cons_succ]
      refine wpAnyH_ready (rs := [0]) (by kernel_rfl) (by simp) ?_
      refine AllReadyH.cons (o := ⟨some 22, .load 25 (.tmp 4), 25, "demote.go:34", #[], none⟩) rfl (fun K hK => ?_) AllReadyH.nil
      obtain ⟨o0, o1, o2, of⟩ := cells3 (kept R1.out hl1 Bh0.out)
      go_simp
      clear o0 o1 o2 of
      refine hK.out _ _ (KH.out _ (R2.out)) (fun hHeld => ?_)
      clear hK
      refine wpAnyH_ready (rs := [2]) (by kernel_rfl) (by simp) ?_
      refine AllReadyH.cons (o := ⟨some 24, .call { callee := .value (.func 11), args := #[.tmp 22, .tmp 23], argTypes := #[25, 3] }, 25, "demote.go:34", #[⟨0, .data⟩, ⟨1, .data⟩], none⟩) rfl (fun K hK => ?_) AllReadyH.nil
      go_simp
      refine (KG.out _ Bh0.out).mono ?_
      rintro e z1 ⟨v1, rfl, hF1, hb⟩
      obtain ⟨ga, gc, gb, gd, rfl⟩ := StAt.form (StFr.at hF1)
      have HG := hid (StFr.at hF1)
      clear hF1
      have Bh1 := hid (Bh0.out.trans (hb.mono Bh0.out.size))
      clear hb
      refine hK.out _ _ (KH.out _ (kept R2.out hl2 Bh1.out)) (fun hHeld => ?_)
      clear hK
      refine wpAnyH_ready (rs := [4]) (by kernel_rfl) (by simp) ?_
      refine AllReadyH.cons (o := ⟨some 26, .call { callee := .value (.func 33), args := #[.tmp 25], argTypes := #[3] }, 34, "demote.go:34", #[⟨3, .data⟩, ⟨2, .chain⟩], none⟩) rfl (fun K hK => ?_) AllReadyH.nil
      go_simp
      refine (KN.out _ Bh1.out).mono ?_
      rintro e z2 ⟨rfl, hb⟩
      have Bh2 := hid (Bh1.out.trans (hb.mono Bh1.out.size))
      have HG2 := hid (HG.out.bel hb)
      clear hb
      refine hK.out _ _ (KH.out _ (kept R2.out hl2 Bh2.out)) (fun hHeld => ?_)
      clear hK
      refine wpAnyH_ready (rs := [7]) (by kernel_rfl) (by simp) ?_
      refine AllReadyH.cons (o := ⟨some 29, .call { callee := .value (.func 34), args := #[.tmp 27, .tmp 28], argTypes := #[31, 3] }, 31, "demote.go:34", #[⟨5, .data⟩, ⟨6, .data⟩, ⟨4, .chain⟩], none⟩) rfl (fun K hK => ?_) AllReadyH.nil
      go_simp
      refine (KR.out _ Bh2.out).mono ?_
      rintro e z3 ⟨v3, rfl, hS3, hb⟩
      obtain ⟨fa, fn, pa, pn, rfl⟩ := ShAt.form (ShFr.at hS3)
      have HS := hid (ShFr.at hS3)
      clear hS3
      have Bh3 := hid (Bh2.out.trans (hb.mono Bh2.out.size))
      have HG3 := hid (HG2.out.bel hb)
      clear hb
      refine hK.out _ _ (KH.out _ (kept R2.out hl2 Bh3.out)) (fun hHeld => ?_)
      clear hK
      refine wpAnyH_ready (rs := [8]) (by kernel_rfl) (by simp) ?_
      refine AllReadyH.cons (o := ⟨some 30, .call { callee := .value (.func 37), args := #[.tmp 24, .tmp 26, .tmp 29], argTypes := #[25, 34, 31] }, 25, "demote.go:34", #[⟨2, .data⟩, ⟨4, .data⟩, ⟨7, .data⟩, ⟨7, .chain⟩], none⟩) rfl (fun K hK => ?_) AllReadyH.nil
      go_simp
      refine (KP.out _ _ _ HG3.out HS.out).mono ?_
      rintro e z4 ⟨v4, rfl, hF4, hb⟩
      obtain ⟨qa, qc, qb, qd, rfl⟩ := StAt.form (StFr.at hF4)
      have HF := hid hF4
      clear hF4
      have Bh4 := hid (Bh3.out.trans (hb.mono Bh3.out.size))
      have HG4 := hid (HG3.out.bel hb)
      have HS4 := hid (HS.out.bel hb)
      clear hb
      refine hK.out _ _ (KH.out _ (kept R2.out hl2 Bh4.out)) (fun hHeld => ?_)
      clear hK
      refine wpAnyH_ready (rs := [9]) (by kernel_rfl) (by simp) ?_
      refine AllReadyH.cons (o := ⟨none, .store 25 (.tmp 4) (.tmp 30), 0, "demote.go:34", #[⟨8, .data⟩, ⟨8, .chain⟩, ⟨0, .phase⟩, ⟨1, .phase⟩, ⟨2, .phase⟩, ⟨3, .phase⟩, ⟨4, .phase⟩, ⟨5, .phase⟩, ⟨6, .phase⟩, ⟨7, .phase⟩, ⟨8, .phase⟩], none⟩) rfl (fun K hK => ?_) AllReadyH.nil
      obtain ⟨o0, o1, o2, of⟩ := cells3 (kept R1.out hl1 Bh4.out)
      go_simp
      clear o0 o1 o2 of
      refine hK.out _ _ (KH.out _ (((set_blk ((z4.setCell ⟨w.heap.size, 0, none⟩ (.bool pu.dead)).setCell ⟨w.heap.size, 1, none⟩ (.slice qa pu.vs.length qc)) (w.heap.size) 2 (.slice qb pu.ls.length qd) (w.heap.size + 1) (hn12)).trans ((set_blk (z4.setCell ⟨w.heap.size, 0, none⟩ (.bool pu.dead)) (w.heap.size) 1 (.slice qa pu.vs.length qc) (w.heap.size + 1) (hn12)).trans ((set_blk z4 (w.heap.size) 0 (.bool pu.dead) (w.heap.size + 1) (hn12)).trans (kept R2.out hl2 Bh4.out)))))) (fun hHeld => ?_)
      clear hK
      refine wpAnyH_done (by kernel_rfl) ?_ _
      clear hHeld KH
      have hbz := Bh4.out.size
      have X1 := hid (box3_put (kept R1.out hl1 Bh4.out) (.bool pu.dead) (.slice qa pu.vs.length qc) (.slice qb pu.ls.length qd))
      have X3 : Hid ((((z4.setCell ⟨w.heap.size, 0, none⟩ (.bool pu.dead)).setCell ⟨w.heap.size, 1, none⟩ (.slice qa pu.vs.length qc)).setCell ⟨w.heap.size, 2, none⟩ (.slice qb pu.ls.length qd)).heap[w.heap.size + 2]? = some (.cells #[.bool false, .slice none 0 0, .slice none 0 0] 25 (0, 0))) := (blk3 (w := z4) (g := w.heap.size) (k := w.heap.size + 2) (by omega) (.bool pu.dead) (.slice qa pu.vs.length qc) (.slice qb pu.ls.length qd)).trans (kept R3.out hl3 Bh4.out)
      have BX : Hid (Below w.heap.size w (((z4.setCell ⟨w.heap.size, 0, none⟩ (.bool pu.dead)).setCell ⟨w.heap.size, 1, none⟩ (.slice qa pu.vs.length qc)).setCell ⟨w.heap.size, 2, none⟩ (.slice qb pu.ls.length qd))) := set3k (B2.out.trans (Bh4.out.mono B2.out.size)) (Nat.le_refl _) (.bool pu.dead) (.slice qa pu.vs.length qc) (.slice qb pu.ls.length qd)
      have HX : Hid (StAt (((z4.setCell ⟨w.heap.size, 0, none⟩ (.bool pu.dead)).setCell ⟨w.heap.size, 1, none⟩ (.slice qa pu.vs.length qc)).setCell ⟨w.heap.size, 2, none⟩ (.slice qb pu.ls.length qd)) (.agg #[.bool pu.dead, .slice qa pu.vs.length qc, .slice qb pu.ls.length qd]) pu) := StFr.at (((StFr.set (g := w.heap.size) (p := 0) (u := .bool pu.dead) HF.out (by have := Bh3.out.size; omega)).set (g := w.heap.size) (p := 1) (u := .slice qa pu.vs.length qc) (by have := Bh3.out.size; omega)).set (g := w.heap.size) (p := 2) (u := .slice qb pu.ls.length qd) (by have := Bh3.out.size; omega))
      have hzs := size3 (w := z4) (g := w.heap.size) (.bool pu.dead) (.slice qa pu.vs.length qc) (.slice qb pu.ls.length qd)
      go_wp2_with fail
      generalize (((z4.setCell ⟨w.heap.size, 0, none⟩ (.bool pu.dead)).setCell ⟨w.heap.size, 1, none⟩ (.slice qa pu.vs.length qc)).setCell ⟨w.heap.size, 2, none⟩ (.slice qb pu.ls.length qd)) = W5 at X1 X3 BX HX hzs ⊢
      have hy1 : w.heap.size < W5.heap.size := by omega
      have hy3 : w.heap.size + 2 < W5.heap.size := by omega
      clear hzs hbz
      have KN2 : Hid (∀ W, Below W5.heap.size W5 W → Calls Tryz.prog 33 #[.int .i64 k] W fun e w' => e = .returned (.agg #[.int .i64 4, .int .i64 k]) ∧ Below W.heap.size W w') := fun W hb => newest_any k W
      have KH : Hid (∀ Z : World, Z.heap[w.heap.size]? = some (.cells #[.bool pu.dead, .slice qa pu.vs.length qc, .slice qb pu.ls.length qd] 25 (0, 0)) → (Z.cell? ⟨w.heap.size, 0, none⟩ = some (.bool pu.dead) ∧ Z.cell? ⟨w.heap.size, 1, none⟩ = some (.slice qa pu.vs.length qc) ∧ Z.cell? ⟨w.heap.size, 2, none⟩ = some (.slice qb pu.ls.length qd))) := fun Z k0 => by
        obtain ⟨y00, y01, y02, _⟩ := cells3 k0
        exact ⟨y00, y01, y02⟩
      refine wp_region_held_drew (S := fun W => W.cell? ⟨w.heap.size, 0, none⟩ = some (.bool pu.dead) ∧ W.cell? ⟨w.heap.size, 1, none⟩ = some (.slice qa pu.vs.length qc) ∧ W.cell? ⟨w.heap.size, 2, none⟩ = some (.slice qb pu.ls.length qd)) (by kernel_rfl) (KH.out _ X1.out) (fun hHeld => ?_)
      have Bq0 : Hid (Below W5.heap.size W5 W5.drew) := (Gr.refl W5).drew.below
      refine tk 0 ⟨some 31, .load 25 (.tmp 4), 25, "demote.go:35", #[], none⟩ (v := ?_) hHeld ?_ ?_
      rotate_left
      · intro w hSw; (try dsimp only at hSw); go_simp; (try with_reducible rfl)
      simp only [Act.put, List.setIfInBounds_toArray, List.set_cons_zero, List.set_cons_succ]
      refine tk 1 ⟨some 32, .move (.tmp 1), 9, "demote.go:35", #[], none⟩ (v := ?_) hHeld ?_ ?_
      rotate_left
      · intro w hSw; (try dsimp only at hSw); go_simp; (try with_reducible rfl)
      simp only [Act.put, List.setIfInBounds_toArray, List.set_cons_zero, List.set_cons_succ]
      refine tk 2 ⟨some 33, .move (.tmp 2), 3, "demote.go:35", #[], none⟩ (v := ?_) hHeld ?_ ?_
      rotate_left
      · intro w hSw; (try dsimp only at hSw); go_simp; (try with_reducible rfl)
      simp only [Act.put, List.setIfInBounds_toArray, List.set_cons_zero, List.set_cons_succ]
      refine wpAnyH_ready (rs := [3]) (by kernel_rfl) (by simp) ?_
      refine AllReadyH.cons (o := ⟨some 34, .call { callee := .value (.func 33), args := #[.tmp 33], argTypes := #[3] }, 34, "demote.go:35", #[⟨2, .data⟩], none⟩) rfl (fun K hK => ?_) AllReadyH.nil
      go_simp
      refine (KN2.out _ Bq0.out).mono ?_
      rintro e z1 ⟨rfl, hb⟩
      have Bq1 := hid (Bq0.out.trans (hb.mono Bq0.out.size))
      clear hb
      refine hK.out _ _ (KH.out _ (kept X1.out hy1 Bq1.out)) (fun hHeld => ?_)
      clear hK
      refine wpAnyH_ready (rs := [4]) (by kernel_rfl) (by simp) ?_
      refine AllReadyH.cons (o := ⟨some 35, .buildSlice 29 1 #[(0, .tmp 34)], 29, "demote.go:35", #[⟨3, .data⟩], none⟩) rfl (fun K hK => ?_) AllReadyH.nil
      obtain ⟨z2, hz2⟩ : ∃ W, z1.alloc (.cells #[.int .i64 4, .int .i64 k] 34 : Obj) = W := ⟨_, rfl⟩
      go_simp
      have hb : Below z1.heap.size z1 z2 := by rw [← hz2]; exact (gr_new _ _).below
      have AT2 : Hid (z2.heap[z1.heap.size]? = some (.cells #[.int .i64 4, .int .i64 k] 34 (0, 0))) := by unfold Hid; rw [← hz2]; exact new_at _ _
      have gAT : W5.heap.size ≤ z1.heap.size := Bq1.out.size
      have HAT : Hid (AtAt z2 (.slice (some ⟨z1.heap.size, 0, none⟩) 1 1) [⟨4, k⟩]) := by unfold Hid; rw [← hz2]; exact atAt_one (x := ⟨4, k⟩) HIR.out
      have Bq2 := hid (Bq1.out.trans (hb.mono Bq1.out.size))
      clear hb hz2
      refine hK.out _ _ (KH.out _ (kept X1.out hy1 Bq2.out)) (fun hHeld => ?_)
      clear hK
      refine wpAnyH_ready (rs := [5]) (by kernel_rfl) (by simp) ?_
      refine AllReadyH.cons (o := ⟨some 36, .call { callee := .value (.func 42), args := #[.tmp 31, .tmp 32, .tmp 35], argTypes := #[25, 9, 29] }, 25, "demote.go:35", #[⟨0, .data⟩, ⟨1, .data⟩, ⟨4, .data⟩, ⟨3, .chain⟩], none⟩) rfl (fun K hK => ?_) AllReadyH.nil
      go_simp
      refine (KS.out _ _ _ (HX.out.bel Bq2.out) HAT.out).mono ?_
      rintro e z3 ⟨v3, rfl, hF3, hb⟩
      obtain ⟨ta, tc, tb, td, rfl⟩ := StAt.form (StFr.at hF3)
      have HE := hid hF3
      clear hF3
      have Bq3 := hid (Bq2.out.trans (hb.mono Bq2.out.size))
      have AT3 := hid (bx_bel AT2.out hb)
      clear hb
      refine hK.out _ _ (KH.out _ (kept X1.out hy1 Bq3.out)) (fun hHeld => ?_)
      clear hK
      refine wpAnyH_ready (rs := [6]) (by kernel_rfl) (by simp) ?_
      refine AllReadyH.cons (o := ⟨none, .store 25 (.tmp 8) (.tmp 36), 0, "demote.go:35", #[⟨5, .data⟩, ⟨5, .chain⟩, ⟨0, .phase⟩, ⟨1, .phase⟩, ⟨2, .phase⟩, ⟨3, .phase⟩, ⟨4, .phase⟩, ⟨5, .phase⟩], none⟩) rfl (fun K hK => ?_) AllReadyH.nil
      obtain ⟨o0, o1, o2, of⟩ := cells3 (kept X3.out hy3 Bq3.out)
      go_simp
      clear o0 o1 o2 of
      refine hK.out _ _ (KH.out _ (((set_blk ((z3.setCell ⟨w.heap.size + 2, 0, none⟩ (.bool res.dead)).setCell ⟨w.heap.size + 2, 1, none⟩ (.slice ta res.vs.length tc)) (w.heap.size + 2) 2 (.slice tb res.ls.length td) (w.heap.size) (by omega)).trans ((set_blk (z3.setCell ⟨w.heap.size + 2, 0, none⟩ (.bool res.dead)) (w.heap.size + 2) 1 (.slice ta res.vs.length tc) (w.heap.size) (by omega)).trans ((set_blk z3 (w.heap.size + 2) 0 (.bool res.dead) (w.heap.size) (by omega)).trans (kept X1.out hy1 Bq3.out)))))) (fun hHeld => ?_)
      clear hK
      refine wpAnyH_done (by kernel_rfl) ?_ _
      clear hHeld KH
      obtain ⟨c1, c2, c3, cf⟩ := cells3 (box3_put (kept X3.out hy3 Bq3.out) (.bool res.dead) (.slice ta res.vs.length tc) (.slice tb res.ls.length td))
      go_wp2
      refine bodyPost_ret (v := .agg #[.bool res.dead, .slice ta res.vs.length tc, .slice tb res.ls.length td]) (by simp [results, Tryz.results13, go_sem, c1, c2, c3]) rfl ?_
      refine ⟨_, rfl, ?_, set3k (BX.out.trans (Bq3.out.mono BX.out.size)) (by omega) _ _ _⟩
      have hq := Bq2.out.size
      exact ((((HE.out.set (g := w.heap.size + 2) (by omega)).set (g := w.heap.size + 2) (by omega)).set (g := w.heap.size + 2) (by omega)).mono (by omega))
end Go.Proofs.YtbaaeobdjiglgaaGreat
