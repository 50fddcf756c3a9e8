/-
  The law DemoteTurns, walked. Conditions: the two sites are ints.
-/
import Derived.Test.YtbaaeobdjiglgaaGreatE23
import Derived.Test.YtbaaeobdjiglgaaGreatE18
import Derived.Test.YtbaaeobdjiglgaaGreatE19
import Derived.Test.YtbaaeobdjiglgaaGreatE20
set_option linter.unusedVariables false
set_option linter.unusedSimpArgs false
namespace Go.Proofs.YtbaaeobdjiglgaaGreat
open Go.RowKit Go.Sort
theorem M.age_if {s : M.Sta} {k : Int} (hm : M.maySt s = true) (hk : 0 ≤ k) : (if decide (0 ≤ k) && M.maySt s then M.ageSt s k else M.zeroSt) = M.ageSt s k := by
  rw [hm, decide_eq_true hk]; rfl
theorem age_ok (w : World) (v : Value) (s t : M.Sta) (k : Int) (h : StAt w v s) (hk : InR k) (h0 : 0 ≤ k) (hK : M.SmSt 50000 s) (hm : M.maySt s = true) (ht : M.ageSt s k = t) :
    Calls Tryz.prog 11 #[v, .int .i64 k] w fun e w' => ∃ a c b d, e = .returned (.agg #[.bool t.dead, .slice a t.vs.length c, .slice b t.ls.length d]) ∧ StAt w' (.agg #[.bool t.dead, .slice a t.vs.length c, .slice b t.ls.length d]) t ∧ Below w.heap.size w w' := by
  have := age_any w v s k h hk hK
  rw [M.age_if hm h0, ht] at this
  refine this.mono ?_
  rintro e w' ⟨v', rfl, hF, hb⟩
  obtain ⟨a, c, b, d, rfl⟩ := StAt.form (StFr.at hF)
  exact ⟨a, c, b, d, rfl, StFr.at hF, hb⟩

set_option maxHeartbeats 8000000 in
set_option maxRecDepth 100000 in
theorem turns_law (w : World) (v : Value) (s : M.Sta) (h : StAt w v s) (ka kb : Int) (ha : InR ka) (hb0 : InR kb) : Calls Tryz.prog 7 #[v, .int .i64 ka, .int .i64 kb] w fun e w' => e = .returned (.bool true) ∧ Below w.heap.size w w' := by
  have mixed := mixedP
  have B0 := hid (Below.refl w.heap.size w)
  obtain ⟨a0, c0, b0, d0, rfl⟩ := h.form
  have Fs := hid h
  clear h
  have HA := hid ha
  have HB := hid hb0
  clear ha hb0
  obtain ⟨V1, hV1⟩ : ∃ W, w.alloc (.cells #[.bool s.dead, .slice a0 s.vs.length c0, .slice b0 s.ls.length d0] 25) = W := ⟨_, rfl⟩
  have hbx : Below w.heap.size w V1 := by rw [← hV1]; exact (gr_new _ _).below
  have Nbs : Hid (V1.heap[w.heap.size]? = some (.cells #[.bool s.dead, .slice a0 s.vs.length c0, .slice b0 s.ls.length d0] 25 (0, 0))) := by unfold Hid; rw [← hV1]; exact new_at _ _
  have B2 := hid (B0.out.trans (hbx.mono B0.out.size))
  have Fs2 := hid (Fs.out.bel hbx)
  clear B0 Fs
  clear hbx
  go_enter Tryz.func7, Tryz.ntmps7
  obtain ⟨xbs0, xbs1, xbs2, _⟩ := cells3 Nbs.out
  go_wp2_with (first | (go_at_call 9; refine stopHere ?_))
  refine stopAt ?_
  refine (fixed_any V1).mono ?_
  rintro e w3 ⟨rfl, hb⟩
  have B3 := hid (B2.out.trans (hb.mono B2.out.size))
  have Fs3 := hid (Fs2.out.bel hb)
  have Fbs3 := hid (bx_bel Nbs.out hb)
  clear B2 Fs2 Nbs
  clear hb xbs0 xbs1 xbs2 hV1
  rcases (Bool.eq_false_or_eq_true (M.smallSt s)).symm with hs | hs
  · obtain ⟨xbs0, xbs1, xbs2, _⟩ := cells3 Fbs3.out
    go_wp2_with (first | (go_at_call 8; refine stopHere ?_))
    refine stopAt ?_
    refine (rsmallSt_any w3 _ s Fs3.out).mono ?_
    rw [hs]
    rintro e w4 ⟨rfl, hb⟩
    have B4 := hid (B3.out.trans (hb.mono B3.out.size))
    have Fs4 := hid (Fs3.out.bel hb)
    have Fbs4 := hid (bx_bel Fbs3.out hb)
    clear B3 Fs3 Fbs3
    clear hb xbs0 xbs1 xbs2
    obtain ⟨xbs0, xbs1, xbs2, _⟩ := cells3 Fbs4.out
    go_wp2_with (first | (go_at_call 9; refine stopHere ?_))
    refine stopAt ?_
    refine (fixed_any w4).mono ?_
    rintro e w5 ⟨rfl, hb⟩
    have B5 := hid (B4.out.trans (hb.mono B4.out.size))
    have Fs5 := hid (Fs4.out.bel hb)
    have Fbs5 := hid (bx_bel Fbs4.out hb)
    clear B4 Fs4 Fbs4
    clear hb xbs0 xbs1 xbs2
    go_wp2
    go_ret
    exact ⟨rfl, B5.out⟩
  obtain ⟨xbs0, xbs1, xbs2, _⟩ := cells3 Fbs3.out
  go_wp2_with (first | (go_at_call 8; refine stopHere ?_))
  refine stopAt ?_
  refine (rsmallSt_any w3 _ s Fs3.out).mono ?_
  rw [hs]
  rintro e w4 ⟨rfl, hb⟩
  have B4 := hid (B3.out.trans (hb.mono B3.out.size))
  have Fs4 := hid (Fs3.out.bel hb)
  have Fbs4 := hid (bx_bel Fbs3.out hb)
  clear B3 Fs3 Fbs3
  clear hb xbs0 xbs1 xbs2
  have K1 := hid (M.small_smSt hs)
  rcases (Bool.eq_false_or_eq_true (M.maySt s)).symm with hm | hm
  · obtain ⟨xbs0, xbs1, xbs2, _⟩ := cells3 Fbs4.out
    go_wp2_with (first | (go_at_call 15; refine stopHere ?_))
    refine stopAt ?_
    refine (rmaySt_any w4 _ s Fs4.out (M.smSt_mono K1.out (by decide))).mono ?_
    rw [hm]
    rintro e w5 ⟨rfl, hb⟩
    have B5 := hid (B4.out.trans (hb.mono B4.out.size))
    have Fs5 := hid (Fs4.out.bel hb)
    have Fbs5 := hid (bx_bel Fbs4.out hb)
    clear B4 Fs4 Fbs4
    clear hb xbs0 xbs1 xbs2
    obtain ⟨xbs0, xbs1, xbs2, _⟩ := cells3 Fbs5.out
    go_wp2_with (first | (go_at_call 9; refine stopHere ?_))
    refine stopAt ?_
    refine (fixed_any w5).mono ?_
    rintro e w6 ⟨rfl, hb⟩
    have B6 := hid (B5.out.trans (hb.mono B5.out.size))
    have Fs6 := hid (Fs5.out.bel hb)
    have Fbs6 := hid (bx_bel Fbs5.out hb)
    clear B5 Fs5 Fbs5
    clear hb xbs0 xbs1 xbs2
    go_wp2
    go_ret
    exact ⟨rfl, B6.out⟩
  obtain ⟨xbs0, xbs1, xbs2, _⟩ := cells3 Fbs4.out
  go_wp2_with (first | (go_at_call 15; refine stopHere ?_))
  refine stopAt ?_
  refine (rmaySt_any w4 _ s Fs4.out (M.smSt_mono K1.out (by decide))).mono ?_
  rw [hm]
  rintro e w5 ⟨rfl, hb⟩
  have B5 := hid (B4.out.trans (hb.mono B4.out.size))
  have Fs5 := hid (Fs4.out.bel hb)
  have Fbs5 := hid (bx_bel Fbs4.out hb)
  clear B4 Fs4 Fbs4
  clear hb xbs0 xbs1 xbs2
  have Hm := hid hm
  clear hs hm
  by_cases hka : ka < 0
  · have fka : decide (ka < 0) = true := decide_eq_true hka
    obtain ⟨xbs0, xbs1, xbs2, _⟩ := cells3 Fbs5.out
    go_wp2_with (first | (go_at_call 9; refine stopHere ?_))
    refine stopAt ?_
    refine (fixed_any w5).mono ?_
    rintro e w6 ⟨rfl, hb⟩
    have B6 := hid (B5.out.trans (hb.mono B5.out.size))
    have Fs6 := hid (Fs5.out.bel hb)
    have Fbs6 := hid (bx_bel Fbs5.out hb)
    clear B5 Fs5 Fbs5
    clear hb xbs0 xbs1 xbs2
    go_wp2
    go_ret
    exact ⟨rfl, B6.out⟩
  have fka : decide (ka < 0) = false := decide_eq_false hka
  have Nka : Hid (0 ≤ ka) := Int.not_lt.1 hka
  by_cases hkb : kb < 0
  · have fkb : decide (kb < 0) = true := decide_eq_true hkb
    obtain ⟨xbs0, xbs1, xbs2, _⟩ := cells3 Fbs5.out
    go_wp2_with (first | (go_at_call 9; refine stopHere ?_))
    refine stopAt ?_
    refine (fixed_any w5).mono ?_
    rintro e w6 ⟨rfl, hb⟩
    have B6 := hid (B5.out.trans (hb.mono B5.out.size))
    have Fs6 := hid (Fs5.out.bel hb)
    have Fbs6 := hid (bx_bel Fbs5.out hb)
    clear B5 Fs5 Fbs5
    clear hb xbs0 xbs1 xbs2
    go_wp2
    go_ret
    exact ⟨rfl, B6.out⟩
  have fkb : decide (kb < 0) = false := decide_eq_false hkb
  have Nkb : Hid (0 ≤ kb) := Int.not_lt.1 hkb
  have MS := hid ((M.maySt_iff s).1 Hm.out)
  obtain ⟨ta, hta⟩ : ∃ t, M.ageSt s ka = t := ⟨_, rfl⟩
  have Eta := hid hta
  have Kta : Hid (M.SmSt 81 ta) := by unfold Hid; rw [← hta]; exact M.smSt_age K1.out (by decide) _
  obtain ⟨tb, htb⟩ : ∃ t, M.ageSt s kb = t := ⟨_, rfl⟩
  have Etb := hid htb
  have Ktb : Hid (M.SmSt 81 tb) := by unfold Hid; rw [← htb]; exact M.smSt_age K1.out (by decide) _
  have MTA : Hid (M.MaySt ta) := by unfold Hid; rw [← hta]; exact M.may_age MS.out Nka.out
  have MTB : Hid (M.MaySt tb) := by unfold Hid; rw [← htb]; exact M.may_age MS.out Nkb.out
  have HT : Hid (M.ageSt tb ka = M.ageSt ta kb) := by unfold Hid; rw [← hta, ← htb]; exact (M.age_turn MS.out Nka.out Nkb.out).symm
  obtain ⟨tc, htc⟩ : ∃ t, M.ageSt ta kb = t := ⟨_, rfl⟩
  have Etc := hid htc
  have Ktc : Hid (M.SmSt 163 tc) := by unfold Hid; rw [← htc]; exact M.smSt_age Kta.out (by decide) _
  have HT2 : Hid (M.ageSt tb ka = tc) := by unfold Hid; rw [HT.out]; exact htc
  have HSAME : Hid (M.sameSt tc tc = true) := by unfold Hid M.sameSt; simp
  clear hta htb htc HT
  obtain ⟨xbs0, xbs1, xbs2, _⟩ := cells3 Fbs5.out
  go_wp2_with fail
  have KH : Hid (∀ W, Below w5.heap.size w5 W → (W.cell? ⟨w.heap.size, 0, none⟩ = some (.bool s.dead) ∧ W.cell? ⟨w.heap.size, 1, none⟩ = some (.slice a0 s.vs.length c0) ∧ W.cell? ⟨w.heap.size, 2, none⟩ = some (.slice b0 s.ls.length d0))) := fun W hb => by
    obtain ⟨ybs0, ybs1, ybs2, _⟩ := cells3 (bx_bel Fbs5.out hb)
    exact ⟨ybs0, ybs1, ybs2⟩
  clear xbs0 xbs1 xbs2
  refine wp_region_held_drew (S := fun W => W.cell? ⟨w.heap.size, 0, none⟩ = some (.bool s.dead) ∧ W.cell? ⟨w.heap.size, 1, none⟩ = some (.slice a0 s.vs.length c0) ∧ W.cell? ⟨w.heap.size, 2, none⟩ = some (.slice b0 s.ls.length d0)) (by kernel_rfl) (KH.out _ (Below.refl _ _).drew) (fun hHeld => ?_)
  have hbd : Below w5.heap.size w5 w5.drew := (Gr.refl _).drew.below
  have RB0 := hid hbd
  have B6 := hid (B5.out.trans (hbd.mono B5.out.size))
  have Fs6 := hid (Fs5.out.bel hbd)
  have Fbs6 := hid (bx_bel Fbs5.out hbd)
  clear B5 Fs5 Fbs5
  clear hbd
  refine tk 0 ⟨some 28, .load 25 (.tmp 3), 25, "law.go:129", #[], none⟩ (v := ?_) hHeld ?_ ?_
  rotate_left
  · intro w hSw; (try dsimp only at hSw); go_simp; (try with_reducible rfl)
  simp only [Act.put, z0, z1, z2]
  refine tk 1 ⟨some 29, .move (.tmp 1), 3, "law.go:129", #[], none⟩ (v := ?_) hHeld ?_ ?_
  rotate_left
  · intro w hSw; (try dsimp only at hSw); go_simp; (try with_reducible rfl)
  simp only [Act.put, z0, z1, z2]
  refine tk 3 ⟨some 31, .move (.tmp 2), 3, "law.go:129", #[], none⟩ (v := ?_) hHeld ?_ ?_
  rotate_left
  · intro w hSw; (try dsimp only at hSw); go_simp; (try with_reducible rfl)
  simp only [Act.put, z0, z1, z2]
  refine tk 5 ⟨some 33, .load 25 (.tmp 3), 25, "law.go:129", #[], none⟩ (v := ?_) hHeld ?_ ?_
  rotate_left
  · intro w hSw; (try dsimp only at hSw); go_simp; (try with_reducible rfl)
  simp only [Act.put, z0, z1, z2]
  refine tk 6 ⟨some 34, .move (.tmp 2), 3, "law.go:129", #[], none⟩ (v := ?_) hHeld ?_ ?_
  rotate_left
  · intro w hSw; (try dsimp only at hSw); go_simp; (try with_reducible rfl)
  simp only [Act.put, z0, z1, z2]
  refine tk 8 ⟨some 36, .move (.tmp 1), 3, "law.go:129", #[], none⟩ (v := ?_) hHeld ?_ ?_
  rotate_left
  · intro w hSw; (try dsimp only at hSw); go_simp; (try with_reducible rfl)
  simp only [Act.put, z0, z1, z2]
  refine wpAnyH_ready (rs := [2]) (by kernel_rfl) (by simp) ?_
  refine AllReadyH.cons (o := ⟨some 30, .call { callee := .value (.func 11), args := #[.tmp 28, .tmp 29], argTypes := #[25, 3] }, 25, "law.go:129", #[⟨0, .data⟩, ⟨1, .data⟩], none⟩) rfl (fun K hK => ?_) AllReadyH.nil
  go_simp
  refine (age_ok w5.drew _ s ta ka Fs6.out HA.out Nka.out (M.smSt_mono K1.out (by decide)) Hm.out Eta.out).mono ?_
  rintro e z7 ⟨qa7, qc7, qb7, qd7, rfl, hF, hb⟩
  have B7 := hid (B6.out.trans (hb.mono B6.out.size))
  have Fs7 := hid (Fs6.out.bel hb)
  have Fbs7 := hid (bx_bel Fbs6.out hb)
  have RB7 := hid (RB0.out.trans (hb.mono RB0.out.size))
  clear B6 Fs6 Fbs6 RB0
  have Fa7 := hid hF
  clear hF
  clear hb
  refine hK.out _ _ (KH.out _ RB7.out) (fun hHeld => ?_)
  refine wpAnyH_ready (rs := [4]) (by kernel_rfl) (by simp) ?_
  refine AllReadyH.cons (o := ⟨some 32, .call { callee := .value (.func 11), args := #[.tmp 30, .tmp 31], argTypes := #[25, 3] }, 25, "law.go:129", #[⟨2, .data⟩, ⟨3, .data⟩, ⟨2, .chain⟩], none⟩) rfl (fun K hK => ?_) AllReadyH.nil
  go_simp
  refine (age_ok z7 _ ta tc kb Fa7.out HB.out Nkb.out (M.smSt_mono Kta.out (by decide)) ((M.maySt_iff ta).2 MTA.out) Etc.out).mono ?_
  rintro e z8 ⟨qa8, qc8, qb8, qd8, rfl, hF, hb⟩
  have B8 := hid (B7.out.trans (hb.mono B7.out.size))
  have Fs8 := hid (Fs7.out.bel hb)
  have Fbs8 := hid (bx_bel Fbs7.out hb)
  have Fa8 := hid (Fa7.out.bel hb)
  have RB8 := hid (RB7.out.trans (hb.mono RB7.out.size))
  clear B7 Fs7 Fbs7 Fa7 RB7
  have Fab8 := hid hF
  clear hF
  clear hb
  refine hK.out _ _ (KH.out _ RB8.out) (fun hHeld => ?_)
  refine wpAnyH_ready (rs := [7]) (by kernel_rfl) (by simp) ?_
  refine AllReadyH.cons (o := ⟨some 35, .call { callee := .value (.func 11), args := #[.tmp 33, .tmp 34], argTypes := #[25, 3] }, 25, "law.go:129", #[⟨5, .data⟩, ⟨6, .data⟩, ⟨4, .chain⟩], none⟩) rfl (fun K hK => ?_) AllReadyH.nil
  go_simp
  refine (age_ok z8 _ s tb kb Fs8.out HB.out Nkb.out (M.smSt_mono K1.out (by decide)) Hm.out Etb.out).mono ?_
  rintro e z9 ⟨qa9, qc9, qb9, qd9, rfl, hF, hb⟩
  have B9 := hid (B8.out.trans (hb.mono B8.out.size))
  have Fs9 := hid (Fs8.out.bel hb)
  have Fbs9 := hid (bx_bel Fbs8.out hb)
  have Fab9 := hid (Fab8.out.bel hb)
  have RB9 := hid (RB8.out.trans (hb.mono RB8.out.size))
  clear B8 Fs8 Fbs8 Fab8 RB8
  have Fb9 := hid hF
  clear hF
  clear hb
  refine hK.out _ _ (KH.out _ RB9.out) (fun hHeld => ?_)
  refine wpAnyH_ready (rs := [9]) (by kernel_rfl) (by simp) ?_
  refine AllReadyH.cons (o := ⟨some 37, .call { callee := .value (.func 11), args := #[.tmp 35, .tmp 36], argTypes := #[25, 3] }, 25, "law.go:129", #[⟨7, .data⟩, ⟨8, .data⟩, ⟨7, .chain⟩], none⟩) rfl (fun K hK => ?_) AllReadyH.nil
  go_simp
  refine (age_ok z9 _ tb tc ka Fb9.out HA.out Nka.out (M.smSt_mono Ktb.out (by decide)) ((M.maySt_iff tb).2 MTB.out) HT2.out).mono ?_
  rintro e z10 ⟨qa10, qc10, qb10, qd10, rfl, hF, hb⟩
  have B10 := hid (B9.out.trans (hb.mono B9.out.size))
  have Fs10 := hid (Fs9.out.bel hb)
  have Fbs10 := hid (bx_bel Fbs9.out hb)
  have Fab10 := hid (Fab9.out.bel hb)
  have Fb10 := hid (Fb9.out.bel hb)
  have RB10 := hid (RB9.out.trans (hb.mono RB9.out.size))
  clear B9 Fs9 Fbs9 Fab9 Fb9 RB9
  have Fba10 := hid hF
  clear hF
  clear hb
  refine hK.out _ _ (KH.out _ RB10.out) (fun hHeld => ?_)
  refine wpAnyH_ready (rs := [10]) (by kernel_rfl) (by simp) ?_
  refine AllReadyH.cons (o := ⟨some 38, .call { callee := .value (.func 10), args := #[.tmp 32, .tmp 37], argTypes := #[25, 25] }, 4, "law.go:129", #[⟨4, .data⟩, ⟨9, .data⟩, ⟨9, .chain⟩], none⟩) rfl (fun K hK => ?_) AllReadyH.nil
  go_simp
  refine (rsameSt_any z10 _ _ tc tc Fab10.out Fba10.out (M.smSt_mono Ktc.out (by decide))).mono ?_
  rw [HSAME.out]
  rintro e z11 ⟨rfl, hb⟩
  have B11 := hid (B10.out.trans (hb.mono B10.out.size))
  have Fs11 := hid (Fs10.out.bel hb)
  have Fbs11 := hid (bx_bel Fbs10.out hb)
  have Fab11 := hid (Fab10.out.bel hb)
  have Fba11 := hid (Fba10.out.bel hb)
  have RB11 := hid (RB10.out.trans (hb.mono RB10.out.size))
  clear B10 Fs10 Fbs10 Fab10 Fba10 RB10
  clear hb
  refine hK.out _ _ (KH.out _ RB11.out) (fun hHeld => ?_)
  refine tk 11 ⟨some 6, .assign (.tmp 38), 4, "law.go:129", #[⟨10, .data⟩, ⟨10, .chain⟩, ⟨0, .phase⟩, ⟨1, .phase⟩, ⟨2, .phase⟩, ⟨3, .phase⟩, ⟨4, .phase⟩, ⟨5, .phase⟩, ⟨6, .phase⟩, ⟨7, .phase⟩, ⟨8, .phase⟩, ⟨9, .phase⟩, ⟨10, .phase⟩], none⟩ (v := ?_) hHeld ?_ ?_
  rotate_left
  · intro w hSw; (try dsimp only at hSw); go_simp; (try with_reducible rfl)
  simp only [Act.put, z0, z1, z2]
  refine wpAnyH_done (by kernel_rfl) ?_ _
  clear hHeld KH
  clear RB11
  go_wp2
  go_ret
  exact ⟨rfl, B11.out⟩
end Go.Proofs.YtbaaeobdjiglgaaGreat
