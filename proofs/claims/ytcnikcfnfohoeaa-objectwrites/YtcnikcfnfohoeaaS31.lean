/-
  The walks of the document's Weak. Conditions: shapes of at most 100000 fields of as many atoms, lists of as many.
-/
import Derived.Test.YtcnikcfnfohoeaaS30
set_option linter.unusedVariables false
set_option linter.unusedSimpArgs false
namespace Go.Proofs.Ytcnikcfnfohoeaa
open Go.RowKit Go.Sort

set_option maxHeartbeats 8000000 in
set_option maxRecDepth 100000 in
theorem rweak_any (w : World) (va v : Value) (s : M.Shp) (n : ByteArray) (l : List M.Atm) (h1 : ShAt w va s) (K1 : M.Sm 100000 s) (hv : AtAt w v l) (hl : l.length ≤ 100000) :
    Calls Try.prog 24 #[va, .string n, v] w fun e w' => ∃ v', e = .returned v' ∧ ShAt w' v' (if M.mayS s then M.weakS s n l else M.zeroS) ∧ Below w.heap.size w w' := by
  have mixed := mixedP
  have B0 := hid (Below.refl w.heap.size w)
  obtain ⟨aa, ca, ba, da, rfl⟩ := h1.form
  obtain ⟨x, y, rfl⟩ := hv.form
  have Fa := hid h1
  have Fv := hid hv
  clear h1 hv
  have Ka := hid K1
  clear K1
  obtain ⟨V1, hV1⟩ : ∃ W, w.alloc (.cells #[.slice aa s.fs.length ca, .slice ba s.pr.length da] 25) = W := ⟨_, rfl⟩
  have hbx : Below w.heap.size w V1 := by rw [← hV1]; exact (gr_new _ _).below
  have Nba : Hid (V1.heap[w.heap.size]? = some (.cells #[.slice aa s.fs.length ca, .slice ba s.pr.length da] 25 (0, 0))) := by unfold Hid; rw [← hV1]; exact new_at _ _
  have B2 := hid (B0.out.trans (hbx.mono B0.out.size))
  have Fa2 := hid (Fa.out.bel hbx)
  have Fv2 := hid (Fv.out.bel hbx)
  clear B0 Fa Fv
  clear hbx
  obtain ⟨V3, hV3⟩ : ∃ W, V1.alloc (.cells #[.slice none 0 0, .slice none 0 0] 25) = W := ⟨_, rfl⟩
  have hbx : Below V1.heap.size V1 V3 := by rw [← hV3]; exact (gr_new _ _).below
  have Nbr : Hid (V3.heap[V1.heap.size]? = some (.cells #[.slice none 0 0, .slice none 0 0] 25 (0, 0))) := by unfold Hid; rw [← hV3]; exact new_at _ _
  have B4 := hid (B2.out.trans (hbx.mono B2.out.size))
  have Fa4 := hid (Fa2.out.bel hbx)
  have Fv4 := hid (Fv2.out.bel hbx)
  have Fba4 := hid (bx_bel Nba.out hbx)
  clear B2 Fa2 Fv2 Nba
  clear hbx
  have hgr : w.heap.size + 1 ≤ V1.heap.size ∧ V1.heap.size < V3.heap.size := by
    have e1 : V1.heap.size = w.heap.size + 1 := by rw [← hV1]; simp
    have e2 : V3.heap.size = V1.heap.size + 1 := by rw [← hV3]; simp
    omega
  have HGR := hid hgr
  clear hgr
  rcases (Bool.eq_false_or_eq_true (M.mayS s)).symm with hm | hm
  · have KM := hid (rmayS_any V3 _ s Fa4.out Ka.out)
    rw [hm] at KM
    rw [if_neg (by rw [hm]; decide)]
    clear hm
    go_enter Try.func24, Try.ntmps24
    obtain ⟨xba0, xba1, _⟩ := cells2 Fba4.out
    obtain ⟨xbr0, xbr1, _⟩ := cells2 Nbr.out
    go_wp2_with (first | (go_at_call 14; refine stopHere ?_))
    refine stopAt ?_
    refine (KM.out).mono ?_
    rintro e w5 ⟨rfl, hb⟩
    have B5 := hid (B4.out.trans (hb.mono B4.out.size))
    have Fa5 := hid (Fa4.out.bel hb)
    have Fv5 := hid (Fv4.out.bel hb)
    have Fba5 := hid (bx_bel Fba4.out hb)
    have Fbr5 := hid (bx_bel Nbr.out hb)
    clear B4 Fa4 Fv4 Fba4 Nbr
    clear hb xba0 xba1 xbr0 xbr1 hV1 hV3
    obtain ⟨r0, r1, rf⟩ := cells2 Fbr5.out
    go_wp2
    refine bodyPost_ret (v := .agg #[.slice none 0 0, .slice none 0 0]) (by simp [results, Try.results24, go_sem, r0, r1]) rfl ?_
    exact ⟨_, rfl, shAt_zero _, set2b B5.out (by have := HGR.out; omega) _ _⟩
  · have KM := hid (rmayS_any V3 _ s Fa4.out Ka.out)
    rw [hm] at KM
    rw [if_pos hm]
    have HM := hid hm
    clear hm
    obtain ⟨t, ht⟩ : ∃ t, (M.getF s.fs n).isSome = t := ⟨_, rfl⟩
    have HT := hid ht
    clear ht
    go_enter Try.func24, Try.ntmps24
    obtain ⟨xba0, xba1, _⟩ := cells2 Fba4.out
    obtain ⟨xbr0, xbr1, _⟩ := cells2 Nbr.out
    go_wp2_with (first | (go_at_call 14; refine stopHere ?_))
    refine stopAt ?_
    refine (KM.out).mono ?_
    rintro e w5 ⟨rfl, hb⟩
    have B5 := hid (B4.out.trans (hb.mono B4.out.size))
    have Fa5 := hid (Fa4.out.bel hb)
    have Fv5 := hid (Fv4.out.bel hb)
    have Fba5 := hid (bx_bel Fba4.out hb)
    have Fbr5 := hid (bx_bel Nbr.out hb)
    clear B4 Fa4 Fv4 Fba4 Nbr
    clear hb xba0 xba1 xbr0 xbr1 hV1 hV3
    obtain ⟨xba0, xba1, _⟩ := cells2 Fba5.out
    obtain ⟨xbr0, xbr1, _⟩ := cells2 Fbr5.out
    go_wp2_with (first | (go_at_call 12; refine stopHere ?_))
    refine stopAt ?_
    refine (rget_any w5 _ s n Fa5.out Ka.out).mono ?_
    rintro e w6 ⟨y6, rfl, hyf, hoy, hb⟩
    have B6 := hid (B5.out.trans (hb.mono B5.out.size))
    have Fa6 := hid (Fa5.out.bel hb)
    have Fv6 := hid (Fv5.out.bel hb)
    have Fba6 := hid (bx_bel Fba5.out hb)
    have Fbr6 := hid (bx_bel Fbr5.out hb)
    clear B5 Fa5 Fv5 Fba5 Fbr5
    rw [HT.out]
    have Ff6 := hid hoy
    have YF := hid hyf
    clear hoy hyf
    obtain ⟨⟨nmf, suf, vsf⟩, yaf, ycf⟩ := y6
    unfold fv
    clear hb xba0 xba1 xbr0 xbr1
    have HGF : Hid (V1.heap.size < w6.heap.size) := (Array.getElem?_eq_some_iff.1 Fbr6.out).1
    obtain ⟨V7, hV7⟩ : ∃ W, w6.alloc (.cells #[.string nmf, .bool suf, .slice yaf vsf.length ycf] 29) = W := ⟨_, rfl⟩
    have hbx : Below w6.heap.size w6 V7 := by rw [← hV7]; exact (gr_new _ _).below
    have Nbf : Hid (V7.heap[w6.heap.size]? = some (.cells #[.string nmf, .bool suf, .slice yaf vsf.length ycf] 29 (0, 0))) := by unfold Hid; rw [← hV7]; exact new_at _ _
    have B8 := hid (B6.out.trans (hbx.mono B6.out.size))
    have Fa8 := hid (Fa6.out.bel hbx)
    have Fv8 := hid (Fv6.out.bel hbx)
    have Fba8 := hid (bx_bel Fba6.out hbx)
    have Fbr8 := hid (bx_bel Fbr6.out hbx)
    have Ff8 := hid (Ff6.out.bel hbx)
    clear B6 Fa6 Fv6 Fba6 Fbr6 Ff6
    clear hbx
    have LF := hid (get_len0 Ka.out YF.out)
    obtain ⟨xba0, xba1, _⟩ := cells2 Fba8.out
    obtain ⟨xbr0, xbr1, _⟩ := cells2 Fbr8.out
    obtain ⟨xbf0, xbf1, xbf2, _⟩ := cells3 Nbf.out
    go_wp2_with fail
    have KH : Hid (∀ W, Below V7.heap.size V7 W → (W.cell? ⟨w.heap.size, 0, none⟩ = some (.slice aa s.fs.length ca) ∧ W.cell? ⟨w.heap.size, 1, none⟩ = some (.slice ba s.pr.length da) ∧ W.cell? ⟨w6.heap.size, 0, none⟩ = some (.string nmf) ∧ W.cell? ⟨w6.heap.size, 1, none⟩ = some (.bool suf) ∧ W.cell? ⟨w6.heap.size, 2, none⟩ = some (.slice yaf vsf.length ycf))) := fun W hb => by
      obtain ⟨yba0, yba1, _⟩ := cells2 (bx_bel Fba8.out hb)
      obtain ⟨ybf0, ybf1, ybf2, _⟩ := cells3 (bx_bel Nbf.out hb)
      exact ⟨yba0, yba1, ybf0, ybf1, ybf2⟩
    clear xba0 xba1 xbr0 xbr1 xbf0 xbf1 xbf2
    clear hV7
    refine wp_region_held_drew (S := fun W => W.cell? ⟨w.heap.size, 0, none⟩ = some (.slice aa s.fs.length ca) ∧ W.cell? ⟨w.heap.size, 1, none⟩ = some (.slice ba s.pr.length da) ∧ W.cell? ⟨w6.heap.size, 0, none⟩ = some (.string nmf) ∧ W.cell? ⟨w6.heap.size, 1, none⟩ = some (.bool suf) ∧ W.cell? ⟨w6.heap.size, 2, none⟩ = some (.slice yaf vsf.length ycf)) (by kernel_rfl) (KH.out _ (Below.refl _ _).drew) (fun hHeld => ?_)
    have hbd : Below V7.heap.size V7 V7.drew := (Gr.refl _).drew.below
    have RB0 := hid hbd
    have B9 := hid (B8.out.trans (hbd.mono B8.out.size))
    have Fa9 := hid (Fa8.out.bel hbd)
    have Fv9 := hid (Fv8.out.bel hbd)
    have Fba9 := hid (bx_bel Fba8.out hbd)
    have Fbr9 := hid (bx_bel Fbr8.out hbd)
    have Ff9 := hid (Ff8.out.bel hbd)
    have Fbf9 := hid (bx_bel Nbf.out hbd)
    clear B8 Fa8 Fv8 Fba8 Fbr8 Ff8 Nbf
    clear hbd
    refine wpAnyH_take (i := 0) (oi := { dst := some 19, op := Op.load 25 (Operand.tmp 3), type := 25, pos := "ref.go:102", after := #[], guard := none }) (v := ?_) rfl (by kernel_rfl) (by kernel_rfl) (by kernel_rfl) (fun _ _ _ h => h) (Or.inl ⟨by rfl, ?_⟩) hHeld ?_
    rotate_left
    · intro w hSw; (try dsimp only at hSw); go_simp; (try with_reducible rfl)
    simp only [Act.put, List.setIfInBounds_toArray, List.set_cons_zero, List.set_cons_succ]
    refine wpAnyH_take (i := 1) (oi := { dst := some 20, op := Op.move (Operand.tmp 1), type := 9, pos := "ref.go:102", after := #[], guard := none }) (v := ?_) rfl (by kernel_rfl) (by kernel_rfl) (by kernel_rfl) (fun _ _ _ h => h) (Or.inl ⟨by rfl, ?_⟩) hHeld ?_
    rotate_left
    · intro w hSw; (try dsimp only at hSw); go_simp; (try with_reducible rfl)
    simp only [Act.put, List.setIfInBounds_toArray, List.set_cons_zero, List.set_cons_succ]
    refine wpAnyH_take (i := 2) (oi := { dst := some 21, op := Op.fieldAddr 29 (Operand.tmp 7) 1, type := 0, pos := "ref.go:102", after := #[], guard := none }) (v := ?_) rfl (by kernel_rfl) (by kernel_rfl) (by kernel_rfl) (fun _ _ _ h => h) (Or.inl ⟨by rfl, ?_⟩) hHeld ?_
    rotate_left
    · intro w hSw; (try dsimp only at hSw); go_simp; (try with_reducible rfl)
    simp only [Act.put, List.setIfInBounds_toArray, List.set_cons_zero, List.set_cons_succ]
    refine wpAnyH_take (i := 3) (oi := { dst := some 22, op := Op.load 4 (Operand.tmp 21), type := 4, pos := "ref.go:102", after := #[{ on := 2, ground := Ground.data }], guard := none }) (v := ?_) rfl (by kernel_rfl) (by kernel_rfl) (by kernel_rfl) (fun _ _ _ h => h) (Or.inl ⟨by rfl, ?_⟩) hHeld ?_
    rotate_left
    · intro w hSw; (try dsimp only at hSw); go_simp; (try with_reducible rfl)
    simp only [Act.put, List.setIfInBounds_toArray, List.set_cons_zero, List.set_cons_succ]
    refine wpAnyH_take (i := 4) (oi := { dst := some 23, op := Op.fieldAddr 29 (Operand.tmp 7) 2, type := 0, pos := "ref.go:102", after := #[], guard := none }) (v := ?_) rfl (by kernel_rfl) (by kernel_rfl) (by kernel_rfl) (fun _ _ _ h => h) (Or.inl ⟨by rfl, ?_⟩) hHeld ?_
    rotate_left
    · intro w hSw; (try dsimp only at hSw); go_simp; (try with_reducible rfl)
    simp only [Act.put, List.setIfInBounds_toArray, List.set_cons_zero, List.set_cons_succ]
    refine wpAnyH_take (i := 5) (oi := { dst := some 24, op := Op.load 23 (Operand.tmp 23), type := 23, pos := "ref.go:102", after := #[{ on := 4, ground := Ground.data }], guard := none }) (v := ?_) rfl (by kernel_rfl) (by kernel_rfl) (by kernel_rfl) (fun _ _ _ h => h) (Or.inl ⟨by rfl, ?_⟩) hHeld ?_
    rotate_left
    · intro w hSw; (try dsimp only at hSw); go_simp; (try with_reducible rfl)
    simp only [Act.put, List.setIfInBounds_toArray, List.set_cons_zero, List.set_cons_succ]
    refine wpAnyH_take (i := 6) (oi := { dst := some 25, op := Op.move (Operand.tmp 2), type := 23, pos := "ref.go:102", after := #[], guard := none }) (v := ?_) rfl (by kernel_rfl) (by kernel_rfl) (by kernel_rfl) (fun _ _ _ h => h) (Or.inl ⟨by rfl, ?_⟩) hHeld ?_
    rotate_left
    · intro w hSw; (try dsimp only at hSw); go_simp; (try with_reducible rfl)
    simp only [Act.put, List.setIfInBounds_toArray, List.set_cons_zero, List.set_cons_succ]
    refine wpAnyH_ready (rs := [7]) (by kernel_rfl) (by simp) ?_
    refine AllReadyH.cons (o := { dst := some 26, op := Op.call { callee := Callee.value (Operand.func 30), args := #[Operand.tmp 24, Operand.tmp 25], argTypes := #[23, 23] }, type := 23, pos := "ref.go:102", after := #[{ on := 5, ground := Ground.data }, { on := 6, ground := Ground.data }], guard := none }) rfl (fun K hK => ?_) AllReadyH.nil
    go_simp
    refine (runion_any V7.drew _ _ vsf l Ff9.out Fv9.out LF.out hl).mono ?_
    rintro e z10 ⟨v10, rfl, hA, hb⟩
    have B10 := hid (B9.out.trans (hb.mono B9.out.size))
    have Fa10 := hid (Fa9.out.bel hb)
    have Fv10 := hid (Fv9.out.bel hb)
    have Fba10 := hid (bx_bel Fba9.out hb)
    have Fbr10 := hid (bx_bel Fbr9.out hb)
    have Ff10 := hid (Ff9.out.bel hb)
    have Fbf10 := hid (bx_bel Fbf9.out hb)
    have RB10 := hid (RB0.out.trans (hb.mono RB0.out.size))
    clear B9 Fa9 Fv9 Fba9 Fbr9 Ff9 Fbf9 RB0
    obtain ⟨qn, mn, rfl⟩ := hA.form
    have Fn10 := hid hA
    clear hA
    clear hb
    refine hK.out _ _ (KH.out _ RB10.out) (fun hHeld => ?_)
    refine wpAnyH_take (i := 8) (oi := { dst := some 27, op := Op.build 29 #[(0, Operand.tmp 20), (1, Operand.tmp 22), (2, Operand.tmp 26)], type := 29, pos := "ref.go:102", after := #[{ on := 1, ground := Ground.data }, { on := 3, ground := Ground.data }, { on := 7, ground := Ground.data }], guard := none }) (v := ?_) rfl (by kernel_rfl) (by kernel_rfl) (by kernel_rfl) (fun _ _ _ h => h) (Or.inl ⟨by rfl, ?_⟩) hHeld ?_
    rotate_left
    · intro w hSw; (try dsimp only at hSw); go_simp; (try with_reducible rfl)
    simp only [Act.put, List.setIfInBounds_toArray, List.set_cons_zero, List.set_cons_succ]
    refine wpAnyH_ready (rs := [9]) (by kernel_rfl) (by simp) ?_
    refine AllReadyH.cons (o := { dst := some 28, op := Op.call { callee := Callee.value (Operand.func 37), args := #[Operand.tmp 19, Operand.tmp 27], argTypes := #[25, 29] }, type := 25, pos := "ref.go:102", after := #[{ on := 0, ground := Ground.data }, { on := 8, ground := Ground.data }, { on := 7, ground := Ground.chain }], guard := none }) rfl (fun K hK => ?_) AllReadyH.nil
    go_simp
    refine (rwith_any z10 _ s n suf (M.norm (vsf ++ l)) qn mn Fa10.out Fn10.out Ka.out (M.ris_may HM.out)).mono ?_
    rintro e z11 ⟨v11, rfl, hS, hb⟩
    have B11 := hid (B10.out.trans (hb.mono B10.out.size))
    have Fa11 := hid (Fa10.out.bel hb)
    have Fv11 := hid (Fv10.out.bel hb)
    have Fba11 := hid (bx_bel Fba10.out hb)
    have Fbr11 := hid (bx_bel Fbr10.out hb)
    have Ff11 := hid (Ff10.out.bel hb)
    have Fbf11 := hid (bx_bel Fbf10.out hb)
    have Fn11 := hid (Fn10.out.bel hb)
    have RB11 := hid (RB10.out.trans (hb.mono RB10.out.size))
    clear B10 Fa10 Fv10 Fba10 Fbr10 Ff10 Fbf10 Fn10 RB10
    obtain ⟨wa, wc, wb, wd, rfl⟩ := hS.form
    have Fr11 := hid hS
    clear hS
    clear hb
    refine hK.out _ _ (KH.out _ RB11.out) (fun hHeld => ?_)
    refine wpAnyH_ready (rs := [10]) (by kernel_rfl) (by simp) ?_
    refine AllReadyH.cons (o := { dst := none, op := Op.store 25 (Operand.tmp 6) (Operand.tmp 28), type := 0, pos := "ref.go:102", after := #[{ on := 9, ground := Ground.data }, { on := 9, ground := Ground.chain }, { on := 0, ground := Ground.phase }, { on := 1, ground := Ground.phase }, { on := 2, ground := Ground.phase }, { on := 3, ground := Ground.phase }, { on := 4, ground := Ground.phase }, { on := 5, ground := Ground.phase }, { on := 6, ground := Ground.phase }, { on := 7, ground := Ground.phase }, { on := 8, ground := Ground.phase }, { on := 9, ground := Ground.phase }], guard := none }) rfl (fun K hK => ?_) AllReadyH.nil
    obtain ⟨r0, r1, rf⟩ := cells2 Fbr11.out
    go_simp
    have hs := KH.out _ RB11.out
    obtain ⟨c0, c1, c2, c3, c4⟩ := hs
    refine hK.out _ _ ⟨(off2c (by have := HGR.out; omega) _ _).trans c0, (off2c (by have := HGR.out; omega) _ _).trans c1, (off2c (by have := HGF.out; omega) _ _).trans c2, (off2c (by have := HGF.out; omega) _ _).trans c3, (off2c (by have := HGF.out; omega) _ _).trans c4⟩ (fun hHeld => ?_)
    clear c0 c1 c2 c3 c4
    refine wpAnyH_done (by kernel_rfl) ?_ _
    clear hHeld KH
    clear RB11
    go_wp2
    refine bodyPost_ret (v := .agg #[.slice wa (M.withF ⟨n, suf, M.norm (vsf ++ l)⟩ s.fs).length wc, .slice wb s.pr.length wd]) (by simp [results, Try.results24, go_sem, r0, r1]) rfl ?_
    exact ⟨_, rfl, by rw [weakS_eq YF.out]; exact Fr11.out.off2 Fbr11.out _ _, set2b B11.out (by have := HGR.out; omega) _ _⟩
end Go.Proofs.Ytcnikcfnfohoeaa
