/-
  The walks of the document's Strong and Weak. Conditions: shapes of at most 100000 fields of as many atoms, lists of as many.
-/
import Derived.Test.YtcnikcfnfohoeaaS24
import Derived.Test.YtcnikcfnfohoeaaS7
import Derived.Test.YtcnikcfnfohoeaaR3
set_option linter.unusedVariables false
set_option linter.unusedSimpArgs false
namespace Go.Proofs.Ytcnikcfnfohoeaa
open Go.RowKit Go.Sort

theorem off2c {W : World} {g b o : Nat} (h : b ≠ g) (u v : Value) : ((W.setCell ⟨g, 0, none⟩ u).setCell ⟨g, 1, none⟩ v).cell? ⟨b, o, none⟩ = W.cell? ⟨b, o, none⟩ := by
  rw [World.cell?_setCell_other _ _ _ _ (fun e => h (Addr.mk.inj e).1.symm), World.cell?_setCell_other _ _ _ _ (fun e => h (Addr.mk.inj e).1.symm)]
theorem shAt_zero (w : World) : ShAt w (.agg #[.slice none 0 0, .slice none 0 0]) M.zeroS := (ShNew.zero w 0).at
theorem weakS_eq {s : M.Shp} {n nm : ByteArray} {su : Bool} {vs l : List M.Atm} (h : (⟨nm, su, vs⟩ : M.Fld) = (M.getF s.fs n).getD zeroF) : M.weakS s n l = ⟨M.withF ⟨n, su, M.norm (vs ++ l)⟩ s.fs, s.pr⟩ := by
  unfold M.weakS
  cases hg : M.getF s.fs n with
  | none => rw [hg] at h; simp [zeroF] at h; obtain ⟨_, rfl, rfl⟩ := h; simp [M.suO, M.vsO]
  | some f => rw [hg] at h; simp at h; subst h; simp [M.suO, M.vsO]
set_option maxHeartbeats 8000000 in
set_option maxRecDepth 100000 in
theorem rstrong_any (w : World) (va v : Value) (s : M.Shp) (n : ByteArray) (l : List M.Atm) (h1 : ShAt w va s) (K1 : M.Sm 100000 s) (hv : AtAt w v l) (hl : l.length ≤ 100000) :
    Calls Try.prog 22 #[va, .string n, v] w fun e w' => ∃ v', e = .returned v' ∧ ShAt w' v' (if M.mayS s then M.strongS s n l else M.zeroS) ∧ Below w.heap.size w w' := by
  have mixed := mixedP
  have B0 := hid (Below.refl w.heap.size w)
  obtain ⟨aa, ca, ba, da, rfl⟩ := h1.form
  obtain ⟨x, y, rfl⟩ := hv.form
  have Fa := hid h1
  have Fv := hid hv
  clear h1 hv
  have Ka := hid K1
  clear K1
  obtain ⟨V1, hV1⟩ : ∃ W, w.alloc (.cells #[.slice aa s.fs.length ca, .slice ba s.pr.length da] 25) = W := ⟨_, rfl⟩
  have hbx : Below w.heap.size w V1 := by rw [← hV1]; exact (gr_new _ _).below
  have Nba : Hid (V1.heap[w.heap.size]? = some (.cells #[.slice aa s.fs.length ca, .slice ba s.pr.length da] 25 (0, 0))) := by unfold Hid; rw [← hV1]; exact new_at _ _
  have B2 := hid (B0.out.trans (hbx.mono B0.out.size))
  have Fa2 := hid (Fa.out.bel hbx)
  have Fv2 := hid (Fv.out.bel hbx)
  clear B0 Fa Fv
  clear hbx
  obtain ⟨V3, hV3⟩ : ∃ W, V1.alloc (.cells #[.slice none 0 0, .slice none 0 0] 25) = W := ⟨_, rfl⟩
  have hbx : Below V1.heap.size V1 V3 := by rw [← hV3]; exact (gr_new _ _).below
  have Nbr : Hid (V3.heap[V1.heap.size]? = some (.cells #[.slice none 0 0, .slice none 0 0] 25 (0, 0))) := by unfold Hid; rw [← hV3]; exact new_at _ _
  have B4 := hid (B2.out.trans (hbx.mono B2.out.size))
  have Fa4 := hid (Fa2.out.bel hbx)
  have Fv4 := hid (Fv2.out.bel hbx)
  have Fba4 := hid (bx_bel Nba.out hbx)
  clear B2 Fa2 Fv2 Nba
  clear hbx
  have hgr : w.heap.size + 1 ≤ V1.heap.size ∧ V1.heap.size < V3.heap.size := by
    have e1 : V1.heap.size = w.heap.size + 1 := by rw [← hV1]; simp
    have e2 : V3.heap.size = V1.heap.size + 1 := by rw [← hV3]; simp
    omega
  have HGR := hid hgr
  clear hgr
  rcases (Bool.eq_false_or_eq_true (M.mayS s)).symm with hm | hm
  · have KM := hid (rmayS_any V3 _ s Fa4.out Ka.out)
    rw [hm] at KM
    rw [if_neg (by rw [hm]; decide)]
    clear hm
    go_enter Try.func22, Try.ntmps22
    obtain ⟨xba0, xba1, _⟩ := cells2 Fba4.out
    obtain ⟨xbr0, xbr1, _⟩ := cells2 Nbr.out
    go_wp2_with (first | (go_at_call 14; refine stopHere ?_))
    refine stopAt ?_
    refine (KM.out).mono ?_
    rintro e w5 ⟨rfl, hb⟩
    have B5 := hid (B4.out.trans (hb.mono B4.out.size))
    have Fa5 := hid (Fa4.out.bel hb)
    have Fv5 := hid (Fv4.out.bel hb)
    have Fba5 := hid (bx_bel Fba4.out hb)
    have Fbr5 := hid (bx_bel Nbr.out hb)
    clear B4 Fa4 Fv4 Fba4 Nbr
    clear hb xba0 xba1 xbr0 xbr1 hV1 hV3
    obtain ⟨r0, r1, rf⟩ := cells2 Fbr5.out
    go_wp2
    refine bodyPost_ret (v := .agg #[.slice none 0 0, .slice none 0 0]) (by simp [results, Try.results22, go_sem, r0, r1]) rfl ?_
    exact ⟨_, rfl, shAt_zero _, set2b B5.out (by have := HGR.out; omega) _ _⟩
  · have KM := hid (rmayS_any V3 _ s Fa4.out Ka.out)
    rw [hm] at KM
    rw [if_pos hm]
    have HM := hid hm
    clear hm
    go_enter Try.func22, Try.ntmps22
    obtain ⟨xba0, xba1, _⟩ := cells2 Fba4.out
    obtain ⟨xbr0, xbr1, _⟩ := cells2 Nbr.out
    go_wp2_with (first | (go_at_call 14; refine stopHere ?_))
    refine stopAt ?_
    refine (KM.out).mono ?_
    rintro e w5 ⟨rfl, hb⟩
    have B5 := hid (B4.out.trans (hb.mono B4.out.size))
    have Fa5 := hid (Fa4.out.bel hb)
    have Fv5 := hid (Fv4.out.bel hb)
    have Fba5 := hid (bx_bel Fba4.out hb)
    have Fbr5 := hid (bx_bel Nbr.out hb)
    clear B4 Fa4 Fv4 Fba4 Nbr
    clear hb xba0 xba1 xbr0 xbr1 hV1 hV3
    obtain ⟨xba0, xba1, _⟩ := cells2 Fba5.out
    obtain ⟨xbr0, xbr1, _⟩ := cells2 Fbr5.out
    go_wp2_with fail
    have KH : Hid (∀ W, Below w5.heap.size w5 W → (W.cell? ⟨w.heap.size, 0, none⟩ = some (.slice aa s.fs.length ca) ∧ W.cell? ⟨w.heap.size, 1, none⟩ = some (.slice ba s.pr.length da))) := fun W hb => by
      obtain ⟨yba0, yba1, _⟩ := cells2 (bx_bel Fba5.out hb)
      exact ⟨yba0, yba1⟩
    clear xba0 xba1 xbr0 xbr1
    refine wp_region_held_drew (S := fun W => W.cell? ⟨w.heap.size, 0, none⟩ = some (.slice aa s.fs.length ca) ∧ W.cell? ⟨w.heap.size, 1, none⟩ = some (.slice ba s.pr.length da)) (by kernel_rfl) (KH.out _ (Below.refl _ _).drew) (fun hHeld => ?_)
    have hbd : Below w5.heap.size w5 w5.drew := (Gr.refl _).drew.below
    have RB0 := hid hbd
    have B6 := hid (B5.out.trans (hbd.mono B5.out.size))
    have Fa6 := hid (Fa5.out.bel hbd)
    have Fv6 := hid (Fv5.out.bel hbd)
    have Fba6 := hid (bx_bel Fba5.out hbd)
    have Fbr6 := hid (bx_bel Fbr5.out hbd)
    clear B5 Fa5 Fv5 Fba5 Fbr5
    clear hbd
    refine wpAnyH_take (i := 0) (oi := { dst := some 11, op := Op.load 25 (Operand.tmp 3), type := 25, pos := "ref.go:93", after := #[], guard := none }) (v := ?_) rfl (by kernel_rfl) (by kernel_rfl) (by kernel_rfl) (fun _ _ _ h => h) (Or.inl ⟨by rfl, ?_⟩) hHeld ?_
    rotate_left
    · intro w hSw; (try dsimp only at hSw); go_simp; (try with_reducible rfl)
    simp only [Act.put, List.setIfInBounds_toArray, List.set_cons_zero, List.set_cons_succ]
    refine wpAnyH_take (i := 1) (oi := { dst := some 12, op := Op.move (Operand.tmp 1), type := 9, pos := "ref.go:93", after := #[], guard := none }) (v := ?_) rfl (by kernel_rfl) (by kernel_rfl) (by kernel_rfl) (fun _ _ _ h => h) (Or.inl ⟨by rfl, ?_⟩) hHeld ?_
    rotate_left
    · intro w hSw; (try dsimp only at hSw); go_simp; (try with_reducible rfl)
    simp only [Act.put, List.setIfInBounds_toArray, List.set_cons_zero, List.set_cons_succ]
    refine wpAnyH_take (i := 2) (oi := { dst := some 13, op := Op.move (Operand.tmp 2), type := 23, pos := "ref.go:93", after := #[], guard := none }) (v := ?_) rfl (by kernel_rfl) (by kernel_rfl) (by kernel_rfl) (fun _ _ _ h => h) (Or.inl ⟨by rfl, ?_⟩) hHeld ?_
    rotate_left
    · intro w hSw; (try dsimp only at hSw); go_simp; (try with_reducible rfl)
    simp only [Act.put, List.setIfInBounds_toArray, List.set_cons_zero, List.set_cons_succ]
    refine wpAnyH_ready (rs := [3]) (by kernel_rfl) (by simp) ?_
    refine AllReadyH.cons (o := { dst := some 14, op := Op.call { callee := Callee.value (Operand.func 44), args := #[Operand.tmp 13], argTypes := #[23] }, type := 23, pos := "ref.go:93", after := #[{ on := 2, ground := Ground.data }], guard := none }) rfl (fun K hK => ?_) AllReadyH.nil
    go_simp
    refine (rnorm_any w5.drew _ l Fv6.out hl).mono ?_
    rintro e z7 ⟨v7, rfl, hA, hb⟩
    have B7 := hid (B6.out.trans (hb.mono B6.out.size))
    have Fa7 := hid (Fa6.out.bel hb)
    have Fv7 := hid (Fv6.out.bel hb)
    have Fba7 := hid (bx_bel Fba6.out hb)
    have Fbr7 := hid (bx_bel Fbr6.out hb)
    have RB7 := hid (RB0.out.trans (hb.mono RB0.out.size))
    clear B6 Fa6 Fv6 Fba6 Fbr6 RB0
    obtain ⟨qn, mn, rfl⟩ := hA.form
    have Fn7 := hid hA
    clear hA
    clear hb
    refine hK.out _ _ (KH.out _ RB7.out) (fun hHeld => ?_)
    refine wpAnyH_take (i := 4) (oi := { dst := some 15, op := Op.build 29 #[(0, Operand.tmp 12), (1, Operand.const (Value.bool true)), (2, Operand.tmp 14)], type := 29, pos := "ref.go:93", after := #[{ on := 1, ground := Ground.data }, { on := 3, ground := Ground.data }], guard := none }) (v := ?_) rfl (by kernel_rfl) (by kernel_rfl) (by kernel_rfl) (fun _ _ _ h => h) (Or.inl ⟨by rfl, ?_⟩) hHeld ?_
    rotate_left
    · intro w hSw; (try dsimp only at hSw); go_simp; (try with_reducible rfl)
    simp only [Act.put, List.setIfInBounds_toArray, List.set_cons_zero, List.set_cons_succ]
    refine wpAnyH_ready (rs := [5]) (by kernel_rfl) (by simp) ?_
    refine AllReadyH.cons (o := { dst := some 16, op := Op.call { callee := Callee.value (Operand.func 37), args := #[Operand.tmp 11, Operand.tmp 15], argTypes := #[25, 29] }, type := 25, pos := "ref.go:93", after := #[{ on := 0, ground := Ground.data }, { on := 4, ground := Ground.data }, { on := 3, ground := Ground.chain }], guard := none }) rfl (fun K hK => ?_) AllReadyH.nil
    go_simp
    refine (rwith_any z7 _ s n true (M.norm l) qn mn Fa7.out Fn7.out Ka.out (M.ris_may HM.out)).mono ?_
    rintro e z8 ⟨v8, rfl, hS, hb⟩
    have B8 := hid (B7.out.trans (hb.mono B7.out.size))
    have Fa8 := hid (Fa7.out.bel hb)
    have Fv8 := hid (Fv7.out.bel hb)
    have Fba8 := hid (bx_bel Fba7.out hb)
    have Fbr8 := hid (bx_bel Fbr7.out hb)
    have Fn8 := hid (Fn7.out.bel hb)
    have RB8 := hid (RB7.out.trans (hb.mono RB7.out.size))
    clear B7 Fa7 Fv7 Fba7 Fbr7 Fn7 RB7
    obtain ⟨wa, wc, wb, wd, rfl⟩ := hS.form
    have Fr8 := hid hS
    clear hS
    clear hb
    refine hK.out _ _ (KH.out _ RB8.out) (fun hHeld => ?_)
    refine wpAnyH_ready (rs := [6]) (by kernel_rfl) (by simp) ?_
    refine AllReadyH.cons (o := { dst := none, op := Op.store 25 (Operand.tmp 6) (Operand.tmp 16), type := 0, pos := "ref.go:93", after := #[{ on := 5, ground := Ground.data }, { on := 5, ground := Ground.chain }, { on := 0, ground := Ground.phase }, { on := 1, ground := Ground.phase }, { on := 2, ground := Ground.phase }, { on := 3, ground := Ground.phase }, { on := 4, ground := Ground.phase }, { on := 5, ground := Ground.phase }], guard := none }) rfl (fun K hK => ?_) AllReadyH.nil
    obtain ⟨r0, r1, rf⟩ := cells2 Fbr8.out
    go_simp
    have hs := KH.out _ RB8.out
    obtain ⟨c0, c1⟩ := hs
    refine hK.out _ _ ⟨(off2c (by have := HGR.out; omega) _ _).trans c0, (off2c (by have := HGR.out; omega) _ _).trans c1⟩ (fun hHeld => ?_)
    clear c0 c1
    refine wpAnyH_done (by kernel_rfl) ?_ _
    clear hHeld KH
    clear RB8
    go_wp2
    refine bodyPost_ret (v := .agg #[.slice wa (M.withF ⟨n, true, M.norm l⟩ s.fs).length wc, .slice wb s.pr.length wd]) (by simp [results, Try.results22, go_sem, r0, r1]) rfl ?_
    exact ⟨_, rfl, Fr8.out.off2 Fbr8.out _ _, set2b B8.out (by have := HGR.out; omega) _ _⟩
end Go.Proofs.Ytcnikcfnfohoeaa
