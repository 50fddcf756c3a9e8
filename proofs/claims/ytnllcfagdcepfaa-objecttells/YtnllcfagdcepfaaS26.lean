/-
  The law of what is told, walked. No conditions.
-/
import Derived.Test.YtnllcfagdcepfaaS22m
import Derived.Test.YtnllcfagdcepfaaS23
import Derived.Test.YtnllcfagdcepfaaS25
set_option linter.unusedVariables false
set_option linter.unusedSimpArgs false
namespace Go.Proofs.Ytnllcfagdcepfaa
open Go.RowKit Go.Sort
namespace M
theorem sm_if {a b : Shp} (ha : smallB a = true) (hb : smallB b = true) : Sm 100000 (if mayS a && mayS b then joinS a b else zeroS) := by
  split
  · exact sm_two ha hb
  · exact ⟨Nat.zero_le _, (fun f hf => by cases hf), Nat.zero_le _⟩
end M
set_option maxHeartbeats 8000000 in
set_option maxRecDepth 100000 in
theorem tells_law (w : World) (va : Value) (sa : M.Shp) (ha : ShAt w va sa) (vb : Value) (sb : M.Shp) (hb : ShAt w vb sb) (n : ByteArray) : Calls Try.prog 3 #[va, vb, .string n] w fun e w' => e = .returned (.bool true) ∧ Below w.heap.size w w' := by
  have mixed := mixedP
  have B0 := hid (Below.refl w.heap.size w)
  obtain ⟨aa, ca, ba, da, rfl⟩ := ha.form
  have Fa := hid ha
  clear ha
  obtain ⟨ab, cb, bb, db, rfl⟩ := hb.form
  have Fb := hid hb
  clear hb
  obtain ⟨V1, hV1⟩ : ∃ W, w.alloc (.cells #[.slice aa sa.fs.length ca, .slice ba sa.pr.length da] 25) = W := ⟨_, rfl⟩
  have hbx : Below w.heap.size w V1 := by rw [← hV1]; exact (gr_new _ _).below
  have Nba : Hid (V1.heap[w.heap.size]? = some (.cells #[.slice aa sa.fs.length ca, .slice ba sa.pr.length da] 25 (0, 0))) := by unfold Hid; rw [← hV1]; exact new_at _ _
  have B2 := hid (B0.out.trans (hbx.mono B0.out.size))
  have Fa2 := hid (Fa.out.bel hbx)
  have Fb2 := hid (Fb.out.bel hbx)
  clear B0 Fa Fb
  clear hbx
  obtain ⟨V3, hV3⟩ : ∃ W, V1.alloc (.cells #[.slice ab sb.fs.length cb, .slice bb sb.pr.length db] 25) = W := ⟨_, rfl⟩
  have hbx : Below V1.heap.size V1 V3 := by rw [← hV3]; exact (gr_new _ _).below
  have Nbb : Hid (V3.heap[V1.heap.size]? = some (.cells #[.slice ab sb.fs.length cb, .slice bb sb.pr.length db] 25 (0, 0))) := by unfold Hid; rw [← hV3]; exact new_at _ _
  have B4 := hid (B2.out.trans (hbx.mono B2.out.size))
  have Fa4 := hid (Fa2.out.bel hbx)
  have Fb4 := hid (Fb2.out.bel hbx)
  have Fba4 := hid (bx_bel Nba.out hbx)
  clear B2 Fa2 Fb2 Nba
  clear hbx
  go_enter Try.func3, Try.ntmps3
  rcases (Bool.eq_false_or_eq_true (M.smallB sa)).symm with hsa | hsa
  · obtain ⟨xba0, xba1, _⟩ := cells2 Fba4.out
    obtain ⟨xbb0, xbb1, _⟩ := cells2 Nbb.out
    go_wp2_with (first | (go_at_call 9; refine stopHere ?_))
    refine stopAt ?_
    refine (small_any V3 _ sa Fa4.out).mono ?_
    rw [hsa]
    rintro e w5 ⟨rfl, hb⟩
    have B5 := hid (B4.out.trans (hb.mono B4.out.size))
    have Fa5 := hid (Fa4.out.bel hb)
    have Fb5 := hid (Fb4.out.bel hb)
    have Fba5 := hid (bx_bel Fba4.out hb)
    have Fbb5 := hid (bx_bel Nbb.out hb)
    clear B4 Fa4 Fb4 Fba4 Nbb
    clear hb xba0 xba1 xbb0 xbb1 hV1 hV3
    obtain ⟨xba0, xba1, _⟩ := cells2 Fba5.out
    obtain ⟨xbb0, xbb1, _⟩ := cells2 Fbb5.out
    go_wp2_with (first | (go_at_call 10; refine stopHere ?_))
    refine stopAt ?_
    refine (fixed_any w5).mono ?_
    rintro e w6 ⟨rfl, hb⟩
    have B6 := hid (B5.out.trans (hb.mono B5.out.size))
    have Fa6 := hid (Fa5.out.bel hb)
    have Fb6 := hid (Fb5.out.bel hb)
    have Fba6 := hid (bx_bel Fba5.out hb)
    have Fbb6 := hid (bx_bel Fbb5.out hb)
    clear B5 Fa5 Fb5 Fba5 Fbb5
    clear hb xba0 xba1 xbb0 xbb1
    go_wp2
    go_ret
    exact ⟨rfl, B6.out⟩
  obtain ⟨xba0, xba1, _⟩ := cells2 Fba4.out
  obtain ⟨xbb0, xbb1, _⟩ := cells2 Nbb.out
  go_wp2_with (first | (go_at_call 9; refine stopHere ?_))
  refine stopAt ?_
  refine (small_any V3 _ sa Fa4.out).mono ?_
  rw [hsa]
  rintro e w5 ⟨rfl, hb⟩
  have B5 := hid (B4.out.trans (hb.mono B4.out.size))
  have Fa5 := hid (Fa4.out.bel hb)
  have Fb5 := hid (Fb4.out.bel hb)
  have Fba5 := hid (bx_bel Fba4.out hb)
  have Fbb5 := hid (bx_bel Nbb.out hb)
  clear B4 Fa4 Fb4 Fba4 Nbb
  clear hb xba0 xba1 xbb0 xbb1 hV1 hV3
  rcases (Bool.eq_false_or_eq_true (M.smallB sb)).symm with hsb | hsb
  · obtain ⟨xba0, xba1, _⟩ := cells2 Fba5.out
    obtain ⟨xbb0, xbb1, _⟩ := cells2 Fbb5.out
    go_wp2_with (first | (go_at_call 9; refine stopHere ?_))
    refine stopAt ?_
    refine (small_any w5 _ sb Fb5.out).mono ?_
    rw [hsb]
    rintro e w6 ⟨rfl, hb⟩
    have B6 := hid (B5.out.trans (hb.mono B5.out.size))
    have Fa6 := hid (Fa5.out.bel hb)
    have Fb6 := hid (Fb5.out.bel hb)
    have Fba6 := hid (bx_bel Fba5.out hb)
    have Fbb6 := hid (bx_bel Fbb5.out hb)
    clear B5 Fa5 Fb5 Fba5 Fbb5
    clear hb xba0 xba1 xbb0 xbb1
    obtain ⟨xba0, xba1, _⟩ := cells2 Fba6.out
    obtain ⟨xbb0, xbb1, _⟩ := cells2 Fbb6.out
    go_wp2_with (first | (go_at_call 10; refine stopHere ?_))
    refine stopAt ?_
    refine (fixed_any w6).mono ?_
    rintro e w7 ⟨rfl, hb⟩
    have B7 := hid (B6.out.trans (hb.mono B6.out.size))
    have Fa7 := hid (Fa6.out.bel hb)
    have Fb7 := hid (Fb6.out.bel hb)
    have Fba7 := hid (bx_bel Fba6.out hb)
    have Fbb7 := hid (bx_bel Fbb6.out hb)
    clear B6 Fa6 Fb6 Fba6 Fbb6
    clear hb xba0 xba1 xbb0 xbb1
    go_wp2
    go_ret
    exact ⟨rfl, B7.out⟩
  obtain ⟨xba0, xba1, _⟩ := cells2 Fba5.out
  obtain ⟨xbb0, xbb1, _⟩ := cells2 Fbb5.out
  go_wp2_with (first | (go_at_call 9; refine stopHere ?_))
  refine stopAt ?_
  refine (small_any w5 _ sb Fb5.out).mono ?_
  rw [hsb]
  rintro e w6 ⟨rfl, hb⟩
  have B6 := hid (B5.out.trans (hb.mono B5.out.size))
  have Fa6 := hid (Fa5.out.bel hb)
  have Fb6 := hid (Fb5.out.bel hb)
  have Fba6 := hid (bx_bel Fba5.out hb)
  have Fbb6 := hid (bx_bel Fbb5.out hb)
  clear B5 Fa5 Fb5 Fba5 Fbb5
  clear hb xba0 xba1 xbb0 xbb1
  have Ka := hid (M.sm_of hsa)
  have Kb := hid (M.sm_of hsb)
  have La := hid (M.sm_mono (M.small_sm hsa) (by decide : (60 : Nat) ≤ 10000))
  have Lb := hid (M.sm_mono (M.small_sm hsb) (by decide : (60 : Nat) ≤ 10000))
  obtain ⟨sj, hsj⟩ : ∃ j, (if M.mayS sa && M.mayS sb then M.joinS sa sb else M.zeroS) = j := ⟨_, rfl⟩
  have Kj : Hid (M.Sm 100000 sj) := by unfold Hid; rw [← hsj]; exact M.sm_if hsa hsb
  have HJ := hid hsj
  have ES := hid (M.sameS_self sj)
  clear hsj hsa hsb
  obtain ⟨p, hp⟩ : ∃ t, (M.getF sa.fs n).isSome = t := ⟨_, rfl⟩
  have Hp := hid hp
  clear hp
  obtain ⟨xba0, xba1, _⟩ := cells2 Fba6.out
  obtain ⟨xbb0, xbb1, _⟩ := cells2 Fbb6.out
  go_wp2_with (first | (go_at_call 11; refine stopHere ?_))
  refine stopAt ?_
  refine (oget_any w6 _ sa n Fa6.out Ka.out).mono ?_
  rintro e w7 ⟨y7, rfl, hyf, hoy, hb⟩
  have B7 := hid (B6.out.trans (hb.mono B6.out.size))
  have Fa7 := hid (Fa6.out.bel hb)
  have Fb7 := hid (Fb6.out.bel hb)
  have Fba7 := hid (bx_bel Fba6.out hb)
  have Fbb7 := hid (bx_bel Fbb6.out hb)
  clear B6 Fa6 Fb6 Fba6 Fbb6
  rw [Hp.out]
  have Ff7 := hid hoy
  have Yf := hid hyf
  clear hoy hyf
  obtain ⟨⟨nmf, suf, vsf⟩, yaf, ycf⟩ := y7
  unfold fv
  clear hb xba0 xba1 xbb0 xbb1
  obtain ⟨V8, hV8⟩ : ∃ W, w7.alloc (.cells #[.string nmf, .bool suf, .slice yaf vsf.length ycf] 29) = W := ⟨_, rfl⟩
  have hbx : Below w7.heap.size w7 V8 := by rw [← hV8]; exact (gr_new _ _).below
  have Nbf : Hid (V8.heap[w7.heap.size]? = some (.cells #[.string nmf, .bool suf, .slice yaf vsf.length ycf] 29 (0, 0))) := by unfold Hid; rw [← hV8]; exact new_at _ _
  have B9 := hid (B7.out.trans (hbx.mono B7.out.size))
  have Fa9 := hid (Fa7.out.bel hbx)
  have Fb9 := hid (Fb7.out.bel hbx)
  have Fba9 := hid (bx_bel Fba7.out hbx)
  have Fbb9 := hid (bx_bel Fbb7.out hbx)
  have Ff9 := hid (Ff7.out.bel hbx)
  clear B7 Fa7 Fb7 Fba7 Fbb7 Ff7
  clear hbx
  obtain ⟨xba0, xba1, _⟩ := cells2 Fba9.out
  obtain ⟨xbb0, xbb1, _⟩ := cells2 Fbb9.out
  obtain ⟨xbf0, xbf1, xbf2, _⟩ := cells3 Nbf.out
  go_wp2_with (first | (go_at_call 12; refine stopHere ?_))
  refine stopAt ?_
  refine (rget_any V8 _ sa n Fa9.out Ka.out).mono ?_
  rintro e w10 ⟨y10, rfl, hyf, hoy, hb⟩
  have B10 := hid (B9.out.trans (hb.mono B9.out.size))
  have Fa10 := hid (Fa9.out.bel hb)
  have Fb10 := hid (Fb9.out.bel hb)
  have Fba10 := hid (bx_bel Fba9.out hb)
  have Fbb10 := hid (bx_bel Fbb9.out hb)
  have Ff10 := hid (Ff9.out.bel hb)
  have Fbf10 := hid (bx_bel Nbf.out hb)
  clear B9 Fa9 Fb9 Fba9 Fbb9 Ff9 Nbf
  rw [Hp.out]
  have Fg10 := hid hoy
  have Yg := hid hyf
  clear hoy hyf
  obtain ⟨⟨nmg, sug, vsg⟩, yag, ycg⟩ := y10
  unfold fv
  have e0 : (⟨nmf, suf, vsf⟩ : M.Fld) = ⟨nmg, sug, vsg⟩ := Yf.out.trans Yg.out.symm
  simp only [M.Fld.mk.injEq] at e0
  obtain ⟨e1, e2, e3⟩ := e0
  subst e1 e2 e3
  clear Yg
  clear hb xba0 xba1 xbb0 xbb1 xbf0 xbf1 xbf2 hV8
  obtain ⟨V11, hV11⟩ : ∃ W, w10.alloc (.cells #[.string nmf, .bool suf, .slice yag vsf.length ycg] 29) = W := ⟨_, rfl⟩
  have hbx : Below w10.heap.size w10 V11 := by rw [← hV11]; exact (gr_new _ _).below
  have Nbg : Hid (V11.heap[w10.heap.size]? = some (.cells #[.string nmf, .bool suf, .slice yag vsf.length ycg] 29 (0, 0))) := by unfold Hid; rw [← hV11]; exact new_at _ _
  have B12 := hid (B10.out.trans (hbx.mono B10.out.size))
  have Fa12 := hid (Fa10.out.bel hbx)
  have Fb12 := hid (Fb10.out.bel hbx)
  have Fba12 := hid (bx_bel Fba10.out hbx)
  have Fbb12 := hid (bx_bel Fbb10.out hbx)
  have Ff12 := hid (Ff10.out.bel hbx)
  have Fbf12 := hid (bx_bel Fbf10.out hbx)
  have Fg12 := hid (Fg10.out.bel hbx)
  clear B10 Fa10 Fb10 Fba10 Fbb10 Ff10 Fbf10 Fg10
  clear hbx
  have Lf := hid (M.get_len Ka.out Yf.out)
  clear Yf Hp
  have EV : Hid (M.sameB vsf vsf = true) := by unfold Hid; simp [M.sameB]
  obtain ⟨xba0, xba1, _⟩ := cells2 Fba12.out
  obtain ⟨xbb0, xbb1, _⟩ := cells2 Fbb12.out
  obtain ⟨xbf0, xbf1, xbf2, _⟩ := cells3 Fbf12.out
  obtain ⟨xbg0, xbg1, xbg2, _⟩ := cells3 Nbg.out
  go_wp2_with fail
  have KH : Hid (∀ W, Below V11.heap.size V11 W → (W.cell? ⟨w.heap.size, 0, none⟩ = some (.slice aa sa.fs.length ca) ∧ W.cell? ⟨w.heap.size, 1, none⟩ = some (.slice ba sa.pr.length da) ∧ W.cell? ⟨V1.heap.size, 0, none⟩ = some (.slice ab sb.fs.length cb) ∧ W.cell? ⟨V1.heap.size, 1, none⟩ = some (.slice bb sb.pr.length db) ∧ W.cell? ⟨w7.heap.size, 0, none⟩ = some (.string nmf) ∧ W.cell? ⟨w7.heap.size, 1, none⟩ = some (.bool suf) ∧ W.cell? ⟨w7.heap.size, 2, none⟩ = some (.slice yaf vsf.length ycf) ∧ W.cell? ⟨w10.heap.size, 0, none⟩ = some (.string nmf) ∧ W.cell? ⟨w10.heap.size, 1, none⟩ = some (.bool suf) ∧ W.cell? ⟨w10.heap.size, 2, none⟩ = some (.slice yag vsf.length ycg))) := fun W hb => by
    obtain ⟨yba0, yba1, _⟩ := cells2 (bx_bel Fba12.out hb)
    obtain ⟨ybb0, ybb1, _⟩ := cells2 (bx_bel Fbb12.out hb)
    obtain ⟨ybf0, ybf1, ybf2, _⟩ := cells3 (bx_bel Fbf12.out hb)
    obtain ⟨ybg0, ybg1, ybg2, _⟩ := cells3 (bx_bel Nbg.out hb)
    exact ⟨yba0, yba1, ybb0, ybb1, ybf0, ybf1, ybf2, ybg0, ybg1, ybg2⟩
  clear xba0 xba1 xbb0 xbb1 xbf0 xbf1 xbf2 xbg0 xbg1 xbg2
  clear hV11
  refine wp_region_held_drew (S := fun W => W.cell? ⟨w.heap.size, 0, none⟩ = some (.slice aa sa.fs.length ca) ∧ W.cell? ⟨w.heap.size, 1, none⟩ = some (.slice ba sa.pr.length da) ∧ W.cell? ⟨V1.heap.size, 0, none⟩ = some (.slice ab sb.fs.length cb) ∧ W.cell? ⟨V1.heap.size, 1, none⟩ = some (.slice bb sb.pr.length db) ∧ W.cell? ⟨w7.heap.size, 0, none⟩ = some (.string nmf) ∧ W.cell? ⟨w7.heap.size, 1, none⟩ = some (.bool suf) ∧ W.cell? ⟨w7.heap.size, 2, none⟩ = some (.slice yaf vsf.length ycf) ∧ W.cell? ⟨w10.heap.size, 0, none⟩ = some (.string nmf) ∧ W.cell? ⟨w10.heap.size, 1, none⟩ = some (.bool suf) ∧ W.cell? ⟨w10.heap.size, 2, none⟩ = some (.slice yag vsf.length ycg)) (by kernel_rfl) (KH.out _ (Below.refl _ _).drew) (fun hHeld => ?_)
  have hbd : Below V11.heap.size V11 V11.drew := (Gr.refl _).drew.below
  have RB0 := hid hbd
  have B13 := hid (B12.out.trans (hbd.mono B12.out.size))
  have Fa13 := hid (Fa12.out.bel hbd)
  have Fb13 := hid (Fb12.out.bel hbd)
  have Fba13 := hid (bx_bel Fba12.out hbd)
  have Fbb13 := hid (bx_bel Fbb12.out hbd)
  have Ff13 := hid (Ff12.out.bel hbd)
  have Fbf13 := hid (bx_bel Fbf12.out hbd)
  have Fg13 := hid (Fg12.out.bel hbd)
  have Fbg13 := hid (bx_bel Nbg.out hbd)
  clear B12 Fa12 Fb12 Fba12 Fbb12 Ff12 Fbf12 Fg12 Nbg
  clear hbd
  refine wpAnyH_ready (rs := [0]) (by kernel_rfl) (by simp) ?_
  refine AllReadyH.cons (o := { dst := some 32, op := Op.call { callee := Callee.value (Operand.func 10), args := #[], argTypes := #[] }, type := 4, pos := "law.go:44", after := #[], guard := none }) rfl (fun K hK => ?_) AllReadyH.nil
  go_simp
  refine (fixed_any V11.drew).mono ?_
  rintro e z14 ⟨rfl, hb⟩
  have B14 := hid (B13.out.trans (hb.mono B13.out.size))
  have Fa14 := hid (Fa13.out.bel hb)
  have Fb14 := hid (Fb13.out.bel hb)
  have Fba14 := hid (bx_bel Fba13.out hb)
  have Fbb14 := hid (bx_bel Fbb13.out hb)
  have Ff14 := hid (Ff13.out.bel hb)
  have Fbf14 := hid (bx_bel Fbf13.out hb)
  have Fg14 := hid (Fg13.out.bel hb)
  have Fbg14 := hid (bx_bel Fbg13.out hb)
  have RB14 := hid (RB0.out.trans (hb.mono RB0.out.size))
  clear B13 Fa13 Fb13 Fba13 Fbb13 Ff13 Fbf13 Fg13 Fbg13 RB0
  clear hb
  refine hK.out _ _ (KH.out _ RB14.out) (fun hHeld => ?_)
  refine wpAnyH_take (i := 1) (oi := { dst := some 33, op := Op.move (Operand.tmp 32), type := 4, pos := "law.go:44", after := #[{ on := 0, ground := Ground.data }, { on := 0, ground := Ground.chain }], guard := none }) (v := ?_) rfl (by kernel_rfl) (by kernel_rfl) (by kernel_rfl) (fun _ _ _ h => h) (Or.inl ⟨by rfl, ?_⟩) hHeld ?_
  rotate_left
  · intro w hSw; (try dsimp only at hSw); go_simp; (try with_reducible rfl)
  simp only [Act.put, List.setIfInBounds_toArray, List.set_cons_zero, List.set_cons_succ]
  refine wpAnyH_take (i := 2) (oi := { dst := some 34, op := Op.load 25 (Operand.tmp 3), type := 25, pos := "law.go:44", after := #[{ on := 1, ground := Ground.guard }], guard := some (1, true) }) (v := ?_) rfl (by kernel_rfl) (by kernel_rfl) (by kernel_rfl) (fun _ _ _ h => h) (Or.inl ⟨by rfl, ?_⟩) hHeld ?_
  rotate_left
  · intro w hSw; (try dsimp only at hSw); go_simp; (try with_reducible rfl)
  simp only [Act.put, List.setIfInBounds_toArray, List.set_cons_zero, List.set_cons_succ]
  refine wpAnyH_take (i := 4) (oi := { dst := some 36, op := Op.load 25 (Operand.tmp 3), type := 25, pos := "law.go:44", after := #[{ on := 1, ground := Ground.guard }], guard := some (1, true) }) (v := ?_) rfl (by kernel_rfl) (by kernel_rfl) (by kernel_rfl) (fun _ _ _ h => h) (Or.inl ⟨by rfl, ?_⟩) hHeld ?_
  rotate_left
  · intro w hSw; (try dsimp only at hSw); go_simp; (try with_reducible rfl)
  simp only [Act.put, List.setIfInBounds_toArray, List.set_cons_zero, List.set_cons_succ]
  refine wpAnyH_ready (rs := [3]) (by kernel_rfl) (by simp) ?_
  refine AllReadyH.cons (o := { dst := some 35, op := Op.call { callee := Callee.value (Operand.func 13), args := #[Operand.tmp 34], argTypes := #[25] }, type := 4, pos := "law.go:44", after := #[{ on := 2, ground := Ground.data }, { on := 1, ground := Ground.chain }, { on := 1, ground := Ground.guard }], guard := some (1, true) }) rfl (fun K hK => ?_) AllReadyH.nil
  go_simp
  refine (omay_any z14 _ sa Fa14.out Ka.out).mono ?_
  rintro e z15 ⟨rfl, hb⟩
  have B15 := hid (B14.out.trans (hb.mono B14.out.size))
  have Fa15 := hid (Fa14.out.bel hb)
  have Fb15 := hid (Fb14.out.bel hb)
  have Fba15 := hid (bx_bel Fba14.out hb)
  have Fbb15 := hid (bx_bel Fbb14.out hb)
  have Ff15 := hid (Ff14.out.bel hb)
  have Fbf15 := hid (bx_bel Fbf14.out hb)
  have Fg15 := hid (Fg14.out.bel hb)
  have Fbg15 := hid (bx_bel Fbg14.out hb)
  have RB15 := hid (RB14.out.trans (hb.mono RB14.out.size))
  clear B14 Fa14 Fb14 Fba14 Fbb14 Ff14 Fbf14 Fg14 Fbg14 RB14
  clear hb
  refine hK.out _ _ (KH.out _ RB15.out) (fun hHeld => ?_)
  refine wpAnyH_ready (rs := [5]) (by kernel_rfl) (by simp) ?_
  refine AllReadyH.cons (o := { dst := some 37, op := Op.call { callee := Callee.value (Operand.func 14), args := #[Operand.tmp 36], argTypes := #[25] }, type := 4, pos := "law.go:44", after := #[{ on := 4, ground := Ground.data }, { on := 3, ground := Ground.chain }, { on := 1, ground := Ground.guard }], guard := some (1, true) }) rfl (fun K hK => ?_) AllReadyH.nil
  go_simp
  refine (rmayS_any z15 _ sa Fa15.out Ka.out).mono ?_
  rintro e z16 ⟨rfl, hb⟩
  have B16 := hid (B15.out.trans (hb.mono B15.out.size))
  have Fa16 := hid (Fa15.out.bel hb)
  have Fb16 := hid (Fb15.out.bel hb)
  have Fba16 := hid (bx_bel Fba15.out hb)
  have Fbb16 := hid (bx_bel Fbb15.out hb)
  have Ff16 := hid (Ff15.out.bel hb)
  have Fbf16 := hid (bx_bel Fbf15.out hb)
  have Fg16 := hid (Fg15.out.bel hb)
  have Fbg16 := hid (bx_bel Fbg15.out hb)
  have RB16 := hid (RB15.out.trans (hb.mono RB15.out.size))
  clear B15 Fa15 Fb15 Fba15 Fbb15 Ff15 Fbf15 Fg15 Fbg15 RB15
  clear hb
  refine hK.out _ _ (KH.out _ RB16.out) (fun hHeld => ?_)
  refine wpAnyH_take (i := 6) (oi := { dst := some 38, op := Op.binOp BinOp.eql 4 (Operand.tmp 35) (Operand.tmp 37) 4, type := 4, pos := "law.go:44", after := #[{ on := 3, ground := Ground.data }, { on := 5, ground := Ground.data }, { on := 1, ground := Ground.guard }], guard := some (1, true) }) (v := ?_) rfl (by kernel_rfl) (by kernel_rfl) (by kernel_rfl) (fun _ _ _ h => h) (Or.inl ⟨by rfl, ?_⟩) hHeld ?_
  rotate_left
  · intro w hSw; (try dsimp only at hSw); go_simp; (try with_reducible rfl)
  simp only [Act.put, List.setIfInBounds_toArray, List.set_cons_zero, List.set_cons_succ]
  refine wpAnyH_take (i := 7) (oi := { dst := some 39, op := Op.pick (Operand.tmp 33) (Operand.tmp 38) (Operand.const (Value.bool false)), type := 4, pos := "law.go:44", after := #[{ on := 1, ground := Ground.data }, { on := 6, ground := Ground.data }], guard := none }) (v := ?_) rfl (by kernel_rfl) (by kernel_rfl) (by kernel_rfl) (fun _ _ _ h => h) (Or.inl ⟨by rfl, ?_⟩) hHeld ?_
  rotate_left
  · intro w hSw; (try dsimp only at hSw); go_simp; (try with_reducible rfl)
  simp only [Act.put, List.setIfInBounds_toArray, List.set_cons_zero, List.set_cons_succ]
  refine wpAnyH_take (i := 8) (oi := { dst := some 40, op := Op.move (Operand.tmp 39), type := 4, pos := "law.go:44", after := #[{ on := 7, ground := Ground.data }, { on := 5, ground := Ground.chain }], guard := none }) (v := ?_) rfl (by kernel_rfl) (by kernel_rfl) (by kernel_rfl) (fun _ _ _ h => h) (Or.inl ⟨by rfl, ?_⟩) hHeld ?_
  rotate_left
  · intro w hSw; (try dsimp only at hSw); go_simp; (try with_reducible rfl)
  simp only [Act.put, List.setIfInBounds_toArray, List.set_cons_zero, List.set_cons_succ]
  refine wpAnyH_take (i := 9) (oi := { dst := some 41, op := Op.fieldAddr 29 (Operand.tmp 7) 0, type := 0, pos := "law.go:44", after := #[{ on := 8, ground := Ground.guard }], guard := some (8, true) }) (v := ?_) rfl (by kernel_rfl) (by kernel_rfl) (by kernel_rfl) (fun _ _ _ h => h) (Or.inl ⟨by rfl, ?_⟩) hHeld ?_
  rotate_left
  · intro w hSw; (try dsimp only at hSw); go_simp; (try with_reducible rfl)
  simp only [Act.put, List.setIfInBounds_toArray, List.set_cons_zero, List.set_cons_succ]
  refine wpAnyH_take (i := 10) (oi := { dst := some 42, op := Op.load 9 (Operand.tmp 41), type := 9, pos := "law.go:44", after := #[{ on := 9, ground := Ground.data }, { on := 8, ground := Ground.guard }], guard := some (8, true) }) (v := ?_) rfl (by kernel_rfl) (by kernel_rfl) (by kernel_rfl) (fun _ _ _ h => h) (Or.inl ⟨by rfl, ?_⟩) hHeld ?_
  rotate_left
  · intro w hSw; (try dsimp only at hSw); go_simp; (try with_reducible rfl)
  simp only [Act.put, List.setIfInBounds_toArray, List.set_cons_zero, List.set_cons_succ]
  refine wpAnyH_take (i := 11) (oi := { dst := some 43, op := Op.fieldAddr 29 (Operand.tmp 9) 0, type := 0, pos := "law.go:44", after := #[{ on := 8, ground := Ground.guard }], guard := some (8, true) }) (v := ?_) rfl (by kernel_rfl) (by kernel_rfl) (by kernel_rfl) (fun _ _ _ h => h) (Or.inl ⟨by rfl, ?_⟩) hHeld ?_
  rotate_left
  · intro w hSw; (try dsimp only at hSw); go_simp; (try with_reducible rfl)
  simp only [Act.put, List.setIfInBounds_toArray, List.set_cons_zero, List.set_cons_succ]
  refine wpAnyH_take (i := 12) (oi := { dst := some 44, op := Op.load 9 (Operand.tmp 43), type := 9, pos := "law.go:44", after := #[{ on := 11, ground := Ground.data }, { on := 8, ground := Ground.guard }], guard := some (8, true) }) (v := ?_) rfl (by kernel_rfl) (by kernel_rfl) (by kernel_rfl) (fun _ _ _ h => h) (Or.inl ⟨by rfl, ?_⟩) hHeld ?_
  rotate_left
  · intro w hSw; (try dsimp only at hSw); go_simp; (try with_reducible rfl)
  simp only [Act.put, List.setIfInBounds_toArray, List.set_cons_zero, List.set_cons_succ]
  refine wpAnyH_take (i := 13) (oi := { dst := some 45, op := Op.binOp BinOp.eql 9 (Operand.tmp 42) (Operand.tmp 44) 9, type := 4, pos := "law.go:44", after := #[{ on := 10, ground := Ground.data }, { on := 12, ground := Ground.data }, { on := 8, ground := Ground.guard }], guard := some (8, true) }) (v := ?_) rfl (by kernel_rfl) (by kernel_rfl) (by kernel_rfl) (fun _ _ _ h => h) (Or.inl ⟨by rfl, ?_⟩) hHeld ?_
  rotate_left
  · intro w hSw; (try dsimp only at hSw); go_simp; (try with_reducible rfl)
  simp only [Act.put, List.setIfInBounds_toArray, List.set_cons_zero, List.set_cons_succ]
  refine wpAnyH_take (i := 14) (oi := { dst := some 46, op := Op.pick (Operand.tmp 40) (Operand.tmp 45) (Operand.const (Value.bool false)), type := 4, pos := "law.go:44", after := #[{ on := 8, ground := Ground.data }, { on := 13, ground := Ground.data }], guard := none }) (v := ?_) rfl (by kernel_rfl) (by kernel_rfl) (by kernel_rfl) (fun _ _ _ h => h) (Or.inl ⟨by rfl, ?_⟩) hHeld ?_
  rotate_left
  · intro w hSw; (try dsimp only at hSw); go_simp; (try with_reducible rfl)
  simp only [Act.put, List.setIfInBounds_toArray, List.set_cons_zero, List.set_cons_succ]
  refine wpAnyH_take (i := 15) (oi := { dst := some 47, op := Op.move (Operand.tmp 46), type := 4, pos := "law.go:44", after := #[{ on := 14, ground := Ground.data }, { on := 8, ground := Ground.chain }], guard := none }) (v := ?_) rfl (by kernel_rfl) (by kernel_rfl) (by kernel_rfl) (fun _ _ _ h => h) (Or.inl ⟨by rfl, ?_⟩) hHeld ?_
  rotate_left
  · intro w hSw; (try dsimp only at hSw); go_simp; (try with_reducible rfl)
  simp only [Act.put, List.setIfInBounds_toArray, List.set_cons_zero, List.set_cons_succ]
  refine wpAnyH_take (i := 16) (oi := { dst := some 48, op := Op.fieldAddr 29 (Operand.tmp 7) 1, type := 0, pos := "law.go:44", after := #[{ on := 15, ground := Ground.guard }], guard := some (15, true) }) (v := ?_) rfl (by kernel_rfl) (by kernel_rfl) (by kernel_rfl) (fun _ _ _ h => h) (Or.inl ⟨by rfl, ?_⟩) hHeld ?_
  rotate_left
  · intro w hSw; (try dsimp only at hSw); go_simp; (try with_reducible rfl)
  simp only [Act.put, List.setIfInBounds_toArray, List.set_cons_zero, List.set_cons_succ]
  refine wpAnyH_take (i := 17) (oi := { dst := some 49, op := Op.load 4 (Operand.tmp 48), type := 4, pos := "law.go:44", after := #[{ on := 16, ground := Ground.data }, { on := 15, ground := Ground.guard }], guard := some (15, true) }) (v := ?_) rfl (by kernel_rfl) (by kernel_rfl) (by kernel_rfl) (fun _ _ _ h => h) (Or.inl ⟨by rfl, ?_⟩) hHeld ?_
  rotate_left
  · intro w hSw; (try dsimp only at hSw); go_simp; (try with_reducible rfl)
  simp only [Act.put, List.setIfInBounds_toArray, List.set_cons_zero, List.set_cons_succ]
  refine wpAnyH_take (i := 18) (oi := { dst := some 50, op := Op.fieldAddr 29 (Operand.tmp 9) 1, type := 0, pos := "law.go:44", after := #[{ on := 15, ground := Ground.guard }], guard := some (15, true) }) (v := ?_) rfl (by kernel_rfl) (by kernel_rfl) (by kernel_rfl) (fun _ _ _ h => h) (Or.inl ⟨by rfl, ?_⟩) hHeld ?_
  rotate_left
  · intro w hSw; (try dsimp only at hSw); go_simp; (try with_reducible rfl)
  simp only [Act.put, List.setIfInBounds_toArray, List.set_cons_zero, List.set_cons_succ]
  refine wpAnyH_take (i := 19) (oi := { dst := some 51, op := Op.load 4 (Operand.tmp 50), type := 4, pos := "law.go:44", after := #[{ on := 18, ground := Ground.data }, { on := 15, ground := Ground.guard }], guard := some (15, true) }) (v := ?_) rfl (by kernel_rfl) (by kernel_rfl) (by kernel_rfl) (fun _ _ _ h => h) (Or.inl ⟨by rfl, ?_⟩) hHeld ?_
  rotate_left
  · intro w hSw; (try dsimp only at hSw); go_simp; (try with_reducible rfl)
  simp only [Act.put, List.setIfInBounds_toArray, List.set_cons_zero, List.set_cons_succ]
  refine wpAnyH_take (i := 20) (oi := { dst := some 52, op := Op.binOp BinOp.eql 4 (Operand.tmp 49) (Operand.tmp 51) 4, type := 4, pos := "law.go:44", after := #[{ on := 17, ground := Ground.data }, { on := 19, ground := Ground.data }, { on := 15, ground := Ground.guard }], guard := some (15, true) }) (v := ?_) rfl (by kernel_rfl) (by kernel_rfl) (by kernel_rfl) (fun _ _ _ h => h) (Or.inl ⟨by rfl, ?_⟩) hHeld ?_
  rotate_left
  · intro w hSw; (try dsimp only at hSw); go_simp; (try with_reducible rfl)
  simp only [Act.put, List.setIfInBounds_toArray, List.set_cons_zero, List.set_cons_succ]
  refine wpAnyH_take (i := 21) (oi := { dst := some 53, op := Op.pick (Operand.tmp 47) (Operand.tmp 52) (Operand.const (Value.bool false)), type := 4, pos := "law.go:44", after := #[{ on := 15, ground := Ground.data }, { on := 20, ground := Ground.data }], guard := none }) (v := ?_) rfl (by kernel_rfl) (by kernel_rfl) (by kernel_rfl) (fun _ _ _ h => h) (Or.inl ⟨by rfl, ?_⟩) hHeld ?_
  rotate_left
  · intro w hSw; (try dsimp only at hSw); go_simp; (try with_reducible rfl)
  simp only [Act.put, List.setIfInBounds_toArray, List.set_cons_zero, List.set_cons_succ]
  refine wpAnyH_take (i := 22) (oi := { dst := some 54, op := Op.move (Operand.tmp 53), type := 4, pos := "law.go:44", after := #[{ on := 21, ground := Ground.data }, { on := 15, ground := Ground.chain }], guard := none }) (v := ?_) rfl (by kernel_rfl) (by kernel_rfl) (by kernel_rfl) (fun _ _ _ h => h) (Or.inl ⟨by rfl, ?_⟩) hHeld ?_
  rotate_left
  · intro w hSw; (try dsimp only at hSw); go_simp; (try with_reducible rfl)
  simp only [Act.put, List.setIfInBounds_toArray, List.set_cons_zero, List.set_cons_succ]
  refine wpAnyH_take (i := 23) (oi := { dst := some 55, op := Op.fieldAddr 29 (Operand.tmp 7) 2, type := 0, pos := "law.go:44", after := #[{ on := 22, ground := Ground.guard }], guard := some (22, true) }) (v := ?_) rfl (by kernel_rfl) (by kernel_rfl) (by kernel_rfl) (fun _ _ _ h => h) (Or.inl ⟨by rfl, ?_⟩) hHeld ?_
  rotate_left
  · intro w hSw; (try dsimp only at hSw); go_simp; (try with_reducible rfl)
  simp only [Act.put, List.setIfInBounds_toArray, List.set_cons_zero, List.set_cons_succ]
  refine wpAnyH_take (i := 24) (oi := { dst := some 56, op := Op.load 23 (Operand.tmp 55), type := 23, pos := "law.go:44", after := #[{ on := 23, ground := Ground.data }, { on := 22, ground := Ground.guard }], guard := some (22, true) }) (v := ?_) rfl (by kernel_rfl) (by kernel_rfl) (by kernel_rfl) (fun _ _ _ h => h) (Or.inl ⟨by rfl, ?_⟩) hHeld ?_
  rotate_left
  · intro w hSw; (try dsimp only at hSw); go_simp; (try with_reducible rfl)
  simp only [Act.put, List.setIfInBounds_toArray, List.set_cons_zero, List.set_cons_succ]
  refine wpAnyH_take (i := 25) (oi := { dst := some 57, op := Op.fieldAddr 29 (Operand.tmp 9) 2, type := 0, pos := "law.go:44", after := #[{ on := 22, ground := Ground.guard }], guard := some (22, true) }) (v := ?_) rfl (by kernel_rfl) (by kernel_rfl) (by kernel_rfl) (fun _ _ _ h => h) (Or.inl ⟨by rfl, ?_⟩) hHeld ?_
  rotate_left
  · intro w hSw; (try dsimp only at hSw); go_simp; (try with_reducible rfl)
  simp only [Act.put, List.setIfInBounds_toArray, List.set_cons_zero, List.set_cons_succ]
  refine wpAnyH_take (i := 26) (oi := { dst := some 58, op := Op.load 23 (Operand.tmp 57), type := 23, pos := "law.go:44", after := #[{ on := 25, ground := Ground.data }, { on := 22, ground := Ground.guard }], guard := some (22, true) }) (v := ?_) rfl (by kernel_rfl) (by kernel_rfl) (by kernel_rfl) (fun _ _ _ h => h) (Or.inl ⟨by rfl, ?_⟩) hHeld ?_
  rotate_left
  · intro w hSw; (try dsimp only at hSw); go_simp; (try with_reducible rfl)
  simp only [Act.put, List.setIfInBounds_toArray, List.set_cons_zero, List.set_cons_succ]
  refine wpAnyH_ready (rs := [27]) (by kernel_rfl) (by simp) ?_
  refine AllReadyH.cons (o := { dst := some 59, op := Op.call { callee := Callee.value (Operand.func 15), args := #[Operand.tmp 56, Operand.tmp 58], argTypes := #[23, 23] }, type := 4, pos := "law.go:44", after := #[{ on := 24, ground := Ground.data }, { on := 26, ground := Ground.data }, { on := 22, ground := Ground.chain }, { on := 22, ground := Ground.guard }], guard := some (22, true) }) rfl (fun K hK => ?_) AllReadyH.nil
  go_simp
  refine (same_any z16 _ _ vsf vsf Ff16.out Fg16.out (Nat.le_trans Lf.out (by decide))).mono ?_
  rw [EV.out]
  rintro e z17 ⟨rfl, hb⟩
  have B17 := hid (B16.out.trans (hb.mono B16.out.size))
  have Fa17 := hid (Fa16.out.bel hb)
  have Fb17 := hid (Fb16.out.bel hb)
  have Fba17 := hid (bx_bel Fba16.out hb)
  have Fbb17 := hid (bx_bel Fbb16.out hb)
  have Ff17 := hid (Ff16.out.bel hb)
  have Fbf17 := hid (bx_bel Fbf16.out hb)
  have Fg17 := hid (Fg16.out.bel hb)
  have Fbg17 := hid (bx_bel Fbg16.out hb)
  have RB17 := hid (RB16.out.trans (hb.mono RB16.out.size))
  clear B16 Fa16 Fb16 Fba16 Fbb16 Ff16 Fbf16 Fg16 Fbg16 RB16
  clear hb
  refine hK.out _ _ (KH.out _ RB17.out) (fun hHeld => ?_)
  refine wpAnyH_take (i := 28) (oi := { dst := some 60, op := Op.pick (Operand.tmp 54) (Operand.tmp 59) (Operand.const (Value.bool false)), type := 4, pos := "law.go:44", after := #[{ on := 22, ground := Ground.data }, { on := 27, ground := Ground.data }], guard := none }) (v := ?_) rfl (by kernel_rfl) (by kernel_rfl) (by kernel_rfl) (fun _ _ _ h => h) (Or.inl ⟨by rfl, ?_⟩) hHeld ?_
  rotate_left
  · intro w hSw; (try dsimp only at hSw); go_simp; (try with_reducible rfl)
  simp only [Act.put, List.setIfInBounds_toArray, List.set_cons_zero, List.set_cons_succ]
  refine wpAnyH_take (i := 29) (oi := { dst := some 61, op := Op.move (Operand.tmp 60), type := 4, pos := "law.go:44", after := #[{ on := 28, ground := Ground.data }, { on := 27, ground := Ground.chain }], guard := none }) (v := ?_) rfl (by kernel_rfl) (by kernel_rfl) (by kernel_rfl) (fun _ _ _ h => h) (Or.inl ⟨by rfl, ?_⟩) hHeld ?_
  rotate_left
  · intro w hSw; (try dsimp only at hSw); go_simp; (try with_reducible rfl)
  simp only [Act.put, List.setIfInBounds_toArray, List.set_cons_zero, List.set_cons_succ]
  refine wpAnyH_take (i := 30) (oi := { dst := some 62, op := Op.move (Operand.tmp 8), type := 4, pos := "law.go:44", after := #[{ on := 29, ground := Ground.guard }], guard := some (29, true) }) (v := ?_) rfl (by kernel_rfl) (by kernel_rfl) (by kernel_rfl) (fun _ _ _ h => h) (Or.inl ⟨by rfl, ?_⟩) hHeld ?_
  rotate_left
  · intro w hSw; (try dsimp only at hSw); go_simp; (try with_reducible rfl)
  simp only [Act.put, List.setIfInBounds_toArray, List.set_cons_zero, List.set_cons_succ]
  refine wpAnyH_take (i := 31) (oi := { dst := some 63, op := Op.move (Operand.tmp 10), type := 4, pos := "law.go:44", after := #[{ on := 29, ground := Ground.guard }], guard := some (29, true) }) (v := ?_) rfl (by kernel_rfl) (by kernel_rfl) (by kernel_rfl) (fun _ _ _ h => h) (Or.inl ⟨by rfl, ?_⟩) hHeld ?_
  rotate_left
  · intro w hSw; (try dsimp only at hSw); go_simp; (try with_reducible rfl)
  simp only [Act.put, List.setIfInBounds_toArray, List.set_cons_zero, List.set_cons_succ]
  refine wpAnyH_take (i := 32) (oi := { dst := some 64, op := Op.binOp BinOp.eql 4 (Operand.tmp 62) (Operand.tmp 63) 4, type := 4, pos := "law.go:44", after := #[{ on := 30, ground := Ground.data }, { on := 31, ground := Ground.data }, { on := 29, ground := Ground.guard }], guard := some (29, true) }) (v := ?_) rfl (by kernel_rfl) (by kernel_rfl) (by kernel_rfl) (fun _ _ _ h => h) (Or.inl ⟨by rfl, ?_⟩) hHeld ?_
  rotate_left
  · intro w hSw; (try dsimp only at hSw); go_simp; (try with_reducible rfl)
  simp only [Act.put, List.setIfInBounds_toArray, List.set_cons_zero, List.set_cons_succ]
  refine wpAnyH_take (i := 33) (oi := { dst := some 65, op := Op.pick (Operand.tmp 61) (Operand.tmp 64) (Operand.const (Value.bool false)), type := 4, pos := "law.go:44", after := #[{ on := 29, ground := Ground.data }, { on := 32, ground := Ground.data }], guard := none }) (v := ?_) rfl (by kernel_rfl) (by kernel_rfl) (by kernel_rfl) (fun _ _ _ h => h) (Or.inl ⟨by rfl, ?_⟩) hHeld ?_
  rotate_left
  · intro w hSw; (try dsimp only at hSw); go_simp; (try with_reducible rfl)
  simp only [Act.put, List.setIfInBounds_toArray, List.set_cons_zero, List.set_cons_succ]
  refine wpAnyH_take (i := 34) (oi := { dst := some 66, op := Op.move (Operand.tmp 65), type := 4, pos := "law.go:44", after := #[{ on := 33, ground := Ground.data }, { on := 29, ground := Ground.chain }], guard := none }) (v := ?_) rfl (by kernel_rfl) (by kernel_rfl) (by kernel_rfl) (fun _ _ _ h => h) (Or.inl ⟨by rfl, ?_⟩) hHeld ?_
  rotate_left
  · intro w hSw; (try dsimp only at hSw); go_simp; (try with_reducible rfl)
  simp only [Act.put, List.setIfInBounds_toArray, List.set_cons_zero, List.set_cons_succ]
  refine wpAnyH_take (i := 35) (oi := { dst := some 67, op := Op.load 25 (Operand.tmp 3), type := 25, pos := "law.go:44", after := #[{ on := 34, ground := Ground.guard }], guard := some (34, true) }) (v := ?_) rfl (by kernel_rfl) (by kernel_rfl) (by kernel_rfl) (fun _ _ _ h => h) (Or.inl ⟨by rfl, ?_⟩) hHeld ?_
  rotate_left
  · intro w hSw; (try dsimp only at hSw); go_simp; (try with_reducible rfl)
  simp only [Act.put, List.setIfInBounds_toArray, List.set_cons_zero, List.set_cons_succ]
  refine wpAnyH_take (i := 36) (oi := { dst := some 68, op := Op.load 25 (Operand.tmp 4), type := 25, pos := "law.go:44", after := #[{ on := 34, ground := Ground.guard }], guard := some (34, true) }) (v := ?_) rfl (by kernel_rfl) (by kernel_rfl) (by kernel_rfl) (fun _ _ _ h => h) (Or.inl ⟨by rfl, ?_⟩) hHeld ?_
  rotate_left
  · intro w hSw; (try dsimp only at hSw); go_simp; (try with_reducible rfl)
  simp only [Act.put, List.setIfInBounds_toArray, List.set_cons_zero, List.set_cons_succ]
  refine wpAnyH_take (i := 38) (oi := { dst := some 70, op := Op.load 25 (Operand.tmp 3), type := 25, pos := "law.go:44", after := #[{ on := 34, ground := Ground.guard }], guard := some (34, true) }) (v := ?_) rfl (by kernel_rfl) (by kernel_rfl) (by kernel_rfl) (fun _ _ _ h => h) (Or.inl ⟨by rfl, ?_⟩) hHeld ?_
  rotate_left
  · intro w hSw; (try dsimp only at hSw); go_simp; (try with_reducible rfl)
  simp only [Act.put, List.setIfInBounds_toArray, List.set_cons_zero, List.set_cons_succ]
  refine wpAnyH_take (i := 39) (oi := { dst := some 71, op := Op.load 25 (Operand.tmp 4), type := 25, pos := "law.go:44", after := #[{ on := 34, ground := Ground.guard }], guard := some (34, true) }) (v := ?_) rfl (by kernel_rfl) (by kernel_rfl) (by kernel_rfl) (fun _ _ _ h => h) (Or.inl ⟨by rfl, ?_⟩) hHeld ?_
  rotate_left
  · intro w hSw; (try dsimp only at hSw); go_simp; (try with_reducible rfl)
  simp only [Act.put, List.setIfInBounds_toArray, List.set_cons_zero, List.set_cons_succ]
  refine wpAnyH_ready (rs := [37]) (by kernel_rfl) (by simp) ?_
  refine AllReadyH.cons (o := { dst := some 69, op := Op.call { callee := Callee.value (Operand.func 17), args := #[Operand.tmp 67, Operand.tmp 68], argTypes := #[25, 25] }, type := 25, pos := "law.go:44", after := #[{ on := 35, ground := Ground.data }, { on := 36, ground := Ground.data }, { on := 34, ground := Ground.chain }, { on := 34, ground := Ground.guard }], guard := some (34, true) }) rfl (fun K hK => ?_) AllReadyH.nil
  go_simp
  refine (ojoin_any z17 _ _ sa sb Fa17.out Fb17.out Ka.out Kb.out).mono ?_
  rintro e z18 ⟨v18, rfl, hsh, hb⟩
  have B18 := hid (B17.out.trans (hb.mono B17.out.size))
  have Fa18 := hid (Fa17.out.bel hb)
  have Fb18 := hid (Fb17.out.bel hb)
  have Fba18 := hid (bx_bel Fba17.out hb)
  have Fbb18 := hid (bx_bel Fbb17.out hb)
  have Ff18 := hid (Ff17.out.bel hb)
  have Fbf18 := hid (bx_bel Fbf17.out hb)
  have Fg18 := hid (Fg17.out.bel hb)
  have Fbg18 := hid (bx_bel Fbg17.out hb)
  have RB18 := hid (RB17.out.trans (hb.mono RB17.out.size))
  clear B17 Fa17 Fb17 Fba17 Fbb17 Ff17 Fbf17 Fg17 Fbg17 RB17
  rw [HJ.out] at hsh
  have Fx18 := hid hsh.at
  clear hsh
  clear hb
  refine hK.out _ _ (KH.out _ RB18.out) (fun hHeld => ?_)
  refine wpAnyH_ready (rs := [40]) (by kernel_rfl) (by simp) ?_
  refine AllReadyH.cons (o := { dst := some 72, op := Op.call { callee := Callee.value (Operand.func 18), args := #[Operand.tmp 70, Operand.tmp 71], argTypes := #[25, 25] }, type := 25, pos := "law.go:44", after := #[{ on := 38, ground := Ground.data }, { on := 39, ground := Ground.data }, { on := 37, ground := Ground.chain }, { on := 34, ground := Ground.guard }], guard := some (34, true) }) rfl (fun K hK => ?_) AllReadyH.nil
  go_simp
  refine (rjoinS_any z18 _ _ sa sb Fa18.out Fb18.out La.out Lb.out).mono ?_
  rintro e z19 ⟨v19, rfl, hsh, hb⟩
  have B19 := hid (B18.out.trans (hb.mono B18.out.size))
  have Fa19 := hid (Fa18.out.bel hb)
  have Fb19 := hid (Fb18.out.bel hb)
  have Fba19 := hid (bx_bel Fba18.out hb)
  have Fbb19 := hid (bx_bel Fbb18.out hb)
  have Ff19 := hid (Ff18.out.bel hb)
  have Fbf19 := hid (bx_bel Fbf18.out hb)
  have Fg19 := hid (Fg18.out.bel hb)
  have Fbg19 := hid (bx_bel Fbg18.out hb)
  have Fx19 := hid (Fx18.out.bel hb)
  have RB19 := hid (RB18.out.trans (hb.mono RB18.out.size))
  clear B18 Fa18 Fb18 Fba18 Fbb18 Ff18 Fbf18 Fg18 Fbg18 Fx18 RB18
  rw [HJ.out] at hsh
  have Fy19 := hid hsh
  clear hsh
  clear hb
  refine hK.out _ _ (KH.out _ RB19.out) (fun hHeld => ?_)
  refine wpAnyH_ready (rs := [41]) (by kernel_rfl) (by simp) ?_
  refine AllReadyH.cons (o := { dst := some 73, op := Op.call { callee := Callee.value (Operand.func 16), args := #[Operand.tmp 69, Operand.tmp 72], argTypes := #[25, 25] }, type := 4, pos := "law.go:44", after := #[{ on := 37, ground := Ground.data }, { on := 40, ground := Ground.data }, { on := 40, ground := Ground.chain }, { on := 34, ground := Ground.guard }], guard := some (34, true) }) rfl (fun K hK => ?_) AllReadyH.nil
  go_simp
  refine (rsameS_any z19 _ _ sj sj Fx19.out Fy19.out Kj.out).mono ?_
  rw [ES.out]
  rintro e z20 ⟨rfl, hb⟩
  have B20 := hid (B19.out.trans (hb.mono B19.out.size))
  have Fa20 := hid (Fa19.out.bel hb)
  have Fb20 := hid (Fb19.out.bel hb)
  have Fba20 := hid (bx_bel Fba19.out hb)
  have Fbb20 := hid (bx_bel Fbb19.out hb)
  have Ff20 := hid (Ff19.out.bel hb)
  have Fbf20 := hid (bx_bel Fbf19.out hb)
  have Fg20 := hid (Fg19.out.bel hb)
  have Fbg20 := hid (bx_bel Fbg19.out hb)
  have Fx20 := hid (Fx19.out.bel hb)
  have Fy20 := hid (Fy19.out.bel hb)
  have RB20 := hid (RB19.out.trans (hb.mono RB19.out.size))
  clear B19 Fa19 Fb19 Fba19 Fbb19 Ff19 Fbf19 Fg19 Fbg19 Fx19 Fy19 RB19
  clear hb
  refine hK.out _ _ (KH.out _ RB20.out) (fun hHeld => ?_)
  refine wpAnyH_take (i := 42) (oi := { dst := some 74, op := Op.pick (Operand.tmp 66) (Operand.tmp 73) (Operand.const (Value.bool false)), type := 4, pos := "law.go:44", after := #[{ on := 34, ground := Ground.data }, { on := 41, ground := Ground.data }], guard := none }) (v := ?_) rfl (by kernel_rfl) (by kernel_rfl) (by kernel_rfl) (fun _ _ _ h => h) (Or.inl ⟨by rfl, ?_⟩) hHeld ?_
  rotate_left
  · intro w hSw; (try dsimp only at hSw); go_simp; (try with_reducible rfl)
  simp only [Act.put, List.setIfInBounds_toArray, List.set_cons_zero, List.set_cons_succ]
  refine wpAnyH_take (i := 43) (oi := { dst := some 75, op := Op.move (Operand.tmp 74), type := 4, pos := "law.go:44", after := #[{ on := 42, ground := Ground.data }, { on := 41, ground := Ground.chain }], guard := none }) (v := ?_) rfl (by kernel_rfl) (by kernel_rfl) (by kernel_rfl) (fun _ _ _ h => h) (Or.inl ⟨by rfl, ?_⟩) hHeld ?_
  rotate_left
  · intro w hSw; (try dsimp only at hSw); go_simp; (try with_reducible rfl)
  simp only [Act.put, List.setIfInBounds_toArray, List.set_cons_zero, List.set_cons_succ]
  refine wpAnyH_take (i := 44) (oi := { dst := some 76, op := Op.load 25 (Operand.tmp 3), type := 25, pos := "law.go:44", after := #[{ on := 43, ground := Ground.guard }], guard := some (43, true) }) (v := ?_) rfl (by kernel_rfl) (by kernel_rfl) (by kernel_rfl) (fun _ _ _ h => h) (Or.inl ⟨by rfl, ?_⟩) hHeld ?_
  rotate_left
  · intro w hSw; (try dsimp only at hSw); go_simp; (try with_reducible rfl)
  simp only [Act.put, List.setIfInBounds_toArray, List.set_cons_zero, List.set_cons_succ]
  refine wpAnyH_take (i := 45) (oi := { dst := some 77, op := Op.load 25 (Operand.tmp 4), type := 25, pos := "law.go:44", after := #[{ on := 43, ground := Ground.guard }], guard := some (43, true) }) (v := ?_) rfl (by kernel_rfl) (by kernel_rfl) (by kernel_rfl) (fun _ _ _ h => h) (Or.inl ⟨by rfl, ?_⟩) hHeld ?_
  rotate_left
  · intro w hSw; (try dsimp only at hSw); go_simp; (try with_reducible rfl)
  simp only [Act.put, List.setIfInBounds_toArray, List.set_cons_zero, List.set_cons_succ]
  refine wpAnyH_take (i := 47) (oi := { dst := some 79, op := Op.load 25 (Operand.tmp 3), type := 25, pos := "law.go:44", after := #[{ on := 43, ground := Ground.guard }], guard := some (43, true) }) (v := ?_) rfl (by kernel_rfl) (by kernel_rfl) (by kernel_rfl) (fun _ _ _ h => h) (Or.inl ⟨by rfl, ?_⟩) hHeld ?_
  rotate_left
  · intro w hSw; (try dsimp only at hSw); go_simp; (try with_reducible rfl)
  simp only [Act.put, List.setIfInBounds_toArray, List.set_cons_zero, List.set_cons_succ]
  refine wpAnyH_take (i := 48) (oi := { dst := some 80, op := Op.load 25 (Operand.tmp 4), type := 25, pos := "law.go:44", after := #[{ on := 43, ground := Ground.guard }], guard := some (43, true) }) (v := ?_) rfl (by kernel_rfl) (by kernel_rfl) (by kernel_rfl) (fun _ _ _ h => h) (Or.inl ⟨by rfl, ?_⟩) hHeld ?_
  rotate_left
  · intro w hSw; (try dsimp only at hSw); go_simp; (try with_reducible rfl)
  simp only [Act.put, List.setIfInBounds_toArray, List.set_cons_zero, List.set_cons_succ]
  refine wpAnyH_ready (rs := [46]) (by kernel_rfl) (by simp) ?_
  refine AllReadyH.cons (o := { dst := some 78, op := Op.call { callee := Callee.value (Operand.func 19), args := #[Operand.tmp 76, Operand.tmp 77], argTypes := #[25, 25] }, type := 4, pos := "law.go:44", after := #[{ on := 44, ground := Ground.data }, { on := 45, ground := Ground.data }, { on := 43, ground := Ground.chain }, { on := 43, ground := Ground.guard }], guard := some (43, true) }) rfl (fun K hK => ?_) AllReadyH.nil
  go_simp
  refine (owithin_any z20 _ _ sa sb Fa20.out Fb20.out Ka.out Kb.out).mono ?_
  rintro e z21 ⟨rfl, hb⟩
  have B21 := hid (B20.out.trans (hb.mono B20.out.size))
  have Fa21 := hid (Fa20.out.bel hb)
  have Fb21 := hid (Fb20.out.bel hb)
  have Fba21 := hid (bx_bel Fba20.out hb)
  have Fbb21 := hid (bx_bel Fbb20.out hb)
  have Ff21 := hid (Ff20.out.bel hb)
  have Fbf21 := hid (bx_bel Fbf20.out hb)
  have Fg21 := hid (Fg20.out.bel hb)
  have Fbg21 := hid (bx_bel Fbg20.out hb)
  have RB21 := hid (RB20.out.trans (hb.mono RB20.out.size))
  clear B20 Fa20 Fb20 Fba20 Fbb20 Ff20 Fbf20 Fg20 Fbg20 RB20
  clear hb
  refine hK.out _ _ (KH.out _ RB21.out) (fun hHeld => ?_)
  refine wpAnyH_ready (rs := [49]) (by kernel_rfl) (by simp) ?_
  refine AllReadyH.cons (o := { dst := some 81, op := Op.call { callee := Callee.value (Operand.func 20), args := #[Operand.tmp 79, Operand.tmp 80], argTypes := #[25, 25] }, type := 4, pos := "law.go:44", after := #[{ on := 47, ground := Ground.data }, { on := 48, ground := Ground.data }, { on := 46, ground := Ground.chain }, { on := 43, ground := Ground.guard }], guard := some (43, true) }) rfl (fun K hK => ?_) AllReadyH.nil
  go_simp
  refine (rwithinS_any z21 _ _ sa sb Fa21.out Fb21.out Ka.out Kb.out).mono ?_
  rintro e z22 ⟨rfl, hb⟩
  have B22 := hid (B21.out.trans (hb.mono B21.out.size))
  have Fa22 := hid (Fa21.out.bel hb)
  have Fb22 := hid (Fb21.out.bel hb)
  have Fba22 := hid (bx_bel Fba21.out hb)
  have Fbb22 := hid (bx_bel Fbb21.out hb)
  have Ff22 := hid (Ff21.out.bel hb)
  have Fbf22 := hid (bx_bel Fbf21.out hb)
  have Fg22 := hid (Fg21.out.bel hb)
  have Fbg22 := hid (bx_bel Fbg21.out hb)
  have RB22 := hid (RB21.out.trans (hb.mono RB21.out.size))
  clear B21 Fa21 Fb21 Fba21 Fbb21 Ff21 Fbf21 Fg21 Fbg21 RB21
  clear hb
  refine hK.out _ _ (KH.out _ RB22.out) (fun hHeld => ?_)
  refine wpAnyH_take (i := 50) (oi := { dst := some 82, op := Op.binOp BinOp.eql 4 (Operand.tmp 78) (Operand.tmp 81) 4, type := 4, pos := "law.go:44", after := #[{ on := 46, ground := Ground.data }, { on := 49, ground := Ground.data }, { on := 43, ground := Ground.guard }], guard := some (43, true) }) (v := ?_) rfl (by kernel_rfl) (by kernel_rfl) (by kernel_rfl) (fun _ _ _ h => h) (Or.inl ⟨by rfl, ?_⟩) hHeld ?_
  rotate_left
  · intro w hSw; (try dsimp only at hSw); go_simp; (try with_reducible rfl)
  simp only [Act.put, List.setIfInBounds_toArray, List.set_cons_zero, List.set_cons_succ]
  refine wpAnyH_take (i := 51) (oi := { dst := some 83, op := Op.pick (Operand.tmp 75) (Operand.tmp 82) (Operand.const (Value.bool false)), type := 4, pos := "law.go:44", after := #[{ on := 43, ground := Ground.data }, { on := 50, ground := Ground.data }], guard := none }) (v := ?_) rfl (by kernel_rfl) (by kernel_rfl) (by kernel_rfl) (fun _ _ _ h => h) (Or.inl ⟨by rfl, ?_⟩) hHeld ?_
  rotate_left
  · intro w hSw; (try dsimp only at hSw); go_simp; (try with_reducible rfl)
  simp only [Act.put, List.setIfInBounds_toArray, List.set_cons_zero, List.set_cons_succ]
  refine wpAnyH_take (i := 52) (oi := { dst := some 6, op := Op.assign (Operand.tmp 83), type := 4, pos := "law.go:44", after := #[{ on := 51, ground := Ground.data }, { on := 49, ground := Ground.chain }, { on := 0, ground := Ground.phase }, { on := 1, ground := Ground.phase }, { on := 2, ground := Ground.phase }, { on := 3, ground := Ground.phase }, { on := 4, ground := Ground.phase }, { on := 5, ground := Ground.phase }, { on := 6, ground := Ground.phase }, { on := 7, ground := Ground.phase }, { on := 8, ground := Ground.phase }, { on := 9, ground := Ground.phase }, { on := 10, ground := Ground.phase }, { on := 11, ground := Ground.phase }, { on := 12, ground := Ground.phase }, { on := 13, ground := Ground.phase }, { on := 14, ground := Ground.phase }, { on := 15, ground := Ground.phase }, { on := 16, ground := Ground.phase }, { on := 17, ground := Ground.phase }, { on := 18, ground := Ground.phase }, { on := 19, ground := Ground.phase }, { on := 20, ground := Ground.phase }, { on := 21, ground := Ground.phase }, { on := 22, ground := Ground.phase }, { on := 23, ground := Ground.phase }, { on := 24, ground := Ground.phase }, { on := 25, ground := Ground.phase }, { on := 26, ground := Ground.phase }, { on := 27, ground := Ground.phase }, { on := 28, ground := Ground.phase }, { on := 29, ground := Ground.phase }, { on := 30, ground := Ground.phase }, { on := 31, ground := Ground.phase }, { on := 32, ground := Ground.phase }, { on := 33, ground := Ground.phase }, { on := 34, ground := Ground.phase }, { on := 35, ground := Ground.phase }, { on := 36, ground := Ground.phase }, { on := 37, ground := Ground.phase }, { on := 38, ground := Ground.phase }, { on := 39, ground := Ground.phase }, { on := 40, ground := Ground.phase }, { on := 41, ground := Ground.phase }, { on := 42, ground := Ground.phase }, { on := 43, ground := Ground.phase }, { on := 44, ground := Ground.phase }, { on := 45, ground := Ground.phase }, { on := 46, ground := Ground.phase }, { on := 47, ground := Ground.phase }, { on := 48, ground := Ground.phase }, { on := 49, ground := Ground.phase }, { on := 50, ground := Ground.phase }, { on := 51, ground := Ground.phase }], guard := none }) (v := ?_) rfl (by kernel_rfl) (by kernel_rfl) (by kernel_rfl) (fun _ _ _ h => h) (Or.inl ⟨by rfl, ?_⟩) hHeld ?_
  rotate_left
  · intro w hSw; (try dsimp only at hSw); go_simp; (try with_reducible rfl)
  simp only [Act.put, List.setIfInBounds_toArray, List.set_cons_zero, List.set_cons_succ]
  refine wpAnyH_done (by kernel_rfl) ?_ _
  clear hHeld KH
  clear RB22
  go_wp2
  go_ret
  exact ⟨rfl, B22.out⟩
end Go.Proofs.Ytnllcfagdcepfaa
