/-
  The walk of stage 9's fixed calls. No conditions.
-/
import Derived.Test.YtbaaeobdjiglgaaGreatE17
import Derived.Test.YtbaaeobdjiglgaaGreatGI
import Derived.Test.YtbaaeobdjiglgaaGreatE22
import Derived.Test.YtbaaeobdjiglgaaGreatGA
import Derived.Deep.DeepCutAuto
set_option linter.unusedVariables false
set_option linter.unusedSimpArgs false
namespace Go.Proofs.YtbaaeobdjiglgaaGreat
open Go.RowKit Go.Sort
namespace M
def fixA : Sta := allocSt fixS ⟨#[121]⟩ 0 fixO
def fixG : Sta := ageSt fixS 0
theorem fixA_if : (if decide ((0 : Int) ≤ 0) && maySt fixS && mayS fixO then allocSt fixS ⟨#[121]⟩ 0 fixO else zeroSt) = fixA := by
  rw [fixS_may, fixO_may]; rfl
theorem fixG_if : (if decide ((0 : Int) ≤ 0) && maySt fixS then ageSt fixS 0 else zeroSt) = fixG := by
  rw [fixS_may]; rfl
theorem fixA_small : smallSt fixA = true := by decide +kernel
theorem fixG_small : smallSt fixG = true := by decide +kernel
theorem fixS_small : smallSt fixS = true := by decide +kernel
theorem fixO_small : smallB fixO = true := by decide +kernel
theorem fixA_text : bs (textSt fixA) = ⟨#[120, 58, 32, 115, 117, 109, 48, 10, 121, 58, 32, 114, 101, 99, 48, 10, 114, 101, 99, 48, 58, 32, 112, 114, 111, 116, 111, 32, 40, 115, 117, 109, 48, 41, 10, 115, 117, 109, 48, 58, 32, 112, 33, 40, 110, 117, 109, 41, 32, 112, 114, 111, 116, 111, 32, 40, 110, 117, 108, 108, 41, 10]⟩ := by
  show bs (textSt (allocSt fixS ⟨#[121]⟩ 0 fixO)) = _
  rw [fix_alloc]; rfl
theorem fixG_text : bs (textSt fixG) = ⟨#[120, 58, 32, 115, 117, 109, 48, 10, 115, 117, 109, 48, 58, 32, 112, 33, 40, 110, 117, 109, 41, 32, 112, 114, 111, 116, 111, 32, 40, 110, 117, 108, 108, 41, 10]⟩ := by
  show bs (textSt (ageSt fixS 0)) = _
  rw [fix_age]; rfl
theorem fixA_len : (textSt fixA).length < 4611686018427387904 := by
  show (textSt (allocSt fixS ⟨#[121]⟩ 0 fixO)).length < _
  rw [fix_alloc]; decide
theorem fixG_len : (textSt fixG).length < 4611686018427387904 := by
  show (textSt (ageSt fixS 0)).length < _
  rw [fix_age]; decide
end M
theorem AtK.one {α : Type} {k : Nat} {c : α → List Value} {w : World} {g : Nat} {T : TypeId} {x : α} {cs : Array Value} (h : w.heap[g]? = some (.cells cs T (0, 0))) (hc : cs = (c x).toArray) : AtK k c w (.slice (some ⟨g, 0, none⟩) 1 1) [x] := by
  refine ⟨_, 1, rfl, .inr ⟨g, 0, rfl, (Array.getElem?_eq_some_iff.1 h).1, ⟨Nat.le_refl _, by unfold maxLen; omega⟩, fun i hi t u hu => ?_⟩⟩
  have hi0 : i = 0 := by simp at hi; exact hi
  subst hi0
  rw [Lib.cell_of_heap h, hc]
  simpa using hu
theorem RsAt.one {w : World} {g : Nat} {T : TypeId} {x : Cel} (h : w.heap[g]? = some (.cells #[.string x.f.nm, .bool x.f.su, .slice x.a x.f.vs.length x.c] T (0, 0))) (hv : AtAt w x.v x.f.vs) : RsAt w (.slice (some ⟨g, 0, none⟩) 1 1) [x] := by
  refine ⟨fun y hy => by rw [List.mem_singleton.1 hy]; exact hv, _, 1, rfl, .inr ⟨g, 0, rfl, (Array.getElem?_eq_some_iff.1 h).1, ⟨Nat.le_refl _, by unfold maxLen; omega⟩, fun i hi => ?_⟩⟩
  have hi0 : i = 0 := by simp at hi; exact hi
  subst hi0
  obtain ⟨c1, c2, c3, _⟩ := cells3 h
  exact ⟨c1, c2, c3⟩
theorem atAt_box {w : World} {g : Nat} {T : TypeId} {x : M.Atm} (h : w.heap[g]? = some (.cells #[.int .i64 x.k, .int .i64 x.n] T (0, 0))) (hr : InR x.n) : AtAt w (.slice (some ⟨g, 0, none⟩) 1 1) [x] := by
  refine ⟨fun y hy => by rw [List.mem_singleton.1 hy]; exact hr, _, 1, rfl, .inr ⟨g, 0, rfl, (Array.getElem?_eq_some_iff.1 h).1, ⟨Nat.le_refl _, by unfold maxLen; omega⟩, fun i hi => ?_⟩⟩
  have hi0 : i = 0 := by simp at hi; exact hi
  subst hi0
  obtain ⟨c1, c2, _⟩ := cells2 h
  exact ⟨c1, c2⟩
theorem recv_any (k : Int) (w : World) : Calls Tryz.prog 18 #[.int .i64 k] w fun e w' => e = .returned (.agg #[.int .i64 4, .int .i64 k]) ∧ Below w.heap.size w w' := rec_any k w
theorem textA_any (w : World) (v : Value) (h : StAt w v M.fixA) : Calls Tryz.prog 29 #[v] w fun e w' => e = .returned (.string ⟨#[120, 58, 32, 115, 117, 109, 48, 10, 121, 58, 32, 114, 101, 99, 48, 10, 114, 101, 99, 48, 58, 32, 112, 114, 111, 116, 111, 32, 40, 115, 117, 109, 48, 41, 10, 115, 117, 109, 48, 58, 32, 112, 33, 40, 110, 117, 109, 41, 32, 112, 114, 111, 116, 111, 32, 40, 110, 117, 108, 108, 41, 10]⟩) ∧ Below w.heap.size w w' := by
  rw [← M.fixA_text]
  exact rtextSt_any w v M.fixA h (M.smSt_mono (M.small_smSt M.fixA_small) (by decide)) M.fixA_len
theorem textG_any (w : World) (v : Value) (h : StAt w v M.fixG) : Calls Tryz.prog 29 #[v] w fun e w' => e = .returned (.string ⟨#[120, 58, 32, 115, 117, 109, 48, 10, 115, 117, 109, 48, 58, 32, 112, 33, 40, 110, 117, 109, 41, 32, 112, 114, 111, 116, 111, 32, 40, 110, 117, 108, 108, 41, 10]⟩) ∧ Below w.heap.size w w' := by
  rw [← M.fixG_text]
  exact rtextSt_any w v M.fixG h (M.smSt_mono (M.small_smSt M.fixG_small) (by decide)) M.fixG_len
theorem allocA_any (w : World) (v vo : Value) (h : StAt w v M.fixS) (ho : ShAt w vo M.fixO) : Calls Tryz.prog 13 #[v, .string ⟨#[121]⟩, .int .i64 0, vo] w fun e w' => ∃ v', e = .returned v' ∧ StFr w.heap.size w' v' M.fixA ∧ Below w.heap.size w w' := by
  have := dalloc_any w v M.fixS ⟨#[121]⟩ 0 vo M.fixO h ho (by simp [InR]) (M.smSt_mono (M.small_smSt M.fixS_small) (by decide)) (M.sm_mono (M.small_sm M.fixO_small) (by decide))
  rw [M.fixA_if] at this
  exact this
theorem ageG_any (w : World) (v : Value) (h : StAt w v M.fixS) : Calls Tryz.prog 11 #[v, .int .i64 0] w fun e w' => ∃ v', e = .returned v' ∧ StFr w.heap.size w' v' M.fixG ∧ Below w.heap.size w w' := by
  have := age_any w v M.fixS 0 h (by simp [InR]) (M.smSt_mono (M.small_smSt M.fixS_small) (by decide))
  rw [M.fixG_if] at this
  exact this

set_option maxHeartbeats 8000000 in
set_option maxRecDepth 100000 in
theorem fixed_any (w : World) : Calls Tryz.prog 9 #[] w fun e w' => e = .returned (.bool true) ∧ Below w.heap.size w w' := by
  have B0 := hid (Below.refl w.heap.size w)
  go_enter Tryz.func9, Tryz.ntmps9
  go_wp2_with (first | (go_at_call 18; refine stopHere ?_))
  refine stopAt ?_
  refine (recv_any 0 w).mono ?_
  rintro e w1 ⟨rfl, hb⟩
  have B1 := hid (B0.out.trans (hb.mono B0.out.size))
  clear B0
  clear hb
  obtain ⟨V2, hV2⟩ : ∃ W, w1.alloc (.cells #[.int .i64 4, .int .i64 0] 34) = W := ⟨_, rfl⟩
  have hbx : Below w1.heap.size w1 V2 := by rw [← hV2]; exact (gr_new _ _).below
  have NA : Hid (V2.heap[w1.heap.size]? = some (.cells #[.int .i64 4, .int .i64 0] 34 (0, 0))) := by unfold Hid; rw [← hV2]; exact new_at _ _
  have B3 := hid (B1.out.trans (hbx.mono B1.out.size))
  clear B1
  clear hbx
  obtain ⟨V4, hV4⟩ : ∃ W, V2.alloc (.cells #[.string ⟨#[120]⟩, (.slice (some ⟨w1.heap.size, 0, none⟩) 1 1)] 47) = W := ⟨_, rfl⟩
  have hbx : Below V2.heap.size V2 V4 := by rw [← hV4]; exact (gr_new _ _).below
  have NB : Hid (V4.heap[V2.heap.size]? = some (.cells #[.string ⟨#[120]⟩, (.slice (some ⟨w1.heap.size, 0, none⟩) 1 1)] 47 (0, 0))) := by unfold Hid; rw [← hV4]; exact new_at _ _
  have B5 := hid (B3.out.trans (hbx.mono B3.out.size))
  have FA5 := hid (bx_bel NA.out hbx)
  clear B3 NA
  clear hbx
  go_wp2_with (first | (go_at_call 18; refine stopHere ?_))
  refine stopAt ?_
  refine (recv_any 0 V4).mono ?_
  rintro e w6 ⟨rfl, hb⟩
  have B6 := hid (B5.out.trans (hb.mono B5.out.size))
  have FA6 := hid (bx_bel FA5.out hb)
  have FB6 := hid (bx_bel NB.out hb)
  clear B5 FA5 NB
  clear hb hV2 hV4
  go_wp2_with (first | (go_at_call 28; refine stopHere ?_))
  refine stopAt ?_
  refine (num_any w6).mono ?_
  rintro e w7 ⟨qn7, mn7, rfl, hA, hb⟩
  have B7 := hid (B6.out.trans (hb.mono B6.out.size))
  have FA7 := hid (bx_bel FA6.out hb)
  have FB7 := hid (bx_bel FB6.out hb)
  clear B6 FA6 FB6
  have Fm7 := hid hA
  clear hA
  clear hb
  obtain ⟨V8, hV8⟩ : ∃ W, w7.alloc (.cells #[.string ⟨#[112]⟩, .bool true, .slice qn7 1 mn7] 49) = W := ⟨_, rfl⟩
  have hbx : Below w7.heap.size w7 V8 := by rw [← hV8]; exact (gr_new _ _).below
  have NF : Hid (V8.heap[w7.heap.size]? = some (.cells #[.string ⟨#[112]⟩, .bool true, .slice qn7 1 mn7] 49 (0, 0))) := by unfold Hid; rw [← hV8]; exact new_at _ _
  have B9 := hid (B7.out.trans (hbx.mono B7.out.size))
  have FA9 := hid (bx_bel FA7.out hbx)
  have FB9 := hid (bx_bel FB7.out hbx)
  have Fm9 := hid (Fm7.out.bel hbx)
  clear B7 FA7 FB7 Fm7
  clear hbx
  go_wp2_with (first | (go_at_call 26; refine stopHere ?_))
  refine stopAt ?_
  refine (null_any V8).mono ?_
  rintro e w10 ⟨qn10, mn10, rfl, hA, hb⟩
  have B10 := hid (B9.out.trans (hb.mono B9.out.size))
  have FA10 := hid (bx_bel FA9.out hb)
  have FB10 := hid (bx_bel FB9.out hb)
  have Fm10 := hid (Fm9.out.bel hb)
  have FF10 := hid (bx_bel NF.out hb)
  clear B9 FA9 FB9 Fm9 NF
  have Fu10 := hid hA
  clear hA
  clear hb hV8
  obtain ⟨V11, hV11⟩ : ∃ W, w10.alloc (.cells #[.int .i64 4, .int .i64 0, (.slice (some ⟨w7.heap.size, 0, none⟩) 1 1), .slice qn10 1 mn10] 36) = W := ⟨_, rfl⟩
  have hbx : Below w10.heap.size w10 V11 := by rw [← hV11]; exact (gr_new _ _).below
  have NL : Hid (V11.heap[w10.heap.size]? = some (.cells #[.int .i64 4, .int .i64 0, (.slice (some ⟨w7.heap.size, 0, none⟩) 1 1), .slice qn10 1 mn10] 36 (0, 0))) := by unfold Hid; rw [← hV11]; exact new_at _ _
  have B12 := hid (B10.out.trans (hbx.mono B10.out.size))
  have FA12 := hid (bx_bel FA10.out hbx)
  have FB12 := hid (bx_bel FB10.out hbx)
  have Fm12 := hid (Fm10.out.bel hbx)
  have FF12 := hid (bx_bel FF10.out hbx)
  have Fu12 := hid (Fu10.out.bel hbx)
  clear B10 FA10 FB10 Fm10 FF10 Fu10
  clear hbx
  obtain ⟨V13, hV13⟩ : ∃ W, V11.alloc (.cells #[.bool false, (.slice (some ⟨V2.heap.size, 0, none⟩) 1 1), (.slice (some ⟨w10.heap.size, 0, none⟩) 1 1)] 25) = W := ⟨_, rfl⟩
  have hbx : Below V11.heap.size V11 V13 := by rw [← hV13]; exact (gr_new _ _).below
  have NS : Hid (V13.heap[V11.heap.size]? = some (.cells #[.bool false, (.slice (some ⟨V2.heap.size, 0, none⟩) 1 1), (.slice (some ⟨w10.heap.size, 0, none⟩) 1 1)] 25 (0, 0))) := by unfold Hid; rw [← hV13]; exact new_at _ _
  have B14 := hid (B12.out.trans (hbx.mono B12.out.size))
  have FA14 := hid (bx_bel FA12.out hbx)
  have FB14 := hid (bx_bel FB12.out hbx)
  have Fm14 := hid (Fm12.out.bel hbx)
  have FF14 := hid (bx_bel FF12.out hbx)
  have Fu14 := hid (Fu12.out.bel hbx)
  have FL14 := hid (bx_bel NL.out hbx)
  clear B12 FA12 FB12 Fm12 FF12 Fu12 NL
  clear hbx
  have hst : StAt V13 (.agg #[.bool false, (.slice (some ⟨V2.heap.size, 0, none⟩) 1 1), (.slice (some ⟨w10.heap.size, 0, none⟩) 1 1)]) M.fixS :=
    ⟨_, _, [⟨⟨#[120]⟩, [⟨4, 0⟩], some ⟨w1.heap.size, 0, none⟩, 1⟩], [⟨⟨4, 0⟩, ⟨[⟨⟨#[112]⟩, true, M.lnum⟩], M.lnull⟩, some ⟨w7.heap.size, 0, none⟩, 1, qn10, mn10⟩], rfl, rfl, rfl, ⟨AtK.one FB14.out rfl, fun x hx => by rw [List.mem_singleton.1 hx]; exact atAt_box (x := ⟨4, 0⟩) FA14.out (by simp [InR])⟩,
      ⟨AtK.one FL14.out rfl, fun x hx => by rw [List.mem_singleton.1 hx]; exact ⟨(by simp [InR]), _, _, rfl, ⟨[⟨⟨⟨#[112]⟩, true, M.lnum⟩, qn7, mn7⟩], rfl, RsAt.one FF14.out Fm14.out⟩, Fu14.out⟩⟩⟩
  have FS := hid hst
  clear hst
  clear FA14
  clear FB14
  clear FF14
  clear FL14
  clear Fm14
  clear Fu14
  go_wp2_with fail
  clear hV11 hV13
  have hlS : V11.heap.size < V13.heap.size := (Array.getElem?_eq_some_iff.1 NS.out).1
  have KREC : Hid (∀ W, Below V13.heap.size V13 W → Calls Tryz.prog 18 #[.int .i64 0] W fun e w' => e = .returned (.agg #[.int .i64 4, .int .i64 0]) ∧ Below W.heap.size W w') := fun W hb => recv_any 0 W
  go_cut [2] (fun s2 wx => ∃ (g2 : Nat) (ta : Option Addr) (tc : Nat) (tb : Option Addr) (td : Nat), s2 = .pointer (some ⟨g2, 0, none⟩) ∧ Hid (wx.heap[g2]? = some (.cells #[.bool M.fixA.dead, .slice ta M.fixA.vs.length tc, .slice tb M.fixA.ls.length td] 25 (0, 0))) ∧ Hid (StAt wx (.agg #[.bool M.fixA.dead, .slice ta M.fixA.vs.length tc, .slice tb M.fixA.ls.length td]) M.fixA) ∧ Hid (Below V13.heap.size V13 wx))
  case first =>
    have KH : Hid (∀ Z : World, Z.heap[V11.heap.size]? = some (.cells #[.bool false, (.slice (some ⟨V2.heap.size, 0, none⟩) 1 1), (.slice (some ⟨w10.heap.size, 0, none⟩) 1 1)] 25 (0, 0)) → (Z.cell? ⟨V11.heap.size, 0, none⟩ = some (.bool false) ∧ Z.cell? ⟨V11.heap.size, 1, none⟩ = some ((.slice (some ⟨V2.heap.size, 0, none⟩) 1 1)) ∧ Z.cell? ⟨V11.heap.size, 2, none⟩ = some ((.slice (some ⟨w10.heap.size, 0, none⟩) 1 1)))) := fun Z k0 => by
      obtain ⟨y00, y01, y02, _⟩ := cells3 k0
      exact ⟨y00, y01, y02⟩
    refine wp_region_held_drew (S := fun W => W.cell? ⟨V11.heap.size, 0, none⟩ = some (.bool false) ∧ W.cell? ⟨V11.heap.size, 1, none⟩ = some ((.slice (some ⟨V2.heap.size, 0, none⟩) 1 1)) ∧ W.cell? ⟨V11.heap.size, 2, none⟩ = some ((.slice (some ⟨w10.heap.size, 0, none⟩) 1 1))) (by kernel_rfl) (KH.out _ NS.out) (fun hHeld => ?_)
    have Bh0 : Hid (Below V13.heap.size V13 V13.drew) := (Gr.refl V13).drew.below
    refine tk 0 ⟨some 16, .load 25 (.tmp 1), 25, "law.go:19", #[], none⟩ (v := ?_) hHeld ?_ ?_
    rotate_left
    · intro w hSw; (try dsimp only at hSw); go_simp; (try with_reducible rfl)
    simp only [Act.put, List.setIfInBounds_toArray, List.set_cons_zero, List.set_cons_succ]
    refine wpAnyH_ready (rs := [1, 5]) (by kernel_rfl) (by simp) ?_
    refine AllReadyH.cons (o := ⟨some 17, .call { callee := .value (.func 18), args := #[.const (.int .i64 0)], argTypes := #[3] }, 34, "law.go:19", #[], none⟩) rfl (fun K hK => ?_) (AllReadyH.cons (o := ⟨some 2, .alloc 25, 0, "law.go:19", #[], none⟩) rfl (fun K hK => ?_) AllReadyH.nil)
    · go_simp
      refine (KREC.out _ Bh0.out).mono ?_
      rintro e z1 ⟨rfl, hb⟩
      have Bh1 := hid (Bh0.out.trans (hb.mono Bh0.out.size))
      clear hb
      refine hK.out _ _ (KH.out _ (kept NS.out hlS Bh1.out)) (fun hHeld => ?_)
      clear hK
      refine wpAnyH_ready (rs := [2, 5]) (by kernel_rfl) (by simp) ?_
      refine AllReadyH.cons (o := ⟨some 18, .buildSlice 29 1 #[(0, .tmp 17)], 29, "law.go:19", #[⟨1, .data⟩], none⟩) rfl (fun K hK => ?_) (AllReadyH.cons (o := ⟨some 2, .alloc 25, 0, "law.go:19", #[], none⟩) rfl (fun K hK => ?_) AllReadyH.nil)
      · obtain ⟨z2, hz2⟩ : ∃ W, z1.alloc (.cells #[.int .i64 4, .int .i64 0] 34 : Obj) = W := ⟨_, rfl⟩
        go_simp
        have hb : Below z1.heap.size z1 z2 := by rw [← hz2]; exact (gr_new _ _).below
        have AT2 : Hid (z2.heap[z1.heap.size]? = some (.cells #[.int .i64 4, .int .i64 0] 34 (0, 0))) := by unfold Hid; rw [← hz2]; exact new_at _ _
        have gAT : V13.heap.size ≤ z1.heap.size := Bh1.out.size
        have HAT : Hid (AtAt z2 (.slice (some ⟨z1.heap.size, 0, none⟩) 1 1) [⟨4, 0⟩]) := by unfold Hid; rw [← hz2]; exact atAt_one (x := ⟨4, 0⟩) (by simp [InR])
        have Bh2 := hid (Bh1.out.trans (hb.mono Bh1.out.size))
        clear hb hz2
        refine hK.out _ _ (KH.out _ (kept NS.out hlS Bh2.out)) (fun hHeld => ?_)
        clear hK
        refine tk 3 ⟨some 19, .build 31 #[(1, .tmp 18)], 31, "law.go:19", #[⟨2, .data⟩], none⟩ (v := ?_) hHeld ?_ ?_
        rotate_left
        · intro w hSw; (try dsimp only at hSw); go_simp; (try with_reducible rfl)
        simp only [Act.put, List.setIfInBounds_toArray, List.set_cons_zero, List.set_cons_succ]
        refine wpAnyH_ready (rs := [4, 5]) (by kernel_rfl) (by simp) ?_
        refine AllReadyH.cons (o := ⟨some 20, .call { callee := .value (.func 13), args := #[.tmp 16, .const (.string { data := #[121] }), .const (.int .i64 0), .tmp 19], argTypes := #[25, 9, 3, 31] }, 25, "law.go:19", #[⟨0, .data⟩, ⟨3, .data⟩, ⟨1, .chain⟩], none⟩) rfl (fun K hK => ?_) (AllReadyH.cons (o := ⟨some 2, .alloc 25, 0, "law.go:19", #[], none⟩) rfl (fun K hK => ?_) AllReadyH.nil)
        · go_simp
          refine (allocA_any _ _ _ (FS.out.bel Bh2.out) ⟨_, _, rfl, ⟨[], rfl, RsAt.nil _⟩, HAT.out⟩).mono ?_
          rintro e z3 ⟨v3, rfl, hF3, hb⟩
          obtain ⟨ta, tc, tb, td, rfl⟩ := StAt.form (StFr.at hF3)
          have HF := hid hF3
          clear hF3
          have Bh3 := hid (Bh2.out.trans (hb.mono Bh2.out.size))
          have AT3 := hid (bx_bel AT2.out hb)
          have HAT3 := hid (HAT.out.bel hb)
          clear hb
          refine hK.out _ _ (KH.out _ (kept NS.out hlS Bh3.out)) (fun hHeld => ?_)
          clear hK
          refine wpAnyH_ready (rs := [5]) (by kernel_rfl) (by simp) ?_
          refine AllReadyH.cons (o := ⟨some 2, .alloc 25, 0, "law.go:19", #[], none⟩) rfl (fun K hK => ?_) AllReadyH.nil
          obtain ⟨z4, hz4⟩ : ∃ W, z3.alloc (.cells #[.bool false, .slice none 0 0, .slice none 0 0] 25 : Obj) = W := ⟨_, rfl⟩
          go_simp
          have hb : Below z3.heap.size z3 z4 := by rw [← hz4]; exact (gr_new _ _).below
          have BX4 : Hid (z4.heap[z3.heap.size]? = some (.cells #[.bool false, .slice none 0 0, .slice none 0 0] 25 (0, 0))) := by unfold Hid; rw [← hz4]; exact new_at _ _
          have gBX : V13.heap.size ≤ z3.heap.size := Bh3.out.size
          have HLATE := hid hb
          have Bh4 := hid (Bh3.out.trans (hb.mono Bh3.out.size))
          clear hb hz4
          refine hK.out _ _ (KH.out _ (kept NS.out hlS Bh4.out)) (fun hHeld => ?_)
          clear hK
          refine wpAnyH_ready (rs := [6]) (by kernel_rfl) (by simp) ?_
          refine AllReadyH.cons (o := ⟨none, .store 25 (.tmp 2) (.tmp 20), 0, "law.go:19", #[⟨5, .data⟩, ⟨4, .data⟩, ⟨4, .chain⟩, ⟨0, .phase⟩, ⟨1, .phase⟩, ⟨2, .phase⟩, ⟨3, .phase⟩, ⟨4, .phase⟩, ⟨5, .phase⟩], none⟩) rfl (fun K hK => ?_) AllReadyH.nil
          obtain ⟨o0, o1, o2, of⟩ := cells3 (BX4.out)
          go_simp
          clear o0 o1 o2 of
          refine hK.out _ _ (KH.out _ (((set_blk ((z4.setCell ⟨z3.heap.size, 0, none⟩ (.bool M.fixA.dead)).setCell ⟨z3.heap.size, 1, none⟩ (.slice ta M.fixA.vs.length tc)) (z3.heap.size) 2 (.slice tb M.fixA.ls.length td) (V11.heap.size) (by omega)).trans ((set_blk (z4.setCell ⟨z3.heap.size, 0, none⟩ (.bool M.fixA.dead)) (z3.heap.size) 1 (.slice ta M.fixA.vs.length tc) (V11.heap.size) (by omega)).trans ((set_blk z4 (z3.heap.size) 0 (.bool M.fixA.dead) (V11.heap.size) (by omega)).trans (kept NS.out hlS Bh4.out)))))) (fun hHeld => ?_)
          clear hK
          refine wpAnyH_done (by kernel_rfl) ?_ _
          clear hHeld KH
          go_wp2_with fail
          go_meet
          exact ⟨z3.heap.size, ta, tc, tb, td, rfl, hid (box3_put (BX4.out) (.bool M.fixA.dead) (.slice ta M.fixA.vs.length tc) (.slice tb M.fixA.ls.length td)), hid ((StFr.at HF.out).bel (set3k HLATE.out (Nat.le_refl _) (.bool M.fixA.dead) (.slice ta M.fixA.vs.length tc) (.slice tb M.fixA.ls.length td))), hid (set3k Bh4.out gBX (.bool M.fixA.dead) (.slice ta M.fixA.vs.length tc) (.slice tb M.fixA.ls.length td))⟩
        · obtain ⟨z6, hz6⟩ : ∃ W, z2.alloc (.cells #[.bool false, .slice none 0 0, .slice none 0 0] 25 : Obj) = W := ⟨_, rfl⟩
          go_simp
          have hb : Below z2.heap.size z2 z6 := by rw [← hz6]; exact (gr_new _ _).below
          have BX6 : Hid (z6.heap[z2.heap.size]? = some (.cells #[.bool false, .slice none 0 0, .slice none 0 0] 25 (0, 0))) := by unfold Hid; rw [← hz6]; exact new_at _ _
          have gBX : V13.heap.size ≤ z2.heap.size := Bh2.out.size
          have Bh6 := hid (Bh2.out.trans (hb.mono Bh2.out.size))
          have AT6 := hid (bx_bel AT2.out hb)
          have HAT6 := hid (HAT.out.bel hb)
          clear hb hz6
          refine hK.out _ _ (KH.out _ (kept NS.out hlS Bh6.out)) (fun hHeld => ?_)
          clear hK
          refine wpAnyH_ready (rs := [4]) (by kernel_rfl) (by simp) ?_
          refine AllReadyH.cons (o := ⟨some 20, .call { callee := .value (.func 13), args := #[.tmp 16, .const (.string { data := #[121] }), .const (.int .i64 0), .tmp 19], argTypes := #[25, 9, 3, 31] }, 25, "law.go:19", #[⟨0, .data⟩, ⟨3, .data⟩, ⟨1, .chain⟩], none⟩) rfl (fun K hK => ?_) AllReadyH.nil
          go_simp
          refine (allocA_any _ _ _ (FS.out.bel Bh6.out) ⟨_, _, rfl, ⟨[], rfl, RsAt.nil _⟩, HAT6.out⟩).mono ?_
          rintro e z7 ⟨v7, rfl, hF7, hb⟩
          obtain ⟨ta, tc, tb, td, rfl⟩ := StAt.form (StFr.at hF7)
          have HF := hid hF7
          clear hF7
          have Bh7 := hid (Bh6.out.trans (hb.mono Bh6.out.size))
          have AT7 := hid (bx_bel AT6.out hb)
          have BX7 := hid (bx_bel BX6.out hb)
          have HAT7 := hid (HAT6.out.bel hb)
          clear hb
          refine hK.out _ _ (KH.out _ (kept NS.out hlS Bh7.out)) (fun hHeld => ?_)
          clear hK
          refine wpAnyH_ready (rs := [6]) (by kernel_rfl) (by simp) ?_
          refine AllReadyH.cons (o := ⟨none, .store 25 (.tmp 2) (.tmp 20), 0, "law.go:19", #[⟨5, .data⟩, ⟨4, .data⟩, ⟨4, .chain⟩, ⟨0, .phase⟩, ⟨1, .phase⟩, ⟨2, .phase⟩, ⟨3, .phase⟩, ⟨4, .phase⟩, ⟨5, .phase⟩], none⟩) rfl (fun K hK => ?_) AllReadyH.nil
          obtain ⟨o0, o1, o2, of⟩ := cells3 (BX7.out)
          go_simp
          clear o0 o1 o2 of
          refine hK.out _ _ (KH.out _ (((set_blk ((z7.setCell ⟨z2.heap.size, 0, none⟩ (.bool M.fixA.dead)).setCell ⟨z2.heap.size, 1, none⟩ (.slice ta M.fixA.vs.length tc)) (z2.heap.size) 2 (.slice tb M.fixA.ls.length td) (V11.heap.size) (by omega)).trans ((set_blk (z7.setCell ⟨z2.heap.size, 0, none⟩ (.bool M.fixA.dead)) (z2.heap.size) 1 (.slice ta M.fixA.vs.length tc) (V11.heap.size) (by omega)).trans ((set_blk z7 (z2.heap.size) 0 (.bool M.fixA.dead) (V11.heap.size) (by omega)).trans (kept NS.out hlS Bh7.out)))))) (fun hHeld => ?_)
          clear hK
          refine wpAnyH_done (by kernel_rfl) ?_ _
          clear hHeld KH
          have hgl : z2.heap.size < z6.heap.size := (Array.getElem?_eq_some_iff.1 (BX6.out)).1
          go_wp2_with fail
          go_meet
          exact ⟨z2.heap.size, ta, tc, tb, td, rfl, hid (box3_put (BX7.out) (.bool M.fixA.dead) (.slice ta M.fixA.vs.length tc) (.slice tb M.fixA.ls.length td)), hid (StFr.at (((StFr.set (g := z2.heap.size) (p := 0) (u := .bool M.fixA.dead) HF.out hgl).set (g := z2.heap.size) (p := 1) (u := .slice ta M.fixA.vs.length tc) hgl).set (g := z2.heap.size) (p := 2) (u := .slice tb M.fixA.ls.length td) hgl)), hid (set3k Bh7.out gBX (.bool M.fixA.dead) (.slice ta M.fixA.vs.length tc) (.slice tb M.fixA.ls.length td))⟩
      · obtain ⟨z9, hz9⟩ : ∃ W, z1.alloc (.cells #[.bool false, .slice none 0 0, .slice none 0 0] 25 : Obj) = W := ⟨_, rfl⟩
        go_simp
        have hb : Below z1.heap.size z1 z9 := by rw [← hz9]; exact (gr_new _ _).below
        have BX9 : Hid (z9.heap[z1.heap.size]? = some (.cells #[.bool false, .slice none 0 0, .slice none 0 0] 25 (0, 0))) := by unfold Hid; rw [← hz9]; exact new_at _ _
        have gBX : V13.heap.size ≤ z1.heap.size := Bh1.out.size
        have Bh9 := hid (Bh1.out.trans (hb.mono Bh1.out.size))
        clear hb hz9
        refine hK.out _ _ (KH.out _ (kept NS.out hlS Bh9.out)) (fun hHeld => ?_)
        clear hK
        refine wpAnyH_ready (rs := [2]) (by kernel_rfl) (by simp) ?_
        refine AllReadyH.cons (o := ⟨some 18, .buildSlice 29 1 #[(0, .tmp 17)], 29, "law.go:19", #[⟨1, .data⟩], none⟩) rfl (fun K hK => ?_) AllReadyH.nil
        obtain ⟨z10, hz10⟩ : ∃ W, z9.alloc (.cells #[.int .i64 4, .int .i64 0] 34 : Obj) = W := ⟨_, rfl⟩
        go_simp
        have hb : Below z9.heap.size z9 z10 := by rw [← hz10]; exact (gr_new _ _).below
        have AT10 : Hid (z10.heap[z9.heap.size]? = some (.cells #[.int .i64 4, .int .i64 0] 34 (0, 0))) := by unfold Hid; rw [← hz10]; exact new_at _ _
        have gAT : V13.heap.size ≤ z9.heap.size := Bh9.out.size
        have HAT : Hid (AtAt z10 (.slice (some ⟨z9.heap.size, 0, none⟩) 1 1) [⟨4, 0⟩]) := by unfold Hid; rw [← hz10]; exact atAt_one (x := ⟨4, 0⟩) (by simp [InR])
        have Bh10 := hid (Bh9.out.trans (hb.mono Bh9.out.size))
        have BX10 := hid (bx_bel BX9.out hb)
        clear hb hz10
        refine hK.out _ _ (KH.out _ (kept NS.out hlS Bh10.out)) (fun hHeld => ?_)
        clear hK
        refine tk 3 ⟨some 19, .build 31 #[(1, .tmp 18)], 31, "law.go:19", #[⟨2, .data⟩], none⟩ (v := ?_) hHeld ?_ ?_
        rotate_left
        · intro w hSw; (try dsimp only at hSw); go_simp; (try with_reducible rfl)
        simp only [Act.put, List.setIfInBounds_toArray, List.set_cons_zero, List.set_cons_succ]
        refine wpAnyH_ready (rs := [4]) (by kernel_rfl) (by simp) ?_
        refine AllReadyH.cons (o := ⟨some 20, .call { callee := .value (.func 13), args := #[.tmp 16, .const (.string { data := #[121] }), .const (.int .i64 0), .tmp 19], argTypes := #[25, 9, 3, 31] }, 25, "law.go:19", #[⟨0, .data⟩, ⟨3, .data⟩, ⟨1, .chain⟩], none⟩) rfl (fun K hK => ?_) AllReadyH.nil
        go_simp
        refine (allocA_any _ _ _ (FS.out.bel Bh10.out) ⟨_, _, rfl, ⟨[], rfl, RsAt.nil _⟩, HAT.out⟩).mono ?_
        rintro e z11 ⟨v11, rfl, hF11, hb⟩
        obtain ⟨ta, tc, tb, td, rfl⟩ := StAt.form (StFr.at hF11)
        have HF := hid hF11
        clear hF11
        have Bh11 := hid (Bh10.out.trans (hb.mono Bh10.out.size))
        have BX11 := hid (bx_bel BX10.out hb)
        have AT11 := hid (bx_bel AT10.out hb)
        have HAT11 := hid (HAT.out.bel hb)
        clear hb
        refine hK.out _ _ (KH.out _ (kept NS.out hlS Bh11.out)) (fun hHeld => ?_)
        clear hK
        refine wpAnyH_ready (rs := [6]) (by kernel_rfl) (by simp) ?_
        refine AllReadyH.cons (o := ⟨none, .store 25 (.tmp 2) (.tmp 20), 0, "law.go:19", #[⟨5, .data⟩, ⟨4, .data⟩, ⟨4, .chain⟩, ⟨0, .phase⟩, ⟨1, .phase⟩, ⟨2, .phase⟩, ⟨3, .phase⟩, ⟨4, .phase⟩, ⟨5, .phase⟩], none⟩) rfl (fun K hK => ?_) AllReadyH.nil
        obtain ⟨o0, o1, o2, of⟩ := cells3 (BX11.out)
        go_simp
        clear o0 o1 o2 of
        refine hK.out _ _ (KH.out _ (((set_blk ((z11.setCell ⟨z1.heap.size, 0, none⟩ (.bool M.fixA.dead)).setCell ⟨z1.heap.size, 1, none⟩ (.slice ta M.fixA.vs.length tc)) (z1.heap.size) 2 (.slice tb M.fixA.ls.length td) (V11.heap.size) (by omega)).trans ((set_blk (z11.setCell ⟨z1.heap.size, 0, none⟩ (.bool M.fixA.dead)) (z1.heap.size) 1 (.slice ta M.fixA.vs.length tc) (V11.heap.size) (by omega)).trans ((set_blk z11 (z1.heap.size) 0 (.bool M.fixA.dead) (V11.heap.size) (by omega)).trans (kept NS.out hlS Bh11.out)))))) (fun hHeld => ?_)
        clear hK
        refine wpAnyH_done (by kernel_rfl) ?_ _
        clear hHeld KH
        have hgl : z1.heap.size < z10.heap.size := (Array.getElem?_eq_some_iff.1 (BX10.out)).1
        go_wp2_with fail
        go_meet
        exact ⟨z1.heap.size, ta, tc, tb, td, rfl, hid (box3_put (BX11.out) (.bool M.fixA.dead) (.slice ta M.fixA.vs.length tc) (.slice tb M.fixA.ls.length td)), hid (StFr.at (((StFr.set (g := z1.heap.size) (p := 0) (u := .bool M.fixA.dead) HF.out hgl).set (g := z1.heap.size) (p := 1) (u := .slice ta M.fixA.vs.length tc) hgl).set (g := z1.heap.size) (p := 2) (u := .slice tb M.fixA.ls.length td) hgl)), hid (set3k Bh11.out gBX (.bool M.fixA.dead) (.slice ta M.fixA.vs.length tc) (.slice tb M.fixA.ls.length td))⟩
    · obtain ⟨z13, hz13⟩ : ∃ W, V13.drew.alloc (.cells #[.bool false, .slice none 0 0, .slice none 0 0] 25 : Obj) = W := ⟨_, rfl⟩
      go_simp
      have hb : Below V13.drew.heap.size V13.drew z13 := by rw [← hz13]; exact (gr_new _ _).below
      have BX13 : Hid (z13.heap[V13.heap.size]? = some (.cells #[.bool false, .slice none 0 0, .slice none 0 0] 25 (0, 0))) := by unfold Hid; rw [← hz13]; exact new_at _ _
      have gBX : V13.heap.size ≤ V13.heap.size := Bh0.out.size
      have Bh13 := hid (Bh0.out.trans (hb.mono Bh0.out.size))
      clear hb hz13
      refine hK.out _ _ (KH.out _ (kept NS.out hlS Bh13.out)) (fun hHeld => ?_)
      clear hK
      refine wpAnyH_ready (rs := [1]) (by kernel_rfl) (by simp) ?_
      refine AllReadyH.cons (o := ⟨some 17, .call { callee := .value (.func 18), args := #[.const (.int .i64 0)], argTypes := #[3] }, 34, "law.go:19", #[], none⟩) rfl (fun K hK => ?_) AllReadyH.nil
      go_simp
      refine (KREC.out _ Bh13.out).mono ?_
      rintro e z14 ⟨rfl, hb⟩
      have Bh14 := hid (Bh13.out.trans (hb.mono Bh13.out.size))
      have BX14 := hid (bx_bel BX13.out hb)
      clear hb
      refine hK.out _ _ (KH.out _ (kept NS.out hlS Bh14.out)) (fun hHeld => ?_)
      clear hK
      refine wpAnyH_ready (rs := [2]) (by kernel_rfl) (by simp) ?_
      refine AllReadyH.cons (o := ⟨some 18, .buildSlice 29 1 #[(0, .tmp 17)], 29, "law.go:19", #[⟨1, .data⟩], none⟩) rfl (fun K hK => ?_) AllReadyH.nil
      obtain ⟨z15, hz15⟩ : ∃ W, z14.alloc (.cells #[.int .i64 4, .int .i64 0] 34 : Obj) = W := ⟨_, rfl⟩
      go_simp
      have hb : Below z14.heap.size z14 z15 := by rw [← hz15]; exact (gr_new _ _).below
      have AT15 : Hid (z15.heap[z14.heap.size]? = some (.cells #[.int .i64 4, .int .i64 0] 34 (0, 0))) := by unfold Hid; rw [← hz15]; exact new_at _ _
      have gAT : V13.heap.size ≤ z14.heap.size := Bh14.out.size
      have HAT : Hid (AtAt z15 (.slice (some ⟨z14.heap.size, 0, none⟩) 1 1) [⟨4, 0⟩]) := by unfold Hid; rw [← hz15]; exact atAt_one (x := ⟨4, 0⟩) (by simp [InR])
      have Bh15 := hid (Bh14.out.trans (hb.mono Bh14.out.size))
      have BX15 := hid (bx_bel BX14.out hb)
      clear hb hz15
      refine hK.out _ _ (KH.out _ (kept NS.out hlS Bh15.out)) (fun hHeld => ?_)
      clear hK
      refine tk 3 ⟨some 19, .build 31 #[(1, .tmp 18)], 31, "law.go:19", #[⟨2, .data⟩], none⟩ (v := ?_) hHeld ?_ ?_
      rotate_left
      · intro w hSw; (try dsimp only at hSw); go_simp; (try with_reducible rfl)
      simp only [Act.put, List.setIfInBounds_toArray, List.set_cons_zero, List.set_cons_succ]
      refine wpAnyH_ready (rs := [4]) (by kernel_rfl) (by simp) ?_
      refine AllReadyH.cons (o := ⟨some 20, .call { callee := .value (.func 13), args := #[.tmp 16, .const (.string { data := #[121] }), .const (.int .i64 0), .tmp 19], argTypes := #[25, 9, 3, 31] }, 25, "law.go:19", #[⟨0, .data⟩, ⟨3, .data⟩, ⟨1, .chain⟩], none⟩) rfl (fun K hK => ?_) AllReadyH.nil
      go_simp
      refine (allocA_any _ _ _ (FS.out.bel Bh15.out) ⟨_, _, rfl, ⟨[], rfl, RsAt.nil _⟩, HAT.out⟩).mono ?_
      rintro e z16 ⟨v16, rfl, hF16, hb⟩
      obtain ⟨ta, tc, tb, td, rfl⟩ := StAt.form (StFr.at hF16)
      have HF := hid hF16
      clear hF16
      have Bh16 := hid (Bh15.out.trans (hb.mono Bh15.out.size))
      have BX16 := hid (bx_bel BX15.out hb)
      have AT16 := hid (bx_bel AT15.out hb)
      have HAT16 := hid (HAT.out.bel hb)
      clear hb
      refine hK.out _ _ (KH.out _ (kept NS.out hlS Bh16.out)) (fun hHeld => ?_)
      clear hK
      refine wpAnyH_ready (rs := [6]) (by kernel_rfl) (by simp) ?_
      refine AllReadyH.cons (o := ⟨none, .store 25 (.tmp 2) (.tmp 20), 0, "law.go:19", #[⟨5, .data⟩, ⟨4, .data⟩, ⟨4, .chain⟩, ⟨0, .phase⟩, ⟨1, .phase⟩, ⟨2, .phase⟩, ⟨3, .phase⟩, ⟨4, .phase⟩, ⟨5, .phase⟩], none⟩) rfl (fun K hK => ?_) AllReadyH.nil
      obtain ⟨o0, o1, o2, of⟩ := cells3 (BX16.out)
      go_simp
      clear o0 o1 o2 of
      refine hK.out _ _ (KH.out _ (((set_blk ((z16.setCell ⟨V13.heap.size, 0, none⟩ (.bool M.fixA.dead)).setCell ⟨V13.heap.size, 1, none⟩ (.slice ta M.fixA.vs.length tc)) (V13.heap.size) 2 (.slice tb M.fixA.ls.length td) (V11.heap.size) (by omega)).trans ((set_blk (z16.setCell ⟨V13.heap.size, 0, none⟩ (.bool M.fixA.dead)) (V13.heap.size) 1 (.slice ta M.fixA.vs.length tc) (V11.heap.size) (by omega)).trans ((set_blk z16 (V13.heap.size) 0 (.bool M.fixA.dead) (V11.heap.size) (by omega)).trans (kept NS.out hlS Bh16.out)))))) (fun hHeld => ?_)
      clear hK
      refine wpAnyH_done (by kernel_rfl) ?_ _
      clear hHeld KH
      have hgl : V13.heap.size < z15.heap.size := (Array.getElem?_eq_some_iff.1 (BX15.out)).1
      go_wp2_with fail
      go_meet
      exact ⟨V13.heap.size, ta, tc, tb, td, rfl, hid (box3_put (BX16.out) (.bool M.fixA.dead) (.slice ta M.fixA.vs.length tc) (.slice tb M.fixA.ls.length td)), hid (StFr.at (((StFr.set (g := V13.heap.size) (p := 0) (u := .bool M.fixA.dead) HF.out hgl).set (g := V13.heap.size) (p := 1) (u := .slice ta M.fixA.vs.length tc) hgl).set (g := V13.heap.size) (p := 2) (u := .slice tb M.fixA.ls.length td) hgl)), hid (set3k Bh16.out gBX (.bool M.fixA.dead) (.slice ta M.fixA.vs.length tc) (.slice tb M.fixA.ls.length td))⟩
  case rest =>
    obtain ⟨g2, ta, tc, tb, td, rfl, hbx, hsh, hbel⟩ := hcut
    obtain ⟨W5, hW5⟩ : ∃ W, W = wc := ⟨_, rfl⟩
    have FT0 : Hid (W5.heap[g2]? = some (.cells #[.bool M.fixA.dead, .slice ta M.fixA.vs.length tc, .slice tb M.fixA.ls.length td] 25 (0, 0))) := by rw [hW5]; exact hbx
    have FA0 : Hid (StAt W5 (.agg #[.bool M.fixA.dead, .slice ta M.fixA.vs.length tc, .slice tb M.fixA.ls.length td]) M.fixA) := by rw [hW5]; exact hsh
    have hb5 : Below V13.heap.size V13 W5 := by rw [hW5]; exact hbel.out
    have FS0 := hid (FS.out.bel hb5)
    have FX0 := hid (bx_bel NS.out hb5)
    have BQ0 := hid (B14.out.trans (hb5.mono B14.out.size))
    rw [← hW5]
    clear hbx hsh hbel hb5 hW5 FS KREC B14 NS hlS
    obtain ⟨xT0, xT1, xT2, _⟩ := cells3 FT0.out
    obtain ⟨xX0, xX1, xX2, _⟩ := cells3 FX0.out
    go_wp2_with (first | (go_at_call 29; refine stopHere ?_))
    refine stopAt ?_
    refine (textA_any W5 _ FA0.out).mono ?_
    rintro e w51 ⟨rfl, hb⟩
    have B51 := hid (BQ0.out.trans (hb.mono BQ0.out.size))
    have FT51 := hid (bx_bel FT0.out hb)
    have FA51 := hid (FA0.out.bel hb)
    have FS51 := hid (FS0.out.bel hb)
    have FX51 := hid (bx_bel FX0.out hb)
    clear BQ0 FT0 FA0 FS0 FX0
    clear hb xT0 xT1 xT2 xX0 xX1 xX2
    obtain ⟨xT0, xT1, xT2, _⟩ := cells3 FT51.out
    obtain ⟨xX0, xX1, xX2, _⟩ := cells3 FX51.out
    go_wp2_with (first | (go_at_call 11; refine stopHere ?_))
    refine stopAt ?_
    refine (ageG_any w51 _ FS51.out).mono ?_
    rintro e w52 ⟨v52, rfl, hF, hb⟩
    have B52 := hid (B51.out.trans (hb.mono B51.out.size))
    have FT52 := hid (bx_bel FT51.out hb)
    have FA52 := hid (FA51.out.bel hb)
    have FS52 := hid (FS51.out.bel hb)
    have FX52 := hid (bx_bel FX51.out hb)
    clear B51 FT51 FA51 FS51 FX51
    obtain ⟨ga, gc, gb, gd, rfl⟩ := StAt.form (StFr.at hF)
    have FG52 := hid (StFr.at hF)
    clear hF
    clear hb xT0 xT1 xT2 xX0 xX1 xX2
    obtain ⟨xT0, xT1, xT2, _⟩ := cells3 FT52.out
    obtain ⟨xX0, xX1, xX2, _⟩ := cells3 FX52.out
    go_wp2_with (first | (go_at_call 29; refine stopHere ?_))
    refine stopAt ?_
    refine (textG_any w52 _ FG52.out).mono ?_
    rintro e w53 ⟨rfl, hb⟩
    have B53 := hid (B52.out.trans (hb.mono B52.out.size))
    have FT53 := hid (bx_bel FT52.out hb)
    have FA53 := hid (FA52.out.bel hb)
    have FS53 := hid (FS52.out.bel hb)
    have FX53 := hid (bx_bel FX52.out hb)
    have FG53 := hid (FG52.out.bel hb)
    clear B52 FT52 FA52 FS52 FX52 FG52
    clear hb xT0 xT1 xT2 xX0 xX1 xX2
    go_wp2
    go_ret
    exact ⟨rfl, B53.out⟩
end Go.Proofs.YtbaaeobdjiglgaaGreat
