/-
  The law DemoteOthers, walked. Conditions: the site is an int.
-/
import Derived.Test.YtbaaeobdjiglgaaGreatE24
import Derived.Test.YtbaaeobdjiglgaaGreatE25
import Derived.Test.YtbaaeobdjiglgaaGreatE26
import Derived.Test.YtbaaeobdjiglgaaGreatS17
set_option linter.unusedVariables false
set_option linter.unusedSimpArgs false
namespace Go.Proofs.YtbaaeobdjiglgaaGreat
open Go.RowKit Go.Sort
namespace M
theorem age_at {s : Sta} {k : Int} {x : Atm} {p : Shp} (hs : MaySt s) (hx : x.n ≠ k) (hg : getK s.ls x = some p) : getK (ageSt s k).ls x = some (renS p k) := by
  rw [getL_age hs, if_neg (fun e => hx (by rw [e])), if_neg (fun e => hx (by rw [e])), hg]; rfl
end M
theorem get_at {s : M.Sta} {L : List Lcl} {j : Nat} {y : Lcl} (hs : M.MaySt s) (hL : lclOf L = s.ls) (hj : j < L.length) (hy : L[j] = y) : M.getK s.ls y.x = some y.s := by
  refine M.getK_of_mem M.keyA hs.lr ?_
  rw [← hL]
  exact List.mem_map.2 ⟨y, by rw [← hy]; exact List.getElem_mem hj, rfl⟩
/-- what lay below is as it was -/
def LowB (w0 w : World) : Prop := Below w0.heap.size w0 w
theorem LowB.bel {w0 w w' : World} (h : LowB w0 w) (hb : Below w.heap.size w w') : LowB w0 w' := Below.trans h (hb.mono (Below.size h))
/-- an object in a row -/
def Qua (w : World) (b p : Nat) (x : M.Atm) (s : M.Shp) (fa : Option Addr) (fn : Nat) (pa : Option Addr) (pn : Nat) : Prop :=
  b < w.heap.size ∧ w.cell? ⟨b, p, none⟩ = some (.int .i64 x.k) ∧ w.cell? ⟨b, p + 1, none⟩ = some (.int .i64 x.n) ∧ w.cell? ⟨b, p + 2, none⟩ = some (.slice fa s.fs.length fn) ∧ w.cell? ⟨b, p + 3, none⟩ = some (.slice pa s.pr.length pn)
theorem Qua.bel {w w' : World} {b p : Nat} {x : M.Atm} {s : M.Shp} {fa : Option Addr} {fn : Nat} {pa : Option Addr} {pn : Nat} (h : Qua w b p x s fa fn pa pn) (hb : Below w.heap.size w w') : Qua w' b p x s fa fn pa pn := by
  obtain ⟨h0, h1, h2, h3, h4⟩ := h
  exact ⟨Nat.lt_of_lt_of_le h0 hb.size, by rw [hb.cell (p := ⟨b, p, none⟩) h0]; exact h1, by rw [hb.cell (p := ⟨b, p + 1, none⟩) h0]; exact h2, by rw [hb.cell (p := ⟨b, p + 2, none⟩) h0]; exact h3, by rw [hb.cell (p := ⟨b, p + 3, none⟩) h0]; exact h4⟩
theorem rloc_ok (w : World) (v : Value) (s : M.Sta) (x : M.Atm) (h : StAt w v s) (hK : M.SmSt 100000 s) :
    Calls Tryz.prog 20 #[v, .agg #[.int .i64 x.k, .int .i64 x.n]] w fun e w' => ∃ (p : M.Shp) (q : Bool) (fa : Option Addr) (fn : Nat) (pa : Option Addr) (pn : Nat), e = .returned (.tuple #[.agg #[.slice fa p.fs.length fn, .slice pa p.pr.length pn], .bool q]) ∧ p = (M.getK s.ls x).getD M.zeroS ∧ q = (M.getK s.ls x).isSome ∧ ShAt w' (.agg #[.slice fa p.fs.length fn, .slice pa p.pr.length pn]) p ∧ Below w.heap.size w w' := by
  refine (rloc_any w v s x h hK).mono ?_
  rintro e w' ⟨v', rfl, hS, hb⟩
  obtain ⟨fa, fn, pa, pn, rfl⟩ := hS.form
  exact ⟨_, _, fa, fn, pa, pn, rfl, rfl, rfl, hS, hb⟩
theorem rrename_ok (w : World) (va : Value) (s t : M.Shp) (k : Int) (h1 : ShAt w va s) (K1 : M.Sm 100000 s) (hm : M.mayS s = true) (ht : M.renS s k = t) :
    Calls Tryz.prog 22 #[va, .int .i64 k] w fun e w' => ∃ (fa : Option Addr) (fn : Nat) (pa : Option Addr) (pn : Nat), e = .returned (.agg #[.slice fa t.fs.length fn, .slice pa t.pr.length pn]) ∧ ShAt w' (.agg #[.slice fa t.fs.length fn, .slice pa t.pr.length pn]) t ∧ Below w.heap.size w w' := by
  have := rrenameS_any w va s k h1 K1
  rw [hm, if_pos rfl, ht] at this
  refine this.mono ?_
  rintro e w' ⟨v', rfl, hS, hb⟩
  obtain ⟨fa, fn, pa, pn, rfl⟩ := hS.at.form
  exact ⟨fa, fn, pa, pn, rfl, hS.at, hb⟩

set_option maxHeartbeats 8000000 in
set_option maxRecDepth 100000 in
theorem others_law (w : World) (v : Value) (s : M.Sta) (h : StAt w v s) (k : Int) (hk : InR k) : Calls Tryz.prog 6 #[v, .int .i64 k] w fun e w' => e = .returned (.bool true) ∧ Below w.heap.size w w' := by
  have mixed := mixedP
  have B0 := hid (Below.refl w.heap.size w)
  obtain ⟨a0, c0, b0, d0, rfl⟩ := h.form
  have Fs := hid h
  clear h
  have HK := hid hk
  clear hk
  obtain ⟨V1, hV1⟩ : ∃ W, w.alloc (.cells #[.bool s.dead, .slice a0 s.vs.length c0, .slice b0 s.ls.length d0] 25) = W := ⟨_, rfl⟩
  have hbx : Below w.heap.size w V1 := by rw [← hV1]; exact (gr_new _ _).below
  have Nbs : Hid (V1.heap[w.heap.size]? = some (.cells #[.bool s.dead, .slice a0 s.vs.length c0, .slice b0 s.ls.length d0] 25 (0, 0))) := by unfold Hid; rw [← hV1]; exact new_at _ _
  have B2 := hid (B0.out.trans (hbx.mono B0.out.size))
  have Fs2 := hid (Fs.out.bel hbx)
  clear B0 Fs
  clear hbx
  go_enter Tryz.func6, Tryz.ntmps6
  obtain ⟨xbs0, xbs1, xbs2, _⟩ := cells3 Nbs.out
  go_wp2_with (first | (go_at_call 9; refine stopHere ?_))
  refine stopAt ?_
  refine (fixed_any V1).mono ?_
  rintro e w3 ⟨rfl, hb⟩
  have B3 := hid (B2.out.trans (hb.mono B2.out.size))
  have Fs3 := hid (Fs2.out.bel hb)
  have Fbs3 := hid (bx_bel Nbs.out hb)
  clear B2 Fs2 Nbs
  clear hb xbs0 xbs1 xbs2 hV1
  rcases (Bool.eq_false_or_eq_true (M.smallSt s)).symm with hs | hs
  · obtain ⟨xbs0, xbs1, xbs2, _⟩ := cells3 Fbs3.out
    go_wp2_with (first | (go_at_call 8; refine stopHere ?_))
    refine stopAt ?_
    refine (rsmallSt_any w3 _ s Fs3.out).mono ?_
    rw [hs]
    rintro e w4 ⟨rfl, hb⟩
    have B4 := hid (B3.out.trans (hb.mono B3.out.size))
    have Fs4 := hid (Fs3.out.bel hb)
    have Fbs4 := hid (bx_bel Fbs3.out hb)
    clear B3 Fs3 Fbs3
    clear hb xbs0 xbs1 xbs2
    obtain ⟨xbs0, xbs1, xbs2, _⟩ := cells3 Fbs4.out
    go_wp2_with (first | (go_at_call 9; refine stopHere ?_))
    refine stopAt ?_
    refine (fixed_any w4).mono ?_
    rintro e w5 ⟨rfl, hb⟩
    have B5 := hid (B4.out.trans (hb.mono B4.out.size))
    have Fs5 := hid (Fs4.out.bel hb)
    have Fbs5 := hid (bx_bel Fbs4.out hb)
    clear B4 Fs4 Fbs4
    clear hb xbs0 xbs1 xbs2
    go_wp2
    go_ret
    exact ⟨rfl, B5.out⟩
  obtain ⟨xbs0, xbs1, xbs2, _⟩ := cells3 Fbs3.out
  go_wp2_with (first | (go_at_call 8; refine stopHere ?_))
  refine stopAt ?_
  refine (rsmallSt_any w3 _ s Fs3.out).mono ?_
  rw [hs]
  rintro e w4 ⟨rfl, hb⟩
  have B4 := hid (B3.out.trans (hb.mono B3.out.size))
  have Fs4 := hid (Fs3.out.bel hb)
  have Fbs4 := hid (bx_bel Fbs3.out hb)
  clear B3 Fs3 Fbs3
  clear hb xbs0 xbs1 xbs2
  have K1 := hid (M.small_smSt hs)
  rcases (Bool.eq_false_or_eq_true (M.maySt s)).symm with hm | hm
  · obtain ⟨xbs0, xbs1, xbs2, _⟩ := cells3 Fbs4.out
    go_wp2_with (first | (go_at_call 15; refine stopHere ?_))
    refine stopAt ?_
    refine (rmaySt_any w4 _ s Fs4.out (M.smSt_mono K1.out (by decide))).mono ?_
    rw [hm]
    rintro e w5 ⟨rfl, hb⟩
    have B5 := hid (B4.out.trans (hb.mono B4.out.size))
    have Fs5 := hid (Fs4.out.bel hb)
    have Fbs5 := hid (bx_bel Fbs4.out hb)
    clear B4 Fs4 Fbs4
    clear hb xbs0 xbs1 xbs2
    obtain ⟨xbs0, xbs1, xbs2, _⟩ := cells3 Fbs5.out
    go_wp2_with (first | (go_at_call 9; refine stopHere ?_))
    refine stopAt ?_
    refine (fixed_any w5).mono ?_
    rintro e w6 ⟨rfl, hb⟩
    have B6 := hid (B5.out.trans (hb.mono B5.out.size))
    have Fs6 := hid (Fs5.out.bel hb)
    have Fbs6 := hid (bx_bel Fbs5.out hb)
    clear B5 Fs5 Fbs5
    clear hb xbs0 xbs1 xbs2
    go_wp2
    go_ret
    exact ⟨rfl, B6.out⟩
  obtain ⟨xbs0, xbs1, xbs2, _⟩ := cells3 Fbs4.out
  go_wp2_with (first | (go_at_call 15; refine stopHere ?_))
  refine stopAt ?_
  refine (rmaySt_any w4 _ s Fs4.out (M.smSt_mono K1.out (by decide))).mono ?_
  rw [hm]
  rintro e w5 ⟨rfl, hb⟩
  have B5 := hid (B4.out.trans (hb.mono B4.out.size))
  have Fs5 := hid (Fs4.out.bel hb)
  have Fbs5 := hid (bx_bel Fbs4.out hb)
  clear B4 Fs4 Fbs4
  clear hb xbs0 xbs1 xbs2
  have Hm := hid hm
  clear hs hm
  by_cases hk0 : k < 0
  · have fk : decide (k < 0) = true := decide_eq_true hk0
    obtain ⟨xbs0, xbs1, xbs2, _⟩ := cells3 Fbs5.out
    go_wp2_with (first | (go_at_call 9; refine stopHere ?_))
    refine stopAt ?_
    refine (fixed_any w5).mono ?_
    rintro e w6 ⟨rfl, hb⟩
    have B6 := hid (B5.out.trans (hb.mono B5.out.size))
    have Fs6 := hid (Fs5.out.bel hb)
    have Fbs6 := hid (bx_bel Fbs5.out hb)
    clear B5 Fs5 Fbs5
    clear hb xbs0 xbs1 xbs2
    go_wp2
    go_ret
    exact ⟨rfl, B6.out⟩
  have fk : decide (k < 0) = false := decide_eq_false hk0
  have NK : Hid (0 ≤ k) := Int.not_lt.1 hk0
  have MS := hid ((M.maySt_iff s).1 Hm.out)
  obtain ⟨t, ht⟩ : ∃ t, M.ageSt s k = t := ⟨_, rfl⟩
  have ET := hid ht
  have KT : Hid (M.SmSt 81 t) := by unfold Hid; rw [← ht]; exact M.smSt_age K1.out (by decide) _
  have VL : Hid (t.vs.length = s.vs.length) := by unfold Hid; rw [← ht]; exact M.age_vlen s k
  have HMK : Hid (M.getK s.ls ⟨4, k⟩ = M.getK s.ls ⟨4, k⟩) := rfl
  clear ht HMK
  obtain ⟨xbs0, xbs1, xbs2, _⟩ := cells3 Fbs5.out
  go_wp2_with (first | (go_at_call 11; refine stopHere ?_))
  refine stopAt ?_
  refine (age_ok w5 _ s t k Fs5.out HK.out NK.out (M.smSt_mono K1.out (by decide)) Hm.out ET.out).mono ?_
  rintro e w6 ⟨qa, qc, qb, qd, rfl, hF, hb⟩
  have B6 := hid (B5.out.trans (hb.mono B5.out.size))
  have Fs6 := hid (Fs5.out.bel hb)
  have Fbs6 := hid (bx_bel Fbs5.out hb)
  clear B5 Fs5 Fbs5
  have Ft6 := hid hF
  clear hF
  clear hb xbs0 xbs1 xbs2
  clear fk hk0
  obtain ⟨V7, hV7⟩ : ∃ W, w6.alloc (.cells #[.bool t.dead, .slice qa t.vs.length qc, .slice qb t.ls.length qd] 25) = W := ⟨_, rfl⟩
  have hbx : Below w6.heap.size w6 V7 := by rw [← hV7]; exact (gr_new _ _).below
  have Nbt : Hid (V7.heap[w6.heap.size]? = some (.cells #[.bool t.dead, .slice qa t.vs.length qc, .slice qb t.ls.length qd] 25 (0, 0))) := by unfold Hid; rw [← hV7]; exact new_at _ _
  have B8 := hid (B6.out.trans (hbx.mono B6.out.size))
  have Fs8 := hid (Fs6.out.bel hbx)
  have Fbs8 := hid (bx_bel Fbs6.out hbx)
  have Ft8 := hid (Ft6.out.bel hbx)
  clear B6 Fs6 Fbs6 Ft6
  clear hbx
  rcases (Bool.eq_false_or_eq_true (M.speaksSt s ⟨4, k⟩)).symm with hsp | hsp
  · as_aux_lemma =>
      have HEQ : Hid (M.sameSt t s = true) := by unfold Hid; rw [← ET.out, M.age_none MS.out NK.out hsp]; simp [M.sameSt]
      obtain ⟨xbs0, xbs1, xbs2, _⟩ := cells3 Fbs8.out
      obtain ⟨xbt0, xbt1, xbt2, _⟩ := cells3 Nbt.out
      go_wp2_with fail
      have KH : Hid (∀ W, Below V7.heap.size V7 W → (W.cell? ⟨w.heap.size, 0, none⟩ = some (.bool s.dead) ∧ W.cell? ⟨w.heap.size, 1, none⟩ = some (.slice a0 s.vs.length c0) ∧ W.cell? ⟨w.heap.size, 2, none⟩ = some (.slice b0 s.ls.length d0) ∧ W.cell? ⟨w6.heap.size, 0, none⟩ = some (.bool t.dead) ∧ W.cell? ⟨w6.heap.size, 1, none⟩ = some (.slice qa t.vs.length qc) ∧ W.cell? ⟨w6.heap.size, 2, none⟩ = some (.slice qb t.ls.length qd))) := fun W hb => by
        obtain ⟨ybs0, ybs1, ybs2, _⟩ := cells3 (bx_bel Fbs8.out hb)
        obtain ⟨ybt0, ybt1, ybt2, _⟩ := cells3 (bx_bel Nbt.out hb)
        exact ⟨ybs0, ybs1, ybs2, ybt0, ybt1, ybt2⟩
      clear xbs0 xbs1 xbs2 xbt0 xbt1 xbt2
      clear hV7
      refine wp_region_held_drew (S := fun W => W.cell? ⟨w.heap.size, 0, none⟩ = some (.bool s.dead) ∧ W.cell? ⟨w.heap.size, 1, none⟩ = some (.slice a0 s.vs.length c0) ∧ W.cell? ⟨w.heap.size, 2, none⟩ = some (.slice b0 s.ls.length d0) ∧ W.cell? ⟨w6.heap.size, 0, none⟩ = some (.bool t.dead) ∧ W.cell? ⟨w6.heap.size, 1, none⟩ = some (.slice qa t.vs.length qc) ∧ W.cell? ⟨w6.heap.size, 2, none⟩ = some (.slice qb t.ls.length qd)) (by kernel_rfl) (KH.out _ (Below.refl _ _).drew) (fun hHeld => ?_)
      have hbd : Below V7.heap.size V7 V7.drew := (Gr.refl _).drew.below
      have RB0 := hid hbd
      have B9 := hid (B8.out.trans (hbd.mono B8.out.size))
      have Fs9 := hid (Fs8.out.bel hbd)
      have Fbs9 := hid (bx_bel Fbs8.out hbd)
      have Ft9 := hid (Ft8.out.bel hbd)
      have Fbt9 := hid (bx_bel Nbt.out hbd)
      clear B8 Fs8 Fbs8 Ft8 Nbt
      clear hbd
      refine tk 0 ⟨some 30, .load 25 (.tmp 2), 25, "law.go:111", #[], none⟩ (v := ?_) hHeld ?_ ?_
      rotate_left
      · intro w hSw; (try dsimp only at hSw); go_simp; (try with_reducible rfl)
      simp only [Act.put, z0, z1, z2]
      refine tk 1 ⟨some 31, .move (.tmp 1), 3, "law.go:111", #[], none⟩ (v := ?_) hHeld ?_ ?_
      rotate_left
      · intro w hSw; (try dsimp only at hSw); go_simp; (try with_reducible rfl)
      simp only [Act.put, z0, z1, z2]
      refine wpAnyH_ready (rs := [2]) (by kernel_rfl) (by simp) ?_
      refine AllReadyH.cons (o := ⟨some 32, .call { callee := .value (.func 18), args := #[.tmp 31], argTypes := #[3] }, 34, "law.go:111", #[⟨1, .data⟩], none⟩) rfl (fun K hK => ?_) AllReadyH.nil
      go_simp
      refine (recv_any k V7.drew).mono ?_
      rintro e z10 ⟨rfl, hb⟩
      have B10 := hid (B9.out.trans (hb.mono B9.out.size))
      have Fs10 := hid (Fs9.out.bel hb)
      have Fbs10 := hid (bx_bel Fbs9.out hb)
      have Ft10 := hid (Ft9.out.bel hb)
      have Fbt10 := hid (bx_bel Fbt9.out hb)
      have RB10 := hid (RB0.out.trans (hb.mono RB0.out.size))
      clear B9 Fs9 Fbs9 Ft9 Fbt9 RB0
      clear hb
      refine hK.out _ _ (KH.out _ RB10.out) (fun hHeld => ?_)
      refine wpAnyH_ready (rs := [3]) (by kernel_rfl) (by simp) ?_
      refine AllReadyH.cons (o := ⟨some 33, .call { callee := .value (.func 17), args := #[.tmp 30, .tmp 32], argTypes := #[25, 34] }, 4, "law.go:111", #[⟨0, .data⟩, ⟨2, .data⟩, ⟨2, .chain⟩], none⟩) rfl (fun K hK => ?_) AllReadyH.nil
      go_simp
      refine (speaks_any z10 _ s ⟨4, k⟩ Fs10.out (M.smSt_mono K1.out (by decide))).mono ?_
      rw [hsp]
      rintro e z11 ⟨rfl, hb⟩
      have B11 := hid (B10.out.trans (hb.mono B10.out.size))
      have Fs11 := hid (Fs10.out.bel hb)
      have Fbs11 := hid (bx_bel Fbs10.out hb)
      have Ft11 := hid (Ft10.out.bel hb)
      have Fbt11 := hid (bx_bel Fbt10.out hb)
      have RB11 := hid (RB10.out.trans (hb.mono RB10.out.size))
      clear B10 Fs10 Fbs10 Ft10 Fbt10 RB10
      clear hb
      refine hK.out _ _ (KH.out _ RB11.out) (fun hHeld => ?_)
      refine tk 4 ⟨some 34, .unOp .not 4 (.tmp 33), 4, "law.go:111", #[⟨3, .data⟩], none⟩ (v := ?_) hHeld ?_ ?_
      rotate_left
      · intro w hSw; (try dsimp only at hSw); go_simp; (try with_reducible rfl)
      simp only [Act.put, z0, z1, z2]
      refine wpAnyH_done (by kernel_rfl) ?_ _
      clear hHeld KH
      clear RB11
      obtain ⟨xbs0, xbs1, xbs2, _⟩ := cells3 Fbs11.out
      obtain ⟨xbt0, xbt1, xbt2, _⟩ := cells3 Fbt11.out
      go_wp2_with (first | (go_at_call 10; refine stopHere ?_))
      refine stopAt ?_
      refine (rsameSt_any z11 _ _ t s Ft11.out Fs11.out (M.smSt_mono KT.out (by decide))).mono ?_
      rw [HEQ.out]
      rintro e w12 ⟨rfl, hb⟩
      have B12 := hid (B11.out.trans (hb.mono B11.out.size))
      have Fs12 := hid (Fs11.out.bel hb)
      have Fbs12 := hid (bx_bel Fbs11.out hb)
      have Ft12 := hid (Ft11.out.bel hb)
      have Fbt12 := hid (bx_bel Fbt11.out hb)
      clear B11 Fs11 Fbs11 Ft11 Fbt11
      clear hb xbs0 xbs1 xbs2 xbt0 xbt1 xbt2
      go_wp2
      go_ret
      exact ⟨rfl, B12.out⟩
  obtain ⟨xbs0, xbs1, xbs2, _⟩ := cells3 Fbs8.out
  obtain ⟨xbt0, xbt1, xbt2, _⟩ := cells3 Nbt.out
  go_wp2_with fail
  have KH : Hid (∀ W, Below V7.heap.size V7 W → (W.cell? ⟨w.heap.size, 0, none⟩ = some (.bool s.dead) ∧ W.cell? ⟨w.heap.size, 1, none⟩ = some (.slice a0 s.vs.length c0) ∧ W.cell? ⟨w.heap.size, 2, none⟩ = some (.slice b0 s.ls.length d0) ∧ W.cell? ⟨w6.heap.size, 0, none⟩ = some (.bool t.dead) ∧ W.cell? ⟨w6.heap.size, 1, none⟩ = some (.slice qa t.vs.length qc) ∧ W.cell? ⟨w6.heap.size, 2, none⟩ = some (.slice qb t.ls.length qd))) := fun W hb => by
    obtain ⟨ybs0, ybs1, ybs2, _⟩ := cells3 (bx_bel Fbs8.out hb)
    obtain ⟨ybt0, ybt1, ybt2, _⟩ := cells3 (bx_bel Nbt.out hb)
    exact ⟨ybs0, ybs1, ybs2, ybt0, ybt1, ybt2⟩
  clear xbs0 xbs1 xbs2 xbt0 xbt1 xbt2
  clear hV7
  refine wp_region_held_drew (S := fun W => W.cell? ⟨w.heap.size, 0, none⟩ = some (.bool s.dead) ∧ W.cell? ⟨w.heap.size, 1, none⟩ = some (.slice a0 s.vs.length c0) ∧ W.cell? ⟨w.heap.size, 2, none⟩ = some (.slice b0 s.ls.length d0) ∧ W.cell? ⟨w6.heap.size, 0, none⟩ = some (.bool t.dead) ∧ W.cell? ⟨w6.heap.size, 1, none⟩ = some (.slice qa t.vs.length qc) ∧ W.cell? ⟨w6.heap.size, 2, none⟩ = some (.slice qb t.ls.length qd)) (by kernel_rfl) (KH.out _ (Below.refl _ _).drew) (fun hHeld => ?_)
  have hbd : Below V7.heap.size V7 V7.drew := (Gr.refl _).drew.below
  have RB0 := hid hbd
  have B9 := hid (B8.out.trans (hbd.mono B8.out.size))
  have Fs9 := hid (Fs8.out.bel hbd)
  have Fbs9 := hid (bx_bel Fbs8.out hbd)
  have Ft9 := hid (Ft8.out.bel hbd)
  have Fbt9 := hid (bx_bel Nbt.out hbd)
  clear B8 Fs8 Fbs8 Ft8 Nbt
  clear hbd
  refine tk 0 ⟨some 30, .load 25 (.tmp 2), 25, "law.go:111", #[], none⟩ (v := ?_) hHeld ?_ ?_
  rotate_left
  · intro w hSw; (try dsimp only at hSw); go_simp; (try with_reducible rfl)
  simp only [Act.put, z0, z1, z2]
  refine tk 1 ⟨some 31, .move (.tmp 1), 3, "law.go:111", #[], none⟩ (v := ?_) hHeld ?_ ?_
  rotate_left
  · intro w hSw; (try dsimp only at hSw); go_simp; (try with_reducible rfl)
  simp only [Act.put, z0, z1, z2]
  refine wpAnyH_ready (rs := [2]) (by kernel_rfl) (by simp) ?_
  refine AllReadyH.cons (o := ⟨some 32, .call { callee := .value (.func 18), args := #[.tmp 31], argTypes := #[3] }, 34, "law.go:111", #[⟨1, .data⟩], none⟩) rfl (fun K hK => ?_) AllReadyH.nil
  go_simp
  refine (recv_any k V7.drew).mono ?_
  rintro e z10 ⟨rfl, hb⟩
  have B10 := hid (B9.out.trans (hb.mono B9.out.size))
  have Fs10 := hid (Fs9.out.bel hb)
  have Fbs10 := hid (bx_bel Fbs9.out hb)
  have Ft10 := hid (Ft9.out.bel hb)
  have Fbt10 := hid (bx_bel Fbt9.out hb)
  have RB10 := hid (RB0.out.trans (hb.mono RB0.out.size))
  clear B9 Fs9 Fbs9 Ft9 Fbt9 RB0
  clear hb
  refine hK.out _ _ (KH.out _ RB10.out) (fun hHeld => ?_)
  refine wpAnyH_ready (rs := [3]) (by kernel_rfl) (by simp) ?_
  refine AllReadyH.cons (o := ⟨some 33, .call { callee := .value (.func 17), args := #[.tmp 30, .tmp 32], argTypes := #[25, 34] }, 4, "law.go:111", #[⟨0, .data⟩, ⟨2, .data⟩, ⟨2, .chain⟩], none⟩) rfl (fun K hK => ?_) AllReadyH.nil
  go_simp
  refine (speaks_any z10 _ s ⟨4, k⟩ Fs10.out (M.smSt_mono K1.out (by decide))).mono ?_
  rw [hsp]
  rintro e z11 ⟨rfl, hb⟩
  have B11 := hid (B10.out.trans (hb.mono B10.out.size))
  have Fs11 := hid (Fs10.out.bel hb)
  have Fbs11 := hid (bx_bel Fbs10.out hb)
  have Ft11 := hid (Ft10.out.bel hb)
  have Fbt11 := hid (bx_bel Fbt10.out hb)
  have RB11 := hid (RB10.out.trans (hb.mono RB10.out.size))
  clear B10 Fs10 Fbs10 Ft10 Fbt10 RB10
  clear hb
  refine hK.out _ _ (KH.out _ RB11.out) (fun hHeld => ?_)
  refine tk 4 ⟨some 34, .unOp .not 4 (.tmp 33), 4, "law.go:111", #[⟨3, .data⟩], none⟩ (v := ?_) hHeld ?_ ?_
  rotate_left
  · intro w hSw; (try dsimp only at hSw); go_simp; (try with_reducible rfl)
  simp only [Act.put, z0, z1, z2]
  refine wpAnyH_done (by kernel_rfl) ?_ _
  clear hHeld KH
  clear RB11
  clear hsp
  obtain ⟨B, L, hsL, hnB, hmL, hB, hL⟩ := StAt.parts Fs11.out
  have HSL : Hid (lclOf L = s.ls) := by unfold Hid; rw [hsL]
  have HLL : Hid (L.length = s.ls.length) := hmL.symm
  have HSM : Hid (∀ x ∈ L, M.Sm 40 x.s) := fun x hx => K1.out.lv x.p (by rw [← HSL.out]; exact List.mem_map.2 ⟨x, hx, rfl⟩)
  have TL := hid hL
  clear hsL hnB hmL hB hL
  have Gs := Fs11
  have Gt := Ft11
  have Gbs := Fbs11
  have Gbt := Fbt11
  have GB := B11
  clear Fs11 Fbs11 Ft11 Fbt11 B11
  go_wp2
  go_loopw [6] (fun i w' => ∃ j : Nat, j ≤ s.ls.length ∧ i = .int .i64 j ∧ Hid (Below z11.heap.size z11 w')) (fun i _ => s.ls.length - (intOf i).toNat)
  case atStart => exact ⟨0, Nat.zero_le _, rfl, Below.refl _ _⟩
  case round =>
    obtain ⟨j, hj, rfl, hbel⟩ := hrel
    have RB := hid (GB.out.trans (hbel.out.mono GB.out.size))
    have Rs := hid (Gs.out.bel hbel.out)
    have Rt := hid (Gt.out.bel hbel.out)
    have Rbs := hid (bx_bel Gbs.out hbel.out)
    have Rbt := hid (bx_bel Gbt.out hbel.out)
    have LB : Hid (LowB z11 wr) := hbel.out
    have HNL : s.ls.length ≤ 40 := K1.out.ll
    by_cases hjl : j < s.ls.length
    · have hjL : j < L.length := by have := HLL.out; omega
      have hLb := hid (TL.out.bel hbel.out)
      obtain ⟨bb, o, rfl, hlt, hc⟩ := Ls_some hLb.out hjL
      obtain ⟨c1, c2, c3, c4⟩ := hc j hjL
      have HX := hid (hLb.out.2 _ (List.getElem_mem hjL)).2
      have HSX := hid (HSM.out _ (List.getElem_mem hjL))
      obtain ⟨y, hy⟩ : ∃ y, L[j] = y := ⟨_, rfl⟩
      rw [hy] at c1 c2 c3 c4 HX HSX
      have HGET := hid (get_at MS.out HSL.out hjL hy)
      obtain ⟨yx, ys, yfa, yfn, ypa, ypn⟩ := y
      have HGT : Hid (M.getK s.ls yx = some ys) := HGET.out
      have HMY : Hid (M.mayS ys = true) := (MS.out.lm _ _ HGT.out).2
      have HXS : Hid (ShAt wr (.agg #[.slice yfa ys.fs.length yfn, .slice ypa ys.pr.length ypn]) ys) := HX.out
      have HSY : Hid (M.Sm 40 ys) := HSX.out
      have QR : Hid (Qua wr bb (o + j * 4) yx ys yfa yfn ypa ypn) := ⟨hlt, c1, c2, c3, c4⟩
      clear hy hc HX HSX HGET hLb hbel c1 c2 c3 c4 hlt
      obtain ⟨y0, y1, y2, yf⟩ := cells3 Rbs.out
      obtain ⟨_, e1, e2, e3, e4⟩ := QR.out
      obtain ⟨V1, hV1⟩ : ∃ W, wr.alloc (.cells #[.int .i64 yx.k, .int .i64 yx.n] 34) = W := ⟨_, rfl⟩
      have hbx : Below wr.heap.size wr V1 := by rw [← hV1]; exact (gr_new _ _).below
      have Nbx : Hid (V1.heap[wr.heap.size]? = some (.cells #[.int .i64 yx.k, .int .i64 yx.n] 34 (0, 0))) := by unfold Hid; rw [← hV1]; exact new_at _ _
      have B2 := hid (RB.out.trans (hbx.mono RB.out.size))
      have Fs2 := hid (Rs.out.bel hbx)
      have Ft2 := hid (Rt.out.bel hbx)
      have Flow2 := hid (LB.out.bel hbx)
      have Fbs2 := hid (bx_bel Rbs.out hbx)
      have Fbt2 := hid (bx_bel Rbt.out hbx)
      have Fy2 := hid (HXS.out.bel hbx)
      have Fq2 := hid (QR.out.bel hbx)
      clear RB Rs Rt LB Rbs Rbt HXS QR
      clear hbx
      obtain ⟨xbs0, xbs1, xbs2, _⟩ := cells3 Fbs2.out
      obtain ⟨xbt0, xbt1, xbt2, _⟩ := cells3 Fbt2.out
      obtain ⟨tq0, tq1, tq2, tq3⟩ := Fq2.out.2
      obtain ⟨xbx0, xbx1, _⟩ := cells2 Nbx.out
      go_wp2_with (first | (go_at_call 20; refine stopHere ?_))
      refine stopAt ?_
      refine (rloc_ok V1 _ t yx Ft2.out (M.smSt_mono KT.out (by decide))).mono ?_
      rintro e w3 ⟨p, is, pf, pfn, pp, ppn, rfl, hp, his, hS, hb⟩
      have B3 := hid (B2.out.trans (hb.mono B2.out.size))
      have Fs3 := hid (Fs2.out.bel hb)
      have Ft3 := hid (Ft2.out.bel hb)
      have Flow3 := hid (Flow2.out.bel hb)
      have Fbs3 := hid (bx_bel Fbs2.out hb)
      have Fbt3 := hid (bx_bel Fbt2.out hb)
      have Fy3 := hid (Fy2.out.bel hb)
      have Fq3 := hid (Fq2.out.bel hb)
      have Fbx3 := hid (bx_bel Nbx.out hb)
      clear B2 Fs2 Ft2 Flow2 Fbs2 Fbt2 Fy2 Fq2 Nbx
      have Fp3 := hid hS
      have HP := hid hp
      have HIS := hid his
      clear hS hp his y0 y1 y2 yf e1 e2 e3 e4
      clear hb xbs0 xbs1 xbs2 xbt0 xbt1 xbt2 tq0 tq1 tq2 tq3 xbx0 xbx1 hV1
      obtain ⟨V4, hV4⟩ : ∃ W, w3.alloc (.cells #[.slice pf p.fs.length pfn, .slice pp p.pr.length ppn] 31) = W := ⟨_, rfl⟩
      have hbx : Below w3.heap.size w3 V4 := by rw [← hV4]; exact (gr_new _ _).below
      have Nbp : Hid (V4.heap[w3.heap.size]? = some (.cells #[.slice pf p.fs.length pfn, .slice pp p.pr.length ppn] 31 (0, 0))) := by unfold Hid; rw [← hV4]; exact new_at _ _
      have B5 := hid (B3.out.trans (hbx.mono B3.out.size))
      have Fs5 := hid (Fs3.out.bel hbx)
      have Ft5 := hid (Ft3.out.bel hbx)
      have Flow5 := hid (Flow3.out.bel hbx)
      have Fbs5 := hid (bx_bel Fbs3.out hbx)
      have Fbt5 := hid (bx_bel Fbt3.out hbx)
      have Fy5 := hid (Fy3.out.bel hbx)
      have Fq5 := hid (Fq3.out.bel hbx)
      have Fbx5 := hid (bx_bel Fbx3.out hbx)
      have Fp5 := hid (Fp3.out.bel hbx)
      clear B3 Fs3 Ft3 Flow3 Fbs3 Fbt3 Fy3 Fq3 Fbx3 Fp3
      clear hbx
      by_cases hyn : yx.n = k
      · as_aux_lemma =>
          have fx : (yx.n != k) = false := by rw [hyn]; simp
          obtain ⟨xbs0, xbs1, xbs2, _⟩ := cells3 Fbs5.out
          obtain ⟨xbt0, xbt1, xbt2, _⟩ := cells3 Fbt5.out
          obtain ⟨tq0, tq1, tq2, tq3⟩ := Fq5.out.2
          obtain ⟨xbx0, xbx1, _⟩ := cells2 Fbx5.out
          obtain ⟨xbp0, xbp1, _⟩ := cells2 Nbp.out
          go_wp2_with fail
          have KH : Hid (∀ W, Below V4.heap.size V4 W → (W.cell? ⟨w.heap.size, 0, none⟩ = some (.bool s.dead) ∧ W.cell? ⟨w.heap.size, 1, none⟩ = some (.slice a0 s.vs.length c0) ∧ W.cell? ⟨w.heap.size, 2, none⟩ = some (.slice (some ⟨bb, o, none⟩) s.ls.length d0) ∧ W.cell? ⟨w6.heap.size, 0, none⟩ = some (.bool t.dead) ∧ W.cell? ⟨w6.heap.size, 1, none⟩ = some (.slice qa t.vs.length qc) ∧ W.cell? ⟨w6.heap.size, 2, none⟩ = some (.slice qb t.ls.length qd) ∧ W.cell? ⟨wr.heap.size, 0, none⟩ = some (.int .i64 yx.k) ∧ W.cell? ⟨wr.heap.size, 1, none⟩ = some (.int .i64 yx.n) ∧ W.cell? ⟨w3.heap.size, 0, none⟩ = some (.slice pf p.fs.length pfn) ∧ W.cell? ⟨w3.heap.size, 1, none⟩ = some (.slice pp p.pr.length ppn) ∧ W.cell? ⟨bb, o + j * 4, none⟩ = some (.int .i64 yx.k) ∧ W.cell? ⟨bb, o + j * 4 + 1, none⟩ = some (.int .i64 yx.n) ∧ W.cell? ⟨bb, o + j * 4 + 2, none⟩ = some (.slice yfa ys.fs.length yfn) ∧ W.cell? ⟨bb, o + j * 4 + 3, none⟩ = some (.slice ypa ys.pr.length ypn))) := fun W hb => by
            obtain ⟨ybs0, ybs1, ybs2, _⟩ := cells3 (bx_bel Fbs5.out hb)
            obtain ⟨ybt0, ybt1, ybt2, _⟩ := cells3 (bx_bel Fbt5.out hb)
            obtain ⟨ybx0, ybx1, _⟩ := cells2 (bx_bel Fbx5.out hb)
            obtain ⟨ybp0, ybp1, _⟩ := cells2 (bx_bel Nbp.out hb)
            obtain ⟨rq0, rq1, rq2, rq3⟩ := (Fq5.out.bel hb).2
            exact ⟨ybs0, ybs1, ybs2, ybt0, ybt1, ybt2, ybx0, ybx1, ybp0, ybp1, rq0, rq1, rq2, rq3⟩
          clear xbs0 xbs1 xbs2 xbt0 xbt1 xbt2 tq0 tq1 tq2 tq3 xbx0 xbx1 xbp0 xbp1
          clear hV4
          refine wp_region_held_drew (S := fun W => W.cell? ⟨w.heap.size, 0, none⟩ = some (.bool s.dead) ∧ W.cell? ⟨w.heap.size, 1, none⟩ = some (.slice a0 s.vs.length c0) ∧ W.cell? ⟨w.heap.size, 2, none⟩ = some (.slice (some ⟨bb, o, none⟩) s.ls.length d0) ∧ W.cell? ⟨w6.heap.size, 0, none⟩ = some (.bool t.dead) ∧ W.cell? ⟨w6.heap.size, 1, none⟩ = some (.slice qa t.vs.length qc) ∧ W.cell? ⟨w6.heap.size, 2, none⟩ = some (.slice qb t.ls.length qd) ∧ W.cell? ⟨wr.heap.size, 0, none⟩ = some (.int .i64 yx.k) ∧ W.cell? ⟨wr.heap.size, 1, none⟩ = some (.int .i64 yx.n) ∧ W.cell? ⟨w3.heap.size, 0, none⟩ = some (.slice pf p.fs.length pfn) ∧ W.cell? ⟨w3.heap.size, 1, none⟩ = some (.slice pp p.pr.length ppn) ∧ W.cell? ⟨bb, o + j * 4, none⟩ = some (.int .i64 yx.k) ∧ W.cell? ⟨bb, o + j * 4 + 1, none⟩ = some (.int .i64 yx.n) ∧ W.cell? ⟨bb, o + j * 4 + 2, none⟩ = some (.slice yfa ys.fs.length yfn) ∧ W.cell? ⟨bb, o + j * 4 + 3, none⟩ = some (.slice ypa ys.pr.length ypn)) (by kernel_rfl) (KH.out _ (Below.refl _ _).drew) (fun hHeld => ?_)
          have hbd : Below V4.heap.size V4 V4.drew := (Gr.refl _).drew.below
          have RB0 := hid hbd
          have B6 := hid (B5.out.trans (hbd.mono B5.out.size))
          have Fs6 := hid (Fs5.out.bel hbd)
          have Ft6 := hid (Ft5.out.bel hbd)
          have Flow6 := hid (Flow5.out.bel hbd)
          have Fbs6 := hid (bx_bel Fbs5.out hbd)
          have Fbt6 := hid (bx_bel Fbt5.out hbd)
          have Fy6 := hid (Fy5.out.bel hbd)
          have Fq6 := hid (Fq5.out.bel hbd)
          have Fbx6 := hid (bx_bel Fbx5.out hbd)
          have Fp6 := hid (Fp5.out.bel hbd)
          have Fbp6 := hid (bx_bel Nbp.out hbd)
          clear B5 Fs5 Ft5 Flow5 Fbs5 Fbt5 Fy5 Fq5 Fbx5 Fp5 Nbp
          clear hbd
          refine tk 0 ⟨some 57, .fieldAddr 34 (.tmp 7) 1, 0, "law.go:117", #[], none⟩ (v := ?_) hHeld ?_ ?_
          rotate_left
          · intro w hSw; (try dsimp only at hSw); go_simp; (try with_reducible rfl)
          simp only [Act.put, z0, z1, z2]
          refine tk 1 ⟨some 58, .load 3 (.tmp 57), 3, "law.go:117", #[⟨0, .data⟩], none⟩ (v := ?_) hHeld ?_ ?_
          rotate_left
          · intro w hSw; (try dsimp only at hSw); go_simp; (try with_reducible rfl)
          simp only [Act.put, z0, z1, z2]
          refine tk 2 ⟨some 59, .move (.tmp 1), 3, "law.go:117", #[], none⟩ (v := ?_) hHeld ?_ ?_
          rotate_left
          · intro w hSw; (try dsimp only at hSw); go_simp; (try with_reducible rfl)
          simp only [Act.put, z0, z1, z2]
          refine tk 3 ⟨some 60, .binOp .neq 3 (.tmp 58) (.tmp 59) 3, 4, "law.go:117", #[⟨1, .data⟩, ⟨2, .data⟩], none⟩ (v := ?_) hHeld ?_ ?_
          rotate_left
          · intro w hSw; (try dsimp only at hSw); go_simp; (try with_reducible rfl)
          simp only [Act.put, z0, z1, z2]
          refine tk 4 ⟨some 61, .move (.tmp 60), 4, "law.go:117", #[⟨3, .data⟩], none⟩ (v := ?_) hHeld ?_ ?_
          rotate_left
          · intro w hSw; (try dsimp only at hSw); go_simp; (try with_reducible rfl)
          simp only [Act.put, z0, z1, z2]
          refine tku 5 ⟨some 62, .move (.tmp 9), 4, "law.go:117", #[⟨4, .guard⟩], some (4, true)⟩ hHeld ?_
          simp only [Act.put, z0, z1, z2]
          refine tku 6 ⟨some 63, .unOp .not 4 (.tmp 62), 4, "law.go:117", #[⟨5, .data⟩, ⟨4, .guard⟩], some (4, true)⟩ hHeld ?_
          simp only [Act.put, z0, z1, z2]
          refine tku 7 ⟨some 64, .move (.tmp 63), 4, "law.go:117", #[⟨6, .data⟩, ⟨4, .chain⟩, ⟨4, .guard⟩], some (4, true)⟩ hHeld ?_
          simp only [Act.put, z0, z1, z2]
          refine tku 8 ⟨some 65, .load 31 (.tmp 8), 31, "law.go:117", #[⟨7, .guard⟩], some (7, false)⟩ hHeld ?_
          simp only [Act.put, z0, z1, z2]
          refine tku 9 ⟨some 66, .fieldAddr 25 (.tmp 2) 2, 0, "law.go:117", #[⟨7, .guard⟩], some (7, false)⟩ hHeld ?_
          simp only [Act.put, z0, z1, z2]
          refine tku 10 ⟨some 67, .load 23 (.tmp 66), 23, "law.go:117", #[⟨9, .data⟩, ⟨7, .guard⟩], some (7, false)⟩ hHeld ?_
          simp only [Act.put, z0, z1, z2]
          refine tku 11 ⟨some 68, .move (.tmp 6), 3, "law.go:117", #[⟨7, .guard⟩], some (7, false)⟩ hHeld ?_
          simp only [Act.put, z0, z1, z2]
          refine tku 12 ⟨some 69, .indexAddr 23 (.tmp 67) (.tmp 68), 0, "law.go:117", #[⟨10, .data⟩, ⟨11, .data⟩, ⟨7, .guard⟩], some (7, false)⟩ hHeld ?_
          simp only [Act.put, z0, z1, z2]
          refine tku 13 ⟨some 70, .fieldAddr 36 (.tmp 69) 1, 0, "law.go:117", #[⟨12, .data⟩, ⟨7, .guard⟩], some (7, false)⟩ hHeld ?_
          simp only [Act.put, z0, z1, z2]
          refine tku 14 ⟨some 71, .load 31 (.tmp 70), 31, "law.go:117", #[⟨13, .data⟩, ⟨7, .guard⟩], some (7, false)⟩ hHeld ?_
          simp only [Act.put, z0, z1, z2]
          refine tku 15 ⟨some 72, .move (.tmp 1), 3, "law.go:117", #[⟨7, .guard⟩], some (7, false)⟩ hHeld ?_
          simp only [Act.put, z0, z1, z2]
          refine tku 16 ⟨some 73, .call { callee := .value (.func 22), args := #[.tmp 71, .tmp 72], argTypes := #[31, 3] }, 31, "law.go:117", #[⟨14, .data⟩, ⟨15, .data⟩, ⟨7, .chain⟩, ⟨7, .guard⟩], some (7, false)⟩ hHeld ?_
          simp only [Act.put, z0, z1, z2]
          refine tku 17 ⟨some 74, .call { callee := .value (.func 21), args := #[.tmp 65, .tmp 73], argTypes := #[31, 31] }, 4, "law.go:117", #[⟨8, .data⟩, ⟨16, .data⟩, ⟨16, .chain⟩, ⟨7, .guard⟩], some (7, false)⟩ hHeld ?_
          simp only [Act.put, z0, z1, z2]
          refine tku 18 ⟨some 75, .unOp .not 4 (.tmp 74), 4, "law.go:117", #[⟨17, .data⟩, ⟨7, .guard⟩], some (7, false)⟩ hHeld ?_
          simp only [Act.put, z0, z1, z2]
          refine tku 19 ⟨some 76, .pick (.tmp 64) (.const (.bool true)) (.tmp 75), 4, "law.go:117", #[⟨7, .data⟩, ⟨18, .data⟩, ⟨4, .guard⟩], some (4, true)⟩ hHeld ?_
          simp only [Act.put, z0, z1, z2]
          refine tk 20 ⟨some 77, .pick (.tmp 61) (.tmp 76) (.const (.bool false)), 4, "law.go:117", #[⟨4, .data⟩, ⟨19, .data⟩], none⟩ (v := ?_) hHeld ?_ ?_
          rotate_left
          · intro w hSw; (try dsimp only at hSw); go_simp; (try with_reducible rfl)
          simp only [Act.put, z0, z1, z2]
          refine wpAnyH_done (by kernel_rfl) ?_ _
          clear hHeld KH
          clear RB0
          go_wp2
          exact ⟨⟨j + 1, by omega, by go_num, hid Flow6.out⟩, by simp [intOf]; omega⟩
      as_aux_lemma =>
        have fx : (yx.n != k) = true := by rw [bne_iff_ne]; exact hyn
        have HA := hid (M.age_at MS.out hyn HGT.out)
        rw [ET.out] at HA
        obtain rfl : is = true := by rw [HIS.out, HA.out]; rfl
        have HPE : Hid (M.renS ys k = p) := by unfold Hid; rw [HP.out, HA.out]; rfl
        have HSP : Hid (M.Sm 40 p) := by unfold Hid; rw [← HPE.out]; exact M.sm_ren HSY.out k
        have HSAME : Hid (M.sameS p p = true) := by unfold Hid M.sameS; simp
        clear hyn HA HP HIS
        obtain ⟨xbs0, xbs1, xbs2, _⟩ := cells3 Fbs5.out
        obtain ⟨xbt0, xbt1, xbt2, _⟩ := cells3 Fbt5.out
        obtain ⟨tq0, tq1, tq2, tq3⟩ := Fq5.out.2
        obtain ⟨xbx0, xbx1, _⟩ := cells2 Fbx5.out
        obtain ⟨xbp0, xbp1, _⟩ := cells2 Nbp.out
        go_wp2_with fail
        have KH : Hid (∀ W, Below V4.heap.size V4 W → (W.cell? ⟨w.heap.size, 0, none⟩ = some (.bool s.dead) ∧ W.cell? ⟨w.heap.size, 1, none⟩ = some (.slice a0 s.vs.length c0) ∧ W.cell? ⟨w.heap.size, 2, none⟩ = some (.slice (some ⟨bb, o, none⟩) s.ls.length d0) ∧ W.cell? ⟨w6.heap.size, 0, none⟩ = some (.bool t.dead) ∧ W.cell? ⟨w6.heap.size, 1, none⟩ = some (.slice qa t.vs.length qc) ∧ W.cell? ⟨w6.heap.size, 2, none⟩ = some (.slice qb t.ls.length qd) ∧ W.cell? ⟨wr.heap.size, 0, none⟩ = some (.int .i64 yx.k) ∧ W.cell? ⟨wr.heap.size, 1, none⟩ = some (.int .i64 yx.n) ∧ W.cell? ⟨w3.heap.size, 0, none⟩ = some (.slice pf p.fs.length pfn) ∧ W.cell? ⟨w3.heap.size, 1, none⟩ = some (.slice pp p.pr.length ppn) ∧ W.cell? ⟨bb, o + j * 4, none⟩ = some (.int .i64 yx.k) ∧ W.cell? ⟨bb, o + j * 4 + 1, none⟩ = some (.int .i64 yx.n) ∧ W.cell? ⟨bb, o + j * 4 + 2, none⟩ = some (.slice yfa ys.fs.length yfn) ∧ W.cell? ⟨bb, o + j * 4 + 3, none⟩ = some (.slice ypa ys.pr.length ypn))) := fun W hb => by
          obtain ⟨ybs0, ybs1, ybs2, _⟩ := cells3 (bx_bel Fbs5.out hb)
          obtain ⟨ybt0, ybt1, ybt2, _⟩ := cells3 (bx_bel Fbt5.out hb)
          obtain ⟨ybx0, ybx1, _⟩ := cells2 (bx_bel Fbx5.out hb)
          obtain ⟨ybp0, ybp1, _⟩ := cells2 (bx_bel Nbp.out hb)
          obtain ⟨rq0, rq1, rq2, rq3⟩ := (Fq5.out.bel hb).2
          exact ⟨ybs0, ybs1, ybs2, ybt0, ybt1, ybt2, ybx0, ybx1, ybp0, ybp1, rq0, rq1, rq2, rq3⟩
        clear xbs0 xbs1 xbs2 xbt0 xbt1 xbt2 tq0 tq1 tq2 tq3 xbx0 xbx1 xbp0 xbp1
        clear hV4
        refine wp_region_held_drew (S := fun W => W.cell? ⟨w.heap.size, 0, none⟩ = some (.bool s.dead) ∧ W.cell? ⟨w.heap.size, 1, none⟩ = some (.slice a0 s.vs.length c0) ∧ W.cell? ⟨w.heap.size, 2, none⟩ = some (.slice (some ⟨bb, o, none⟩) s.ls.length d0) ∧ W.cell? ⟨w6.heap.size, 0, none⟩ = some (.bool t.dead) ∧ W.cell? ⟨w6.heap.size, 1, none⟩ = some (.slice qa t.vs.length qc) ∧ W.cell? ⟨w6.heap.size, 2, none⟩ = some (.slice qb t.ls.length qd) ∧ W.cell? ⟨wr.heap.size, 0, none⟩ = some (.int .i64 yx.k) ∧ W.cell? ⟨wr.heap.size, 1, none⟩ = some (.int .i64 yx.n) ∧ W.cell? ⟨w3.heap.size, 0, none⟩ = some (.slice pf p.fs.length pfn) ∧ W.cell? ⟨w3.heap.size, 1, none⟩ = some (.slice pp p.pr.length ppn) ∧ W.cell? ⟨bb, o + j * 4, none⟩ = some (.int .i64 yx.k) ∧ W.cell? ⟨bb, o + j * 4 + 1, none⟩ = some (.int .i64 yx.n) ∧ W.cell? ⟨bb, o + j * 4 + 2, none⟩ = some (.slice yfa ys.fs.length yfn) ∧ W.cell? ⟨bb, o + j * 4 + 3, none⟩ = some (.slice ypa ys.pr.length ypn)) (by kernel_rfl) (KH.out _ (Below.refl _ _).drew) (fun hHeld => ?_)
        have hbd : Below V4.heap.size V4 V4.drew := (Gr.refl _).drew.below
        have RB0 := hid hbd
        have B6 := hid (B5.out.trans (hbd.mono B5.out.size))
        have Fs6 := hid (Fs5.out.bel hbd)
        have Ft6 := hid (Ft5.out.bel hbd)
        have Flow6 := hid (Flow5.out.bel hbd)
        have Fbs6 := hid (bx_bel Fbs5.out hbd)
        have Fbt6 := hid (bx_bel Fbt5.out hbd)
        have Fy6 := hid (Fy5.out.bel hbd)
        have Fq6 := hid (Fq5.out.bel hbd)
        have Fbx6 := hid (bx_bel Fbx5.out hbd)
        have Fp6 := hid (Fp5.out.bel hbd)
        have Fbp6 := hid (bx_bel Nbp.out hbd)
        clear B5 Fs5 Ft5 Flow5 Fbs5 Fbt5 Fy5 Fq5 Fbx5 Fp5 Nbp
        clear hbd
        refine tk 0 ⟨some 57, .fieldAddr 34 (.tmp 7) 1, 0, "law.go:117", #[], none⟩ (v := ?_) hHeld ?_ ?_
        rotate_left
        · intro w hSw; (try dsimp only at hSw); go_simp; (try with_reducible rfl)
        simp only [Act.put, z0, z1, z2]
        refine tk 1 ⟨some 58, .load 3 (.tmp 57), 3, "law.go:117", #[⟨0, .data⟩], none⟩ (v := ?_) hHeld ?_ ?_
        rotate_left
        · intro w hSw; (try dsimp only at hSw); go_simp; (try with_reducible rfl)
        simp only [Act.put, z0, z1, z2]
        refine tk 2 ⟨some 59, .move (.tmp 1), 3, "law.go:117", #[], none⟩ (v := ?_) hHeld ?_ ?_
        rotate_left
        · intro w hSw; (try dsimp only at hSw); go_simp; (try with_reducible rfl)
        simp only [Act.put, z0, z1, z2]
        refine tk 3 ⟨some 60, .binOp .neq 3 (.tmp 58) (.tmp 59) 3, 4, "law.go:117", #[⟨1, .data⟩, ⟨2, .data⟩], none⟩ (v := ?_) hHeld ?_ ?_
        rotate_left
        · intro w hSw; (try dsimp only at hSw); go_simp; (try with_reducible rfl)
        simp only [Act.put, z0, z1, z2]
        refine tk 4 ⟨some 61, .move (.tmp 60), 4, "law.go:117", #[⟨3, .data⟩], none⟩ (v := ?_) hHeld ?_ ?_
        rotate_left
        · intro w hSw; (try dsimp only at hSw); go_simp; (try with_reducible rfl)
        simp only [Act.put, z0, z1, z2]
        refine tk 5 ⟨some 62, .move (.tmp 9), 4, "law.go:117", #[⟨4, .guard⟩], some (4, true)⟩ (v := ?_) hHeld ?_ ?_
        rotate_left
        · intro w hSw; (try dsimp only at hSw); go_simp; (try with_reducible rfl)
        simp only [Act.put, z0, z1, z2]
        refine tk 6 ⟨some 63, .unOp .not 4 (.tmp 62), 4, "law.go:117", #[⟨5, .data⟩, ⟨4, .guard⟩], some (4, true)⟩ (v := ?_) hHeld ?_ ?_
        rotate_left
        · intro w hSw; (try dsimp only at hSw); go_simp; (try with_reducible rfl)
        simp only [Act.put, z0, z1, z2]
        refine tk 7 ⟨some 64, .move (.tmp 63), 4, "law.go:117", #[⟨6, .data⟩, ⟨4, .chain⟩, ⟨4, .guard⟩], some (4, true)⟩ (v := ?_) hHeld ?_ ?_
        rotate_left
        · intro w hSw; (try dsimp only at hSw); go_simp; (try with_reducible rfl)
        simp only [Act.put, z0, z1, z2]
        refine tk 8 ⟨some 65, .load 31 (.tmp 8), 31, "law.go:117", #[⟨7, .guard⟩], some (7, false)⟩ (v := ?_) hHeld ?_ ?_
        rotate_left
        · intro w hSw; (try dsimp only at hSw); go_simp; (try with_reducible rfl)
        simp only [Act.put, z0, z1, z2]
        refine tk 9 ⟨some 66, .fieldAddr 25 (.tmp 2) 2, 0, "law.go:117", #[⟨7, .guard⟩], some (7, false)⟩ (v := ?_) hHeld ?_ ?_
        rotate_left
        · intro w hSw; (try dsimp only at hSw); go_simp; (try with_reducible rfl)
        simp only [Act.put, z0, z1, z2]
        refine tk 10 ⟨some 67, .load 23 (.tmp 66), 23, "law.go:117", #[⟨9, .data⟩, ⟨7, .guard⟩], some (7, false)⟩ (v := ?_) hHeld ?_ ?_
        rotate_left
        · intro w hSw; (try dsimp only at hSw); go_simp; (try with_reducible rfl)
        simp only [Act.put, z0, z1, z2]
        refine tk 11 ⟨some 68, .move (.tmp 6), 3, "law.go:117", #[⟨7, .guard⟩], some (7, false)⟩ (v := ?_) hHeld ?_ ?_
        rotate_left
        · intro w hSw; (try dsimp only at hSw); go_simp; (try with_reducible rfl)
        simp only [Act.put, z0, z1, z2]
        refine tk 12 ⟨some 69, .indexAddr 23 (.tmp 67) (.tmp 68), 0, "law.go:117", #[⟨10, .data⟩, ⟨11, .data⟩, ⟨7, .guard⟩], some (7, false)⟩ (v := ?_) hHeld ?_ ?_
        rotate_left
        · intro w hSw; (try dsimp only at hSw); go_simp; (try with_reducible rfl)
        simp only [Act.put, z0, z1, z2]
        refine tk 13 ⟨some 70, .fieldAddr 36 (.tmp 69) 1, 0, "law.go:117", #[⟨12, .data⟩, ⟨7, .guard⟩], some (7, false)⟩ (v := ?_) hHeld ?_ ?_
        rotate_left
        · intro w hSw; (try dsimp only at hSw); go_simp; (try with_reducible rfl)
        simp only [Act.put, z0, z1, z2]
        refine tk 14 ⟨some 71, .load 31 (.tmp 70), 31, "law.go:117", #[⟨13, .data⟩, ⟨7, .guard⟩], some (7, false)⟩ (v := ?_) hHeld ?_ ?_
        rotate_left
        · intro w hSw; (try dsimp only at hSw); go_simp; (try with_reducible rfl)
        simp only [Act.put, z0, z1, z2]
        refine tk 15 ⟨some 72, .move (.tmp 1), 3, "law.go:117", #[⟨7, .guard⟩], some (7, false)⟩ (v := ?_) hHeld ?_ ?_
        rotate_left
        · intro w hSw; (try dsimp only at hSw); go_simp; (try with_reducible rfl)
        simp only [Act.put, z0, z1, z2]
        refine wpAnyH_ready (rs := [16]) (by kernel_rfl) (by simp) ?_
        refine AllReadyH.cons (o := ⟨some 73, .call { callee := .value (.func 22), args := #[.tmp 71, .tmp 72], argTypes := #[31, 3] }, 31, "law.go:117", #[⟨14, .data⟩, ⟨15, .data⟩, ⟨7, .chain⟩, ⟨7, .guard⟩], some (7, false)⟩) rfl (fun K hK => ?_) AllReadyH.nil
        go_simp
        refine (rrename_ok V4.drew _ ys p k Fy6.out (M.sm_mono HSY.out (by decide)) HMY.out HPE.out).mono ?_
        rintro e z7 ⟨ra, rn, rb, rm, rfl, hS, hb⟩
        have B7 := hid (B6.out.trans (hb.mono B6.out.size))
        have Fs7 := hid (Fs6.out.bel hb)
        have Ft7 := hid (Ft6.out.bel hb)
        have Flow7 := hid (Flow6.out.bel hb)
        have Fbs7 := hid (bx_bel Fbs6.out hb)
        have Fbt7 := hid (bx_bel Fbt6.out hb)
        have Fy7 := hid (Fy6.out.bel hb)
        have Fq7 := hid (Fq6.out.bel hb)
        have Fbx7 := hid (bx_bel Fbx6.out hb)
        have Fp7 := hid (Fp6.out.bel hb)
        have Fbp7 := hid (bx_bel Fbp6.out hb)
        have RB7 := hid (RB0.out.trans (hb.mono RB0.out.size))
        clear B6 Fs6 Ft6 Flow6 Fbs6 Fbt6 Fy6 Fq6 Fbx6 Fp6 Fbp6 RB0
        have Fr7 := hid hS
        clear hS
        clear hb
        refine hK.out _ _ (KH.out _ RB7.out) (fun hHeld => ?_)
        refine wpAnyH_ready (rs := [17]) (by kernel_rfl) (by simp) ?_
        refine AllReadyH.cons (o := ⟨some 74, .call { callee := .value (.func 21), args := #[.tmp 65, .tmp 73], argTypes := #[31, 31] }, 4, "law.go:117", #[⟨8, .data⟩, ⟨16, .data⟩, ⟨16, .chain⟩, ⟨7, .guard⟩], some (7, false)⟩) rfl (fun K hK => ?_) AllReadyH.nil
        go_simp
        refine (rsameS_any z7 _ _ p p Fp7.out Fr7.out (M.sm_mono HSP.out (by decide))).mono ?_
        rw [HSAME.out]
        rintro e z8 ⟨rfl, hb⟩
        have B8 := hid (B7.out.trans (hb.mono B7.out.size))
        have Fs8 := hid (Fs7.out.bel hb)
        have Ft8 := hid (Ft7.out.bel hb)
        have Flow8 := hid (Flow7.out.bel hb)
        have Fbs8 := hid (bx_bel Fbs7.out hb)
        have Fbt8 := hid (bx_bel Fbt7.out hb)
        have Fy8 := hid (Fy7.out.bel hb)
        have Fq8 := hid (Fq7.out.bel hb)
        have Fbx8 := hid (bx_bel Fbx7.out hb)
        have Fp8 := hid (Fp7.out.bel hb)
        have Fbp8 := hid (bx_bel Fbp7.out hb)
        have Fr8 := hid (Fr7.out.bel hb)
        have RB8 := hid (RB7.out.trans (hb.mono RB7.out.size))
        clear B7 Fs7 Ft7 Flow7 Fbs7 Fbt7 Fy7 Fq7 Fbx7 Fp7 Fbp7 Fr7 RB7
        clear hb
        refine hK.out _ _ (KH.out _ RB8.out) (fun hHeld => ?_)
        refine tk 18 ⟨some 75, .unOp .not 4 (.tmp 74), 4, "law.go:117", #[⟨17, .data⟩, ⟨7, .guard⟩], some (7, false)⟩ (v := ?_) hHeld ?_ ?_
        rotate_left
        · intro w hSw; (try dsimp only at hSw); go_simp; (try with_reducible rfl)
        simp only [Act.put, z0, z1, z2]
        refine tk 19 ⟨some 76, .pick (.tmp 64) (.const (.bool true)) (.tmp 75), 4, "law.go:117", #[⟨7, .data⟩, ⟨18, .data⟩, ⟨4, .guard⟩], some (4, true)⟩ (v := ?_) hHeld ?_ ?_
        rotate_left
        · intro w hSw; (try dsimp only at hSw); go_simp; (try with_reducible rfl)
        simp only [Act.put, z0, z1, z2]
        refine tk 20 ⟨some 77, .pick (.tmp 61) (.tmp 76) (.const (.bool false)), 4, "law.go:117", #[⟨4, .data⟩, ⟨19, .data⟩], none⟩ (v := ?_) hHeld ?_ ?_
        rotate_left
        · intro w hSw; (try dsimp only at hSw); go_simp; (try with_reducible rfl)
        simp only [Act.put, z0, z1, z2]
        refine wpAnyH_done (by kernel_rfl) ?_ _
        clear hHeld KH
        clear RB8
        go_wp2
        exact ⟨⟨j + 1, by omega, by go_num, hid Flow8.out⟩, by simp [intOf]; omega⟩
    · have fv : ((t.vs.length : Int) == (s.vs.length : Int)) = true := by rw [VL.out]; simp
      obtain ⟨xbs0, xbs1, xbs2, _⟩ := cells3 Rbs.out
      obtain ⟨xbt0, xbt1, xbt2, _⟩ := cells3 Rbt.out
      go_wp2
      go_ret
      exact ⟨rfl, RB.out⟩
end Go.Proofs.YtbaaeobdjiglgaaGreat
