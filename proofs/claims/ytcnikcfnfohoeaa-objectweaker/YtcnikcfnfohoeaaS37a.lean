/-
  The law of what is written weakly, walked: where the property is not there. No conditions.
-/
import Derived.Test.YtcnikcfnfohoeaaS35m
set_option linter.unusedVariables false
set_option linter.unusedSimpArgs false
namespace Go.Proofs.Ytcnikcfnfohoeaa
open Go.RowKit Go.Sort
set_option maxHeartbeats 8000000 in
set_option maxRecDepth 100000 in
theorem weaker_law0 (w : World) (va v : Value) (sa : M.Shp) (n : ByteArray) (l : List M.Atm) (ha : ShAt w va sa) (hv : AtAt w v l) (hok : (M.getF sa.fs n).isSome = false) : Calls Try.prog 6 #[va, .string n, v] w fun e w' => e = .returned (.bool true) ∧ Below w.heap.size w w' := by
 have mixed := mixedP
 have B0 := hid (Below.refl w.heap.size w)
 obtain ⟨R, aa, ca, ba, da, hs, rfl, hR, hP⟩ := ha.open
 have HFS : Hid (sa.fs = fldOf R) := by unfold Hid; rw [hs]
 have HR := hid hR
 clear hR hP hs
 obtain ⟨x, y, rfl⟩ := hv.form
 have Fa := hid ha
 have Fv := hid hv
 clear ha hv
 have HOK := hid hok
 clear hok
 obtain ⟨V1, hV1⟩ : ∃ W, w.alloc (.cells #[.slice aa R.length ca, .slice ba sa.pr.length da] 25) = W := ⟨_, rfl⟩
 have hbx : Below w.heap.size w V1 := by rw [← hV1]; exact (gr_new _ _).below
 have Nba : Hid (V1.heap[w.heap.size]? = some (.cells #[.slice aa R.length ca, .slice ba sa.pr.length da] 25 (0, 0))) := by unfold Hid; rw [← hV1]; exact new_at _ _
 have B2 := hid (B0.out.trans (hbx.mono B0.out.size))
 have Fa2 := hid (Fa.out.bel hbx)
 have Fv2 := hid (Fv.out.bel hbx)
 clear B0 Fa Fv
 clear hbx
 go_enter Try.func6, Try.ntmps6
 obtain ⟨xba0, xba1, _⟩ := cells2 Nba.out
 go_wp2_with (first | (go_at_call 10; refine stopHere ?_))
 refine stopAt ?_
 refine (fixed_any V1).mono ?_
 rintro e w3 ⟨rfl, hb⟩
 have B3 := hid (B2.out.trans (hb.mono B2.out.size))
 have Fa3 := hid (Fa2.out.bel hb)
 have Fv3 := hid (Fv2.out.bel hb)
 have Fba3 := hid (bx_bel Nba.out hb)
 clear B2 Fa2 Fv2 Nba
 clear hb xba0 xba1 hV1
 rcases (Bool.eq_false_or_eq_true (M.smallB sa)).symm with hs | hs
 ·obtain ⟨xba0, xba1, _⟩ := cells2 Fba3.out
  go_wp2_with (first | (go_at_call 9; refine stopHere ?_))
  refine stopAt ?_
  refine (small_any w3 _ sa Fa3.out).mono ?_
  rw [hs]
  rintro e w4 ⟨rfl, hb⟩
  have B4 := hid (B3.out.trans (hb.mono B3.out.size))
  have Fa4 := hid (Fa3.out.bel hb)
  have Fv4 := hid (Fv3.out.bel hb)
  have Fba4 := hid (bx_bel Fba3.out hb)
  clear B3 Fa3 Fv3 Fba3
  clear hb xba0 xba1
  obtain ⟨xba0, xba1, _⟩ := cells2 Fba4.out
  go_wp2_with (first | (go_at_call 10; refine stopHere ?_))
  refine stopAt ?_
  refine (fixed_any w4).mono ?_
  rintro e w5 ⟨rfl, hb⟩
  have B5 := hid (B4.out.trans (hb.mono B4.out.size))
  have Fa5 := hid (Fa4.out.bel hb)
  have Fv5 := hid (Fv4.out.bel hb)
  have Fba5 := hid (bx_bel Fba4.out hb)
  clear B4 Fa4 Fv4 Fba4
  clear hb xba0 xba1
  go_wp2
  go_ret
  exact ⟨rfl, B5.out⟩
 obtain ⟨xba0, xba1, _⟩ := cells2 Fba3.out
 go_wp2_with (first | (go_at_call 9; refine stopHere ?_))
 refine stopAt ?_
 refine (small_any w3 _ sa Fa3.out).mono ?_
 rw [hs]
 rintro e w4 ⟨rfl, hb⟩
 have B4 := hid (B3.out.trans (hb.mono B3.out.size))
 have Fa4 := hid (Fa3.out.bel hb)
 have Fv4 := hid (Fv3.out.bel hb)
 have Fba4 := hid (bx_bel Fba3.out hb)
 clear B3 Fa3 Fv3 Fba3
 clear hb xba0 xba1
 have Ka := hid (M.sm_of hs)
 by_cases hl : l.length ≤ 60
 ·have h60 : ¬ ((60 : Int) < ((l.length : Nat) : Int)) := by omega
  have HL : Hid (l.length ≤ 60) := hl
  clear hl
  rcases (Bool.eq_false_or_eq_true (M.mayS sa)).symm with hma | hma
  ·obtain ⟨xba0, xba1, _⟩ := cells2 Fba4.out
   go_wp2_with (first | (go_at_call 13; refine stopHere ?_))
   refine stopAt ?_
   refine (omay_any w4 _ sa Fa4.out Ka.out).mono ?_
   rw [hma]
   rintro e w5 ⟨rfl, hb⟩
   have B5 := hid (B4.out.trans (hb.mono B4.out.size))
   have Fa5 := hid (Fa4.out.bel hb)
   have Fv5 := hid (Fv4.out.bel hb)
   have Fba5 := hid (bx_bel Fba4.out hb)
   clear B4 Fa4 Fv4 Fba4
   clear hb xba0 xba1
   obtain ⟨xba0, xba1, _⟩ := cells2 Fba5.out
   go_wp2_with (first | (go_at_call 10; refine stopHere ?_))
   refine stopAt ?_
   refine (fixed_any w5).mono ?_
   rintro e w6 ⟨rfl, hb⟩
   have B6 := hid (B5.out.trans (hb.mono B5.out.size))
   have Fa6 := hid (Fa5.out.bel hb)
   have Fv6 := hid (Fv5.out.bel hb)
   have Fba6 := hid (bx_bel Fba5.out hb)
   clear B5 Fa5 Fv5 Fba5
   clear hb xba0 xba1
   go_wp2
   go_ret
   exact ⟨rfl, B6.out⟩
  obtain ⟨xba0, xba1, _⟩ := cells2 Fba4.out
  go_wp2_with (first | (go_at_call 13; refine stopHere ?_))
  refine stopAt ?_
  refine (omay_any w4 _ sa Fa4.out Ka.out).mono ?_
  rw [hma]
  rintro e w5 ⟨rfl, hb⟩
  have B5 := hid (B4.out.trans (hb.mono B4.out.size))
  have Fa5 := hid (Fa4.out.bel hb)
  have Fv5 := hid (Fv4.out.bel hb)
  have Fba5 := hid (bx_bel Fba4.out hb)
  clear B4 Fa4 Fv4 Fba4
  clear hb xba0 xba1
  rcases (Bool.eq_false_or_eq_true (M.mayL l)).symm with hml | hml
  ·obtain ⟨xba0, xba1, _⟩ := cells2 Fba5.out
   go_wp2_with (first | (go_at_call 27; refine stopHere ?_))
   refine stopAt ?_
   refine (rmay_any w5 _ l Fv5.out (Nat.le_trans HL.out (by decide))).mono ?_
   rw [hml]
   rintro e w6 ⟨rfl, hb⟩
   have B6 := hid (B5.out.trans (hb.mono B5.out.size))
   have Fa6 := hid (Fa5.out.bel hb)
   have Fv6 := hid (Fv5.out.bel hb)
   have Fba6 := hid (bx_bel Fba5.out hb)
   clear B5 Fa5 Fv5 Fba5
   clear hb xba0 xba1
   obtain ⟨xba0, xba1, _⟩ := cells2 Fba6.out
   go_wp2_with (first | (go_at_call 10; refine stopHere ?_))
   refine stopAt ?_
   refine (fixed_any w6).mono ?_
   rintro e w7 ⟨rfl, hb⟩
   have B7 := hid (B6.out.trans (hb.mono B6.out.size))
   have Fa7 := hid (Fa6.out.bel hb)
   have Fv7 := hid (Fv6.out.bel hb)
   have Fba7 := hid (bx_bel Fba6.out hb)
   clear B6 Fa6 Fv6 Fba6
   clear hb xba0 xba1
   go_wp2
   go_ret
   exact ⟨rfl, B7.out⟩
  obtain ⟨xba0, xba1, _⟩ := cells2 Fba5.out
  go_wp2_with (first | (go_at_call 27; refine stopHere ?_))
  refine stopAt ?_
  refine (rmay_any w5 _ l Fv5.out (Nat.le_trans HL.out (by decide))).mono ?_
  rw [hml]
  rintro e w6 ⟨rfl, hb⟩
  have B6 := hid (B5.out.trans (hb.mono B5.out.size))
  have Fa6 := hid (Fa5.out.bel hb)
  have Fv6 := hid (Fv5.out.bel hb)
  have Fba6 := hid (bx_bel Fba5.out hb)
  clear B5 Fa5 Fv5 Fba5
  clear hb xba0 xba1
  obtain ⟨sW, hW⟩ : ∃ j, M.weakS sa n l = j := ⟨_, rfl⟩
  obtain ⟨sX, hX⟩ : ∃ j, M.strongS sa n l = j := ⟨_, rfl⟩
  obtain ⟨sN, hN⟩ : ∃ j, M.strongS sa n M.lnull = j := ⟨_, rfl⟩
  have Z : Hid (M.WkFacts sa sW sX sN n l) := by unfold Hid; rw [← hW, ← hX, ← hN]; exact M.wkFacts hs HL.out hma hml
  have HGW : Hid (∀ m, n ≠ m → M.getF sW.fs m = M.getF sa.fs m) := fun m hm => by rw [← hW, M.get_weak hma, if_neg hm]
  have HGX : Hid (∀ m, n ≠ m → M.getF sX.fs m = M.getF sa.fs m) := fun m hm => by rw [← hX, M.get_strong hma, if_neg hm]
  have HRIS : Hid (M.RisF (fldOf R)) := by unfold Hid; rw [← HFS.out]; exact M.ris_may hma
  have HL2 : Hid (l.length ≤ 100000) := Nat.le_trans HL.out (by decide)
  clear hW hX hN hs hma hml
  obtain ⟨xba0, xba1, _⟩ := cells2 Fba6.out
  go_wp2_with fail
  rename_i K3 hK3
  have HK3 := hid hK3
  clear hK3
  have KH : Hid (∀ W, Below w6.heap.size w6 W → (W.cell? ⟨w.heap.size, 0, none⟩ = some (.slice aa R.length ca) ∧ W.cell? ⟨w.heap.size, 1, none⟩ = some (.slice ba sa.pr.length da))) := fun W hb => by
   obtain ⟨yba0, yba1, _⟩ := cells2 (bx_bel Fba6.out hb)
   exact ⟨yba0, yba1⟩
  clear xba0 xba1
  have tail : Hid (∀ (W : World) (g7 g8 : Nat) (wa wb xa xb : Option Addr) (wc wd xc xd : Nat), (Below w.heap.size w W) → (ShAt W (.agg #[.slice aa R.length ca, .slice ba sa.pr.length da]) sa) → (AtAt W (.slice x l.length y) l) → (W.heap[w.heap.size]? = some (.cells #[.slice aa R.length ca, .slice ba sa.pr.length da] 25 (0, 0))) → (ShAt W (.agg #[.slice wa sW.fs.length wc, .slice wb sW.pr.length wd]) sW) → (ShAt W (.agg #[.slice xa sX.fs.length xc, .slice xb sX.pr.length xd]) sX) → (W.heap[g7]? = some (.cells #[.slice wa sW.fs.length wc, .slice wb sW.pr.length wd] 25 (0, 0))) → (W.heap[g8]? = some (.cells #[.slice xa sX.fs.length xc, .slice xb sX.pr.length xd] 25 (0, 0))) → K3 ({ tmps := List.toArray (Value.agg #[Value.slice aa R.length ca, Value.slice ba sa.pr.length da] :: Value.string n :: Value.slice x l.length y :: Value.pointer (some { block := w.heap.size, off := 0 }) :: undef :: undef :: Value.bool false :: Value.pointer (some ⟨g7, 0, none⟩) :: Value.pointer (some ⟨g8, 0, none⟩) :: undef :: undef :: undef :: undef :: undef :: undef :: undef :: undef :: Value.bool true :: Value.bool false :: Value.bool false :: Value.agg #[Value.slice aa R.length ca, Value.slice ba sa.pr.length da] :: Value.bool true :: Value.bool false :: Value.bool false :: Value.bool false :: Value.slice x l.length y :: Value.int IntKind.i64 ↑l.length :: Value.bool (decide ((60 : Int) < (↑l.length : Int))) :: Value.bool (decide ((60 : Int) < (↑l.length : Int))) :: Value.bool (decide ((60 : Int) < (↑l.length : Int))) :: Value.agg #[Value.slice aa R.length ca, Value.slice ba sa.pr.length da] :: Value.bool true :: Value.bool false :: Value.bool (decide ((60 : Int) < (↑l.length : Int))) :: Value.bool (decide ((60 : Int) < (↑l.length : Int))) :: Value.slice x l.length y :: Value.bool true :: Value.bool false :: Value.bool (decide ((60 : Int) < (↑l.length : Int))) :: undef :: Value.agg #[Value.slice aa R.length ca, Value.slice ba sa.pr.length da] :: Value.string n :: Value.slice x l.length y :: Value.agg #[Value.slice wa sW.fs.length wc, Value.slice wb sW.pr.length wd] :: Value.agg #[Value.slice aa R.length ca, Value.slice ba sa.pr.length da] :: Value.string n :: Value.slice x l.length y :: Value.agg #[Value.slice xa sX.fs.length xc, Value.slice xb sX.pr.length xd] :: undef :: undef :: undef :: undef :: undef :: undef :: undef :: undef :: undef :: undef :: undef :: undef :: undef :: undef :: undef :: undef :: undef :: undef :: undef :: undef :: undef :: undef :: undef :: undef :: undef :: undef :: undef :: undef :: undef :: undef :: undef :: undef :: undef :: undef :: undef :: undef :: undef :: undef :: undef :: undef :: undef :: undef :: undef :: undef :: undef :: undef :: undef :: undef :: undef :: undef :: undef :: undef :: undef :: undef :: undef :: undef :: undef :: undef :: undef :: undef :: undef :: undef :: undef :: undef :: undef :: undef :: undef :: undef :: undef :: undef :: undef :: undef :: undef :: undef :: undef :: undef :: undef :: undef :: undef :: undef :: undef :: undef :: undef :: undef :: undef :: undef :: undef :: undef :: undef :: undef :: undef :: undef :: undef :: undef :: undef :: undef :: undef :: undef :: undef :: undef :: undef :: undef :: undef :: undef :: undef :: undef :: undef :: undef :: undef :: undef :: undef :: undef :: undef :: undef :: undef :: undef :: undef :: undef :: undef :: undef :: undef :: undef :: undef :: undef :: undef :: undef :: undef :: undef :: undef :: undef :: undef :: undef :: undef :: undef :: undef :: undef :: undef :: []), defers := [] } : Act) W) := by
   as_aux_lemma =>
    intro W3 g7 g8 wa wb xa xb wc wd xc xd f0 f1 f2 f3 f4 f5 f6 f7
    clear KH
    clear Fa6 Fv6 Fba6 B6
    have E3x0 := hid f0
    clear f0
    have E3x1 := hid f1
    clear f1
    have E3x2 := hid f2
    clear f2
    have E3x3 := hid f3
    clear f3
    have E3x4 := hid f4
    clear f4
    have E3x5 := hid f5
    clear f5
    have E3x6 := hid f6
    clear f6
    have E3x7 := hid f7
    clear f7
    refine HK3.out _ _ ?_
    clear HK3
    obtain ⟨xba0, xba1, _⟩ := cells2 E3x3.out
    obtain ⟨xbw0, xbw1, _⟩ := cells2 E3x6.out
    obtain ⟨xbx0, xbx1, _⟩ := cells2 E3x7.out
    go_wp2_with (first | (go_at_call 11; refine stopHere ?_))
    refine stopAt ?_
    refine (oget_any W3 _ sa n E3x1.out Ka.out).mono ?_
    rintro e w107 ⟨y107, rfl, hyf, hoy, hb⟩
    have B107 := hid (E3x0.out.trans (hb.mono E3x0.out.size))
    have Fa107 := hid (E3x1.out.bel hb)
    have Fv107 := hid (E3x2.out.bel hb)
    have Fba107 := hid (bx_bel E3x3.out hb)
    have Fw107 := hid (E3x4.out.bel hb)
    have Fx107 := hid (E3x5.out.bel hb)
    have Fbw107 := hid (bx_bel E3x6.out hb)
    have Fbx107 := hid (bx_bel E3x7.out hb)
    clear E3x0 E3x1 E3x2 E3x3 E3x4 E3x5 E3x6 E3x7
    rw [HOK.out]
    have Ff107 := hid hoy
    have YF := hid hyf
    clear hoy hyf
    obtain ⟨⟨nmf, suf, vsf⟩, yaf, ycf⟩ := y107
    unfold fv
    clear hb xba0 xba1 xbw0 xbw1 xbx0 xbx1
    clear Ff107
    clear YF
    obtain ⟨V108, hV108⟩ : ∃ W, w107.alloc (.cells #[.string nmf, .bool suf, .slice yaf vsf.length ycf] 29) = W := ⟨_, rfl⟩
    have hbx : Below w107.heap.size w107 V108 := by rw [← hV108]; exact (gr_new _ _).below
    have Nbf : Hid (V108.heap[w107.heap.size]? = some (.cells #[.string nmf, .bool suf, .slice yaf vsf.length ycf] 29 (0, 0))) := by unfold Hid; rw [← hV108]; exact new_at _ _
    have B109 := hid (B107.out.trans (hbx.mono B107.out.size))
    have Fa109 := hid (Fa107.out.bel hbx)
    have Fv109 := hid (Fv107.out.bel hbx)
    have Fba109 := hid (bx_bel Fba107.out hbx)
    have Fw109 := hid (Fw107.out.bel hbx)
    have Fx109 := hid (Fx107.out.bel hbx)
    have Fbw109 := hid (bx_bel Fbw107.out hbx)
    have Fbx109 := hid (bx_bel Fbx107.out hbx)
    clear B107 Fa107 Fv107 Fba107 Fw107 Fx107 Fbw107 Fbx107
    clear hbx
    as_aux_lemma =>
     obtain ⟨xba0, xba1, _⟩ := cells2 Fba109.out
     obtain ⟨xbw0, xbw1, _⟩ := cells2 Fbw109.out
     obtain ⟨xbx0, xbx1, _⟩ := cells2 Fbx109.out
     obtain ⟨xbf0, xbf1, xbf2, _⟩ := cells3 Nbf.out
     go_wp2_with fail
     have KH : Hid (∀ W, Below V108.heap.size V108 W → (W.cell? ⟨w.heap.size, 0, none⟩ = some (.slice aa R.length ca) ∧ W.cell? ⟨w.heap.size, 1, none⟩ = some (.slice ba sa.pr.length da) ∧ W.cell? ⟨g7, 0, none⟩ = some (.slice wa sW.fs.length wc) ∧ W.cell? ⟨g7, 1, none⟩ = some (.slice wb sW.pr.length wd) ∧ W.cell? ⟨g8, 0, none⟩ = some (.slice xa sX.fs.length xc) ∧ W.cell? ⟨g8, 1, none⟩ = some (.slice xb sX.pr.length xd) ∧ W.cell? ⟨w107.heap.size, 0, none⟩ = some (.string nmf) ∧ W.cell? ⟨w107.heap.size, 1, none⟩ = some (.bool suf) ∧ W.cell? ⟨w107.heap.size, 2, none⟩ = some (.slice yaf vsf.length ycf))) := fun W hb => by
      obtain ⟨yba0, yba1, _⟩ := cells2 (bx_bel Fba109.out hb)
      obtain ⟨ybw0, ybw1, _⟩ := cells2 (bx_bel Fbw109.out hb)
      obtain ⟨ybx0, ybx1, _⟩ := cells2 (bx_bel Fbx109.out hb)
      obtain ⟨ybf0, ybf1, ybf2, _⟩ := cells3 (bx_bel Nbf.out hb)
      exact ⟨yba0, yba1, ybw0, ybw1, ybx0, ybx1, ybf0, ybf1, ybf2⟩
     clear xba0 xba1 xbw0 xbw1 xbx0 xbx1 xbf0 xbf1 xbf2
     clear hV108
     refine wp_region_held_drew (S := fun W => W.cell? ⟨w.heap.size, 0, none⟩ = some (.slice aa R.length ca) ∧ W.cell? ⟨w.heap.size, 1, none⟩ = some (.slice ba sa.pr.length da) ∧ W.cell? ⟨g7, 0, none⟩ = some (.slice wa sW.fs.length wc) ∧ W.cell? ⟨g7, 1, none⟩ = some (.slice wb sW.pr.length wd) ∧ W.cell? ⟨g8, 0, none⟩ = some (.slice xa sX.fs.length xc) ∧ W.cell? ⟨g8, 1, none⟩ = some (.slice xb sX.pr.length xd) ∧ W.cell? ⟨w107.heap.size, 0, none⟩ = some (.string nmf) ∧ W.cell? ⟨w107.heap.size, 1, none⟩ = some (.bool suf) ∧ W.cell? ⟨w107.heap.size, 2, none⟩ = some (.slice yaf vsf.length ycf)) (by kernel_rfl) (KH.out _ (Below.refl _ _).drew) (fun hHeld => ?_)
     have hbd : Below V108.heap.size V108 V108.drew := (Gr.refl _).drew.below
     have RB0 := hid hbd
     have B110 := hid (B109.out.trans (hbd.mono B109.out.size))
     have Fa110 := hid (Fa109.out.bel hbd)
     have Fv110 := hid (Fv109.out.bel hbd)
     have Fba110 := hid (bx_bel Fba109.out hbd)
     have Fw110 := hid (Fw109.out.bel hbd)
     have Fx110 := hid (Fx109.out.bel hbd)
     have Fbw110 := hid (bx_bel Fbw109.out hbd)
     have Fbx110 := hid (bx_bel Fbx109.out hbd)
     have Fbf110 := hid (bx_bel Nbf.out hbd)
     clear B109 Fa109 Fv109 Fba109 Fw109 Fx109 Fbw109 Fbx109 Nbf
     clear hbd
     refine wpAnyH_take (i := 0) (oi := { dst := some 54, op := Op.load 25 (Operand.tmp 7), type := 25, pos := "law.go:87", after := #[], guard := none }) (v := ?_) rfl (by kernel_rfl) (by kernel_rfl) (by kernel_rfl) (fun _ _ _ h => h) (Or.inl ⟨by rfl, ?_⟩) hHeld ?_
     rotate_left
     ·intro w hSw; (try dsimp only at hSw); go_simp; (try with_reducible rfl)
     simp only [Act.put, List.setIfInBounds_toArray, List.set_cons_zero, List.set_cons_succ]
     refine wpAnyH_ready (rs := [1]) (by kernel_rfl) (by simp) ?_
     refine AllReadyH.cons (o := { dst := some 55, op := Op.call { callee := Callee.value (Operand.func 13), args := #[Operand.tmp 54], argTypes := #[25] }, type := 4, pos := "law.go:87", after := #[{ on := 0, ground := Ground.data }], guard := none }) rfl (fun K hK => ?_) AllReadyH.nil
     go_simp
     refine (omay_any V108.drew _ sW Fw110.out Z.out.Kw).mono ?_
     rw [Z.out.mw]
     rintro e z111 ⟨rfl, hb⟩
     have B111 := hid (B110.out.trans (hb.mono B110.out.size))
     have Fa111 := hid (Fa110.out.bel hb)
     have Fv111 := hid (Fv110.out.bel hb)
     have Fba111 := hid (bx_bel Fba110.out hb)
     have Fw111 := hid (Fw110.out.bel hb)
     have Fx111 := hid (Fx110.out.bel hb)
     have Fbw111 := hid (bx_bel Fbw110.out hb)
     have Fbx111 := hid (bx_bel Fbx110.out hb)
     have Fbf111 := hid (bx_bel Fbf110.out hb)
     have RB111 := hid (RB0.out.trans (hb.mono RB0.out.size))
     clear B110 Fa110 Fv110 Fba110 Fw110 Fx110 Fbw110 Fbx110 Fbf110 RB0
     clear hb
     refine hK.out _ _ (KH.out _ RB111.out) (fun hHeld => ?_)
     refine wpAnyH_take (i := 2) (oi := { dst := some 56, op := Op.unOp UnOp.not 4 (Operand.tmp 55), type := 4, pos := "law.go:87", after := #[{ on := 1, ground := Ground.data }], guard := none }) (v := ?_) rfl (by kernel_rfl) (by kernel_rfl) (by kernel_rfl) (fun _ _ _ h => h) (Or.inl ⟨by rfl, ?_⟩) hHeld ?_
     rotate_left
     ·intro w hSw; (try dsimp only at hSw); go_simp; (try with_reducible rfl)
     simp only [Act.put, List.setIfInBounds_toArray, List.set_cons_zero, List.set_cons_succ]
     refine wpAnyH_take (i := 3) (oi := { dst := some 57, op := Op.move (Operand.tmp 56), type := 4, pos := "law.go:87", after := #[{ on := 2, ground := Ground.data }, { on := 1, ground := Ground.chain }], guard := none }) (v := ?_) rfl (by kernel_rfl) (by kernel_rfl) (by kernel_rfl) (fun _ _ _ h => h) (Or.inl ⟨by rfl, ?_⟩) hHeld ?_
     rotate_left
     ·intro w hSw; (try dsimp only at hSw); go_simp; (try with_reducible rfl)
     simp only [Act.put, List.setIfInBounds_toArray, List.set_cons_zero, List.set_cons_succ]
     refine wpAnyH_take (i := 4) (oi := { dst := some 58, op := Op.load 25 (Operand.tmp 8), type := 25, pos := "law.go:87", after := #[{ on := 3, ground := Ground.guard }], guard := some (3, false) }) (v := ?_) rfl (by kernel_rfl) (by kernel_rfl) (by kernel_rfl) (fun _ _ _ h => h) (Or.inl ⟨by rfl, ?_⟩) hHeld ?_
     rotate_left
     ·intro w hSw; (try dsimp only at hSw); go_simp; (try with_reducible rfl)
     simp only [Act.put, List.setIfInBounds_toArray, List.set_cons_zero, List.set_cons_succ]
     refine wpAnyH_ready (rs := [5]) (by kernel_rfl) (by simp) ?_
     refine AllReadyH.cons (o := { dst := some 59, op := Op.call { callee := Callee.value (Operand.func 13), args := #[Operand.tmp 58], argTypes := #[25] }, type := 4, pos := "law.go:87", after := #[{ on := 4, ground := Ground.data }, { on := 3, ground := Ground.chain }, { on := 3, ground := Ground.guard }], guard := some (3, false) }) rfl (fun K hK => ?_) AllReadyH.nil
     go_simp
     refine (omay_any z111 _ sX Fx111.out Z.out.Kx).mono ?_
     rw [Z.out.mx]
     rintro e z112 ⟨rfl, hb⟩
     have B112 := hid (B111.out.trans (hb.mono B111.out.size))
     have Fa112 := hid (Fa111.out.bel hb)
     have Fv112 := hid (Fv111.out.bel hb)
     have Fba112 := hid (bx_bel Fba111.out hb)
     have Fw112 := hid (Fw111.out.bel hb)
     have Fx112 := hid (Fx111.out.bel hb)
     have Fbw112 := hid (bx_bel Fbw111.out hb)
     have Fbx112 := hid (bx_bel Fbx111.out hb)
     have Fbf112 := hid (bx_bel Fbf111.out hb)
     have RB112 := hid (RB111.out.trans (hb.mono RB111.out.size))
     clear B111 Fa111 Fv111 Fba111 Fw111 Fx111 Fbw111 Fbx111 Fbf111 RB111
     clear hb
     refine hK.out _ _ (KH.out _ RB112.out) (fun hHeld => ?_)
     refine wpAnyH_take (i := 6) (oi := { dst := some 60, op := Op.unOp UnOp.not 4 (Operand.tmp 59), type := 4, pos := "law.go:87", after := #[{ on := 5, ground := Ground.data }, { on := 3, ground := Ground.guard }], guard := some (3, false) }) (v := ?_) rfl (by kernel_rfl) (by kernel_rfl) (by kernel_rfl) (fun _ _ _ h => h) (Or.inl ⟨by rfl, ?_⟩) hHeld ?_
     rotate_left
     ·intro w hSw; (try dsimp only at hSw); go_simp; (try with_reducible rfl)
     simp only [Act.put, List.setIfInBounds_toArray, List.set_cons_zero, List.set_cons_succ]
     refine wpAnyH_take (i := 7) (oi := { dst := some 61, op := Op.pick (Operand.tmp 57) (Operand.const (Value.bool true)) (Operand.tmp 60), type := 4, pos := "law.go:87", after := #[{ on := 3, ground := Ground.data }, { on := 6, ground := Ground.data }], guard := none }) (v := ?_) rfl (by kernel_rfl) (by kernel_rfl) (by kernel_rfl) (fun _ _ _ h => h) (Or.inl ⟨by rfl, ?_⟩) hHeld ?_
     rotate_left
     ·intro w hSw; (try dsimp only at hSw); go_simp; (try with_reducible rfl)
     simp only [Act.put, List.setIfInBounds_toArray, List.set_cons_zero, List.set_cons_succ]
     refine wpAnyH_take (i := 8) (oi := { dst := some 62, op := Op.move (Operand.tmp 61), type := 4, pos := "law.go:87", after := #[{ on := 7, ground := Ground.data }, { on := 5, ground := Ground.chain }], guard := none }) (v := ?_) rfl (by kernel_rfl) (by kernel_rfl) (by kernel_rfl) (fun _ _ _ h => h) (Or.inl ⟨by rfl, ?_⟩) hHeld ?_
     rotate_left
     ·intro w hSw; (try dsimp only at hSw); go_simp; (try with_reducible rfl)
     simp only [Act.put, List.setIfInBounds_toArray, List.set_cons_zero, List.set_cons_succ]
     refine wpAnyH_take (i := 9) (oi := { dst := some 63, op := Op.move (Operand.tmp 10), type := 4, pos := "law.go:87", after := #[{ on := 8, ground := Ground.guard }], guard := some (8, false) }) (v := ?_) rfl (by kernel_rfl) (by kernel_rfl) (by kernel_rfl) (fun _ _ _ h => h) (Or.inl ⟨by rfl, ?_⟩) hHeld ?_
     rotate_left
     ·intro w hSw; (try dsimp only at hSw); go_simp; (try with_reducible rfl)
     simp only [Act.put, List.setIfInBounds_toArray, List.set_cons_zero, List.set_cons_succ]
     refine wpAnyH_take (i := 10) (oi := { dst := some 64, op := Op.move (Operand.tmp 63), type := 4, pos := "law.go:87", after := #[{ on := 9, ground := Ground.data }, { on := 8, ground := Ground.chain }, { on := 8, ground := Ground.guard }], guard := some (8, false) }) (v := ?_) rfl (by kernel_rfl) (by kernel_rfl) (by kernel_rfl) (fun _ _ _ h => h) (Or.inl ⟨by rfl, ?_⟩) hHeld ?_
     rotate_left
     ·intro w hSw; (try dsimp only at hSw); go_simp; (try with_reducible rfl)
     simp only [Act.put, List.setIfInBounds_toArray, List.set_cons_zero, List.set_cons_succ]
     refine wpAnyH_take (i := 11) (oi := { dst := some 65, op := Op.load 25 (Operand.tmp 8), type := 25, pos := "law.go:87", after := #[{ on := 10, ground := Ground.guard }], guard := some (10, true) }) (v := undef) rfl (by kernel_rfl) (by kernel_rfl) (by kernel_rfl) (fun _ _ _ h => h) (Or.inr ⟨by rfl, rfl⟩) hHeld ?_
     simp only [Act.put, List.setIfInBounds_toArray, List.set_cons_zero, List.set_cons_succ]
     refine wpAnyH_take (i := 12) (oi := { dst := some 66, op := Op.load 25 (Operand.tmp 7), type := 25, pos := "law.go:87", after := #[{ on := 10, ground := Ground.guard }], guard := some (10, true) }) (v := undef) rfl (by kernel_rfl) (by kernel_rfl) (by kernel_rfl) (fun _ _ _ h => h) (Or.inr ⟨by rfl, rfl⟩) hHeld ?_
     simp only [Act.put, List.setIfInBounds_toArray, List.set_cons_zero, List.set_cons_succ]
     refine wpAnyH_take (i := 13) (oi := { dst := some 67, op := Op.call { callee := Callee.value (Operand.func 19), args := #[Operand.tmp 65, Operand.tmp 66], argTypes := #[25, 25] }, type := 4, pos := "law.go:87", after := #[{ on := 11, ground := Ground.data }, { on := 12, ground := Ground.data }, { on := 10, ground := Ground.chain }, { on := 10, ground := Ground.guard }], guard := some (10, true) }) (v := undef) rfl (by kernel_rfl) (by kernel_rfl) (by kernel_rfl) (fun _ _ _ h => h) (Or.inr ⟨by rfl, rfl⟩) hHeld ?_
     simp only [Act.put, List.setIfInBounds_toArray, List.set_cons_zero, List.set_cons_succ]
     refine wpAnyH_take (i := 14) (oi := { dst := some 68, op := Op.unOp UnOp.not 4 (Operand.tmp 67), type := 4, pos := "law.go:87", after := #[{ on := 13, ground := Ground.data }, { on := 10, ground := Ground.guard }], guard := some (10, true) }) (v := undef) rfl (by kernel_rfl) (by kernel_rfl) (by kernel_rfl) (fun _ _ _ h => h) (Or.inr ⟨by rfl, rfl⟩) hHeld ?_
     simp only [Act.put, List.setIfInBounds_toArray, List.set_cons_zero, List.set_cons_succ]
     refine wpAnyH_take (i := 15) (oi := { dst := some 69, op := Op.pick (Operand.tmp 64) (Operand.tmp 68) (Operand.const (Value.bool false)), type := 4, pos := "law.go:87", after := #[{ on := 10, ground := Ground.data }, { on := 14, ground := Ground.data }, { on := 8, ground := Ground.guard }], guard := some (8, false) }) (v := ?_) rfl (by kernel_rfl) (by kernel_rfl) (by kernel_rfl) (fun _ _ _ h => h) (Or.inl ⟨by rfl, ?_⟩) hHeld ?_
     rotate_left
     ·intro w hSw; (try dsimp only at hSw); go_simp; (try with_reducible rfl)
     simp only [Act.put, List.setIfInBounds_toArray, List.set_cons_zero, List.set_cons_succ]
     refine wpAnyH_take (i := 16) (oi := { dst := some 70, op := Op.pick (Operand.tmp 62) (Operand.const (Value.bool true)) (Operand.tmp 69), type := 4, pos := "law.go:87", after := #[{ on := 8, ground := Ground.data }, { on := 15, ground := Ground.data }], guard := none }) (v := ?_) rfl (by kernel_rfl) (by kernel_rfl) (by kernel_rfl) (fun _ _ _ h => h) (Or.inl ⟨by rfl, ?_⟩) hHeld ?_
     rotate_left
     ·intro w hSw; (try dsimp only at hSw); go_simp; (try with_reducible rfl)
     simp only [Act.put, List.setIfInBounds_toArray, List.set_cons_zero, List.set_cons_succ]
     refine wpAnyH_take (i := 17) (oi := { dst := some 71, op := Op.move (Operand.tmp 70), type := 4, pos := "law.go:87", after := #[{ on := 16, ground := Ground.data }, { on := 13, ground := Ground.chain }], guard := none }) (v := ?_) rfl (by kernel_rfl) (by kernel_rfl) (by kernel_rfl) (fun _ _ _ h => h) (Or.inl ⟨by rfl, ?_⟩) hHeld ?_
     rotate_left
     ·intro w hSw; (try dsimp only at hSw); go_simp; (try with_reducible rfl)
     simp only [Act.put, List.setIfInBounds_toArray, List.set_cons_zero, List.set_cons_succ]
     refine wpAnyH_take (i := 18) (oi := { dst := some 72, op := Op.load 25 (Operand.tmp 3), type := 25, pos := "law.go:87", after := #[{ on := 17, ground := Ground.guard }], guard := some (17, false) }) (v := ?_) rfl (by kernel_rfl) (by kernel_rfl) (by kernel_rfl) (fun _ _ _ h => h) (Or.inl ⟨by rfl, ?_⟩) hHeld ?_
     rotate_left
     ·intro w hSw; (try dsimp only at hSw); go_simp; (try with_reducible rfl)
     simp only [Act.put, List.setIfInBounds_toArray, List.set_cons_zero, List.set_cons_succ]
     refine wpAnyH_take (i := 19) (oi := { dst := some 73, op := Op.load 25 (Operand.tmp 7), type := 25, pos := "law.go:87", after := #[{ on := 17, ground := Ground.guard }], guard := some (17, false) }) (v := ?_) rfl (by kernel_rfl) (by kernel_rfl) (by kernel_rfl) (fun _ _ _ h => h) (Or.inl ⟨by rfl, ?_⟩) hHeld ?_
     rotate_left
     ·intro w hSw; (try dsimp only at hSw); go_simp; (try with_reducible rfl)
     simp only [Act.put, List.setIfInBounds_toArray, List.set_cons_zero, List.set_cons_succ]
     refine wpAnyH_ready (rs := [20]) (by kernel_rfl) (by simp) ?_
     refine AllReadyH.cons (o := { dst := some 74, op := Op.call { callee := Callee.value (Operand.func 19), args := #[Operand.tmp 72, Operand.tmp 73], argTypes := #[25, 25] }, type := 4, pos := "law.go:87", after := #[{ on := 18, ground := Ground.data }, { on := 19, ground := Ground.data }, { on := 17, ground := Ground.chain }, { on := 17, ground := Ground.guard }], guard := some (17, false) }) rfl (fun K hK => ?_) AllReadyH.nil
     go_simp
     refine (owithin_any z112 _ _ sa sW Fa112.out Fw112.out Ka.out Z.out.Kw).mono ?_
     rw [Z.out.aw]
     rintro e z113 ⟨rfl, hb⟩
     have B113 := hid (B112.out.trans (hb.mono B112.out.size))
     have Fa113 := hid (Fa112.out.bel hb)
     have Fv113 := hid (Fv112.out.bel hb)
     have Fba113 := hid (bx_bel Fba112.out hb)
     have Fw113 := hid (Fw112.out.bel hb)
     have Fx113 := hid (Fx112.out.bel hb)
     have Fbw113 := hid (bx_bel Fbw112.out hb)
     have Fbx113 := hid (bx_bel Fbx112.out hb)
     have Fbf113 := hid (bx_bel Fbf112.out hb)
     have RB113 := hid (RB112.out.trans (hb.mono RB112.out.size))
     clear B112 Fa112 Fv112 Fba112 Fw112 Fx112 Fbw112 Fbx112 Fbf112 RB112
     clear hb
     refine hK.out _ _ (KH.out _ RB113.out) (fun hHeld => ?_)
     refine wpAnyH_take (i := 21) (oi := { dst := some 75, op := Op.unOp UnOp.not 4 (Operand.tmp 74), type := 4, pos := "law.go:87", after := #[{ on := 20, ground := Ground.data }, { on := 17, ground := Ground.guard }], guard := some (17, false) }) (v := ?_) rfl (by kernel_rfl) (by kernel_rfl) (by kernel_rfl) (fun _ _ _ h => h) (Or.inl ⟨by rfl, ?_⟩) hHeld ?_
     rotate_left
     ·intro w hSw; (try dsimp only at hSw); go_simp; (try with_reducible rfl)
     simp only [Act.put, List.setIfInBounds_toArray, List.set_cons_zero, List.set_cons_succ]
     refine wpAnyH_take (i := 22) (oi := { dst := some 76, op := Op.pick (Operand.tmp 71) (Operand.const (Value.bool true)) (Operand.tmp 75), type := 4, pos := "law.go:87", after := #[{ on := 17, ground := Ground.data }, { on := 21, ground := Ground.data }], guard := none }) (v := ?_) rfl (by kernel_rfl) (by kernel_rfl) (by kernel_rfl) (fun _ _ _ h => h) (Or.inl ⟨by rfl, ?_⟩) hHeld ?_
     rotate_left
     ·intro w hSw; (try dsimp only at hSw); go_simp; (try with_reducible rfl)
     simp only [Act.put, List.setIfInBounds_toArray, List.set_cons_zero, List.set_cons_succ]
     refine wpAnyH_take (i := 23) (oi := { dst := some 77, op := Op.move (Operand.tmp 76), type := 4, pos := "law.go:87", after := #[{ on := 22, ground := Ground.data }, { on := 20, ground := Ground.chain }], guard := none }) (v := ?_) rfl (by kernel_rfl) (by kernel_rfl) (by kernel_rfl) (fun _ _ _ h => h) (Or.inl ⟨by rfl, ?_⟩) hHeld ?_
     rotate_left
     ·intro w hSw; (try dsimp only at hSw); go_simp; (try with_reducible rfl)
     simp only [Act.put, List.setIfInBounds_toArray, List.set_cons_zero, List.set_cons_succ]
     refine wpAnyH_take (i := 24) (oi := { dst := some 78, op := Op.move (Operand.tmp 10), type := 4, pos := "law.go:87", after := #[{ on := 23, ground := Ground.guard }], guard := some (23, false) }) (v := ?_) rfl (by kernel_rfl) (by kernel_rfl) (by kernel_rfl) (fun _ _ _ h => h) (Or.inl ⟨by rfl, ?_⟩) hHeld ?_
     rotate_left
     ·intro w hSw; (try dsimp only at hSw); go_simp; (try with_reducible rfl)
     simp only [Act.put, List.setIfInBounds_toArray, List.set_cons_zero, List.set_cons_succ]
     refine wpAnyH_take (i := 25) (oi := { dst := some 79, op := Op.move (Operand.tmp 78), type := 4, pos := "law.go:87", after := #[{ on := 24, ground := Ground.data }, { on := 23, ground := Ground.chain }, { on := 23, ground := Ground.guard }], guard := some (23, false) }) (v := ?_) rfl (by kernel_rfl) (by kernel_rfl) (by kernel_rfl) (fun _ _ _ h => h) (Or.inl ⟨by rfl, ?_⟩) hHeld ?_
     rotate_left
     ·intro w hSw; (try dsimp only at hSw); go_simp; (try with_reducible rfl)
     simp only [Act.put, List.setIfInBounds_toArray, List.set_cons_zero, List.set_cons_succ]
     refine wpAnyH_take (i := 26) (oi := { dst := some 80, op := Op.fieldAddr 29 (Operand.tmp 9) 1, type := 0, pos := "law.go:87", after := #[{ on := 25, ground := Ground.guard }], guard := some (25, true) }) (v := undef) rfl (by kernel_rfl) (by kernel_rfl) (by kernel_rfl) (fun _ _ _ h => h) (Or.inr ⟨by rfl, rfl⟩) hHeld ?_
     simp only [Act.put, List.setIfInBounds_toArray, List.set_cons_zero, List.set_cons_succ]
     refine wpAnyH_take (i := 27) (oi := { dst := some 81, op := Op.load 4 (Operand.tmp 80), type := 4, pos := "law.go:87", after := #[{ on := 26, ground := Ground.data }, { on := 25, ground := Ground.guard }], guard := some (25, true) }) (v := undef) rfl (by kernel_rfl) (by kernel_rfl) (by kernel_rfl) (fun _ _ _ h => h) (Or.inr ⟨by rfl, rfl⟩) hHeld ?_
     simp only [Act.put, List.setIfInBounds_toArray, List.set_cons_zero, List.set_cons_succ]
     refine wpAnyH_take (i := 28) (oi := { dst := some 82, op := Op.load 25 (Operand.tmp 7), type := 25, pos := "law.go:87", after := #[{ on := 25, ground := Ground.guard }], guard := some (25, true) }) (v := undef) rfl (by kernel_rfl) (by kernel_rfl) (by kernel_rfl) (fun _ _ _ h => h) (Or.inr ⟨by rfl, rfl⟩) hHeld ?_
     simp only [Act.put, List.setIfInBounds_toArray, List.set_cons_zero, List.set_cons_succ]
     refine wpAnyH_take (i := 29) (oi := { dst := some 83, op := Op.move (Operand.tmp 1), type := 9, pos := "law.go:87", after := #[{ on := 25, ground := Ground.guard }], guard := some (25, true) }) (v := undef) rfl (by kernel_rfl) (by kernel_rfl) (by kernel_rfl) (fun _ _ _ h => h) (Or.inr ⟨by rfl, rfl⟩) hHeld ?_
     simp only [Act.put, List.setIfInBounds_toArray, List.set_cons_zero, List.set_cons_succ]
     refine wpAnyH_take (i := 30) (oi := { dst := some 84, op := Op.call { callee := Callee.value (Operand.func 28), args := #[Operand.tmp 82, Operand.tmp 83], argTypes := #[25, 9] }, type := 4, pos := "law.go:87", after := #[{ on := 28, ground := Ground.data }, { on := 29, ground := Ground.data }, { on := 25, ground := Ground.chain }, { on := 25, ground := Ground.guard }], guard := some (25, true) }) (v := undef) rfl (by kernel_rfl) (by kernel_rfl) (by kernel_rfl) (fun _ _ _ h => h) (Or.inr ⟨by rfl, rfl⟩) hHeld ?_
     simp only [Act.put, List.setIfInBounds_toArray, List.set_cons_zero, List.set_cons_succ]
     refine wpAnyH_take (i := 31) (oi := { dst := some 85, op := Op.binOp BinOp.neq 4 (Operand.tmp 81) (Operand.tmp 84) 4, type := 4, pos := "law.go:87", after := #[{ on := 27, ground := Ground.data }, { on := 30, ground := Ground.data }, { on := 25, ground := Ground.guard }], guard := some (25, true) }) (v := undef) rfl (by kernel_rfl) (by kernel_rfl) (by kernel_rfl) (fun _ _ _ h => h) (Or.inr ⟨by rfl, rfl⟩) hHeld ?_
     simp only [Act.put, List.setIfInBounds_toArray, List.set_cons_zero, List.set_cons_succ]
     refine wpAnyH_take (i := 32) (oi := { dst := some 86, op := Op.pick (Operand.tmp 79) (Operand.tmp 85) (Operand.const (Value.bool false)), type := 4, pos := "law.go:87", after := #[{ on := 25, ground := Ground.data }, { on := 31, ground := Ground.data }, { on := 23, ground := Ground.guard }], guard := some (23, false) }) (v := ?_) rfl (by kernel_rfl) (by kernel_rfl) (by kernel_rfl) (fun _ _ _ h => h) (Or.inl ⟨by rfl, ?_⟩) hHeld ?_
     rotate_left
     ·intro w hSw; (try dsimp only at hSw); go_simp; (try with_reducible rfl)
     simp only [Act.put, List.setIfInBounds_toArray, List.set_cons_zero, List.set_cons_succ]
     refine wpAnyH_take (i := 33) (oi := { dst := some 87, op := Op.pick (Operand.tmp 77) (Operand.const (Value.bool true)) (Operand.tmp 86), type := 4, pos := "law.go:87", after := #[{ on := 23, ground := Ground.data }, { on := 32, ground := Ground.data }], guard := none }) (v := ?_) rfl (by kernel_rfl) (by kernel_rfl) (by kernel_rfl) (fun _ _ _ h => h) (Or.inl ⟨by rfl, ?_⟩) hHeld ?_
     rotate_left
     ·intro w hSw; (try dsimp only at hSw); go_simp; (try with_reducible rfl)
     simp only [Act.put, List.setIfInBounds_toArray, List.set_cons_zero, List.set_cons_succ]
     refine wpAnyH_done (by kernel_rfl) ?_ _
     clear hHeld KH
     clear RB113
     have hrl : R.length ≤ 100000 := by have := Ka.out.1; rw [HFS.out, fldOf_len] at this; exact this
     obtain ⟨xba0, xba1, _⟩ := cells2 Fba113.out
     obtain ⟨xbw0, xbw1, _⟩ := cells2 Fbw113.out
     obtain ⟨xbx0, xbx1, _⟩ := cells2 Fbx113.out
     go_wp2
     go_loopw [11] (fun i w' => ∃ j : Nat, j ≤ R.length ∧ i = .int .i64 j ∧ Hid (Below z113.heap.size z113 w')) (fun i _ => R.length - (intOf i).toNat)
     case atStart => exact ⟨0, Nat.zero_le _, rfl, Below.refl _ _⟩
     case round =>
      obtain ⟨j, hj, rfl, hbel⟩ := hrel
      clear xba0 xba1 xbw0 xbw1 xbx0 xbx1
      have Bq := hid (B113.out.trans (hbel.out.mono B113.out.size))
      have Qa := hid (Fa113.out.bel hbel.out)
      have Qv := hid (Fv113.out.bel hbel.out)
      have Qba := hid (bx_bel Fba113.out hbel.out)
      have Qw := hid (Fw113.out.bel hbel.out)
      have Qx := hid (Fx113.out.bel hbel.out)
      have Qbw := hid (bx_bel Fbw113.out hbel.out)
      have Qbx := hid (bx_bel Fbx113.out hbel.out)
      have Qlb : Hid (LowB z113 wr) := hbel.out
      clear hbel B113 Fa113 Fv113 Fba113 Fw113 Fx113 Fbw113 Fbx113
      by_cases hjl : j < R.length
      ·obtain ⟨bb, o, rfl, hlt, hc⟩ := Rs_some HR.out hjl
       have HT0 := hc j hjl
       have hxf : (fldOf R)[j]'(by rw [fldOf_len]; exact hjl) = R[j].f := fldOf_get R j hjl
       have hxo : OneAt w R[j] := HR.out.1 _ (List.getElem_mem hjl)
       have hxl : R[j].f.vs.length ≤ 100000 := (Ka.out.2.1 R[j].f (by rw [HFS.out, ← hxf]; exact List.getElem_mem _))
       have hxg : M.getF sa.fs R[j].f.nm = some R[j].f := by rw [HFS.out]; exact M.getF_of_mem HRIS.out (by rw [← hxf]; exact List.getElem_mem _)
       obtain ⟨⟨⟨xn, xs, xv⟩, xa0, xc0⟩, hx⟩ : ∃ x, R[j] = x := ⟨_, rfl⟩
       rw [hx] at HT0 hxo hxl hxg
       have FT : Hid (TriL wr bb (o + j * 3) ⟨⟨xn, xs, xv⟩, xa0, xc0⟩) := ⟨Nat.lt_of_lt_of_le hlt Bq.out.size, HT0.bel hlt Bq.out⟩
       have FXO : Hid (OneAt wr ⟨⟨xn, xs, xv⟩, xa0, xc0⟩) := AtAt.bel hxo Bq.out
       have HXL := hid hxl
       have HXG := hid hxg
       clear hx hxf hxo hxl hxg HT0 hc
       obtain ⟨tg, htg⟩ : ∃ t, (M.getF sW.fs xn).isSome = t := ⟨_, rfl⟩
       have HTg := hid htg
       clear htg
       obtain ⟨xba0, xba1, _⟩ := cells2 Qba.out
       obtain ⟨xbw0, xbw1, _⟩ := cells2 Qbw.out
       obtain ⟨xbx0, xbx1, _⟩ := cells2 Qbx.out
       obtain ⟨tt0, tt1, tt2⟩ := FT.out.2
       go_wp2_with fail
       rename_i K10 hK10
       have HK10 := hid hK10
       clear hK10
       have KH : Hid (∀ W, Below wr.heap.size wr W → (W.cell? ⟨w.heap.size, 0, none⟩ = some (.slice (some ⟨bb, o, none⟩) R.length ca) ∧ W.cell? ⟨w.heap.size, 1, none⟩ = some (.slice ba sa.pr.length da) ∧ W.cell? ⟨g7, 0, none⟩ = some (.slice wa sW.fs.length wc) ∧ W.cell? ⟨g7, 1, none⟩ = some (.slice wb sW.pr.length wd) ∧ W.cell? ⟨g8, 0, none⟩ = some (.slice xa sX.fs.length xc) ∧ W.cell? ⟨g8, 1, none⟩ = some (.slice xb sX.pr.length xd) ∧ W.cell? ⟨bb, o + j * 3, none⟩ = some (.string xn) ∧ W.cell? ⟨bb, o + j * 3 + 1, none⟩ = some (.bool xs) ∧ W.cell? ⟨bb, o + j * 3 + 2, none⟩ = some (.slice xa0 xv.length xc0))) := fun W hb => by
        obtain ⟨yba0, yba1, _⟩ := cells2 (bx_bel Qba.out hb)
        obtain ⟨ybw0, ybw1, _⟩ := cells2 (bx_bel Qbw.out hb)
        obtain ⟨ybx0, ybx1, _⟩ := cells2 (bx_bel Qbx.out hb)
        obtain ⟨rt0, rt1, rt2⟩ := (FT.out.bel hb).2
        exact ⟨yba0, yba1, ybw0, ybw1, ybx0, ybx1, rt0, rt1, rt2⟩
       clear xba0 xba1 xbw0 xbw1 xbx0 xbx1 tt0 tt1 tt2
       have tail : Hid (∀ (W : World) (g12 : Nat) (nmg : ByteArray) (sug : Bool) (vsg : List M.Atm) (yg : Option Addr) (cg : Nat) (HYg : Hid ((⟨nmg, sug, vsg⟩ : M.Fld) = (M.getF sW.fs xn).getD zeroF)), (Below w.heap.size w W) → (ShAt W (.agg #[.slice (some ⟨bb, o, none⟩) R.length ca, .slice ba sa.pr.length da]) sa) → (AtAt W (.slice x l.length y) l) → (W.heap[w.heap.size]? = some (.cells #[.slice (some ⟨bb, o, none⟩) R.length ca, .slice ba sa.pr.length da] 25 (0, 0))) → (ShAt W (.agg #[.slice wa sW.fs.length wc, .slice wb sW.pr.length wd]) sW) → (ShAt W (.agg #[.slice xa sX.fs.length xc, .slice xb sX.pr.length xd]) sX) → (W.heap[g7]? = some (.cells #[.slice wa sW.fs.length wc, .slice wb sW.pr.length wd] 25 (0, 0))) → (W.heap[g8]? = some (.cells #[.slice xa sX.fs.length xc, .slice xb sX.pr.length xd] 25 (0, 0))) → (LowB z113 W) → (TriL W bb (o + j * 3) ⟨⟨xn, xs, xv⟩, xa0, xc0⟩) → (OneAt W ⟨⟨xn, xs, xv⟩, xa0, xc0⟩) → (OneAt W ⟨⟨nmg, sug, vsg⟩, yg, cg⟩) → (W.heap[g12]? = some (.cells #[.string nmg, .bool sug, .slice yg vsg.length cg] 29 (0, 0))) → K10 ({ tmps := List.toArray (Value.agg #[Value.slice (some { block := bb, off := o }) R.length ca, Value.slice ba sa.pr.length da] :: Value.string n :: Value.slice x l.length y :: Value.pointer (some { block := w.heap.size, off := 0 }) :: undef :: undef :: u6 :: Value.pointer (some { block := g7, off := 0 }) :: Value.pointer (some { block := g8, off := 0 }) :: Value.pointer (some { block := w107.heap.size, off := 0 }) :: Value.bool false :: Value.int IntKind.i64 ↑j :: Value.pointer (some ⟨g12, 0, none⟩) :: Value.bool tg :: u14 :: u15 :: undef :: Value.bool true :: Value.bool false :: Value.bool false :: Value.agg #[Value.slice (some { block := bb, off := o }) R.length ca, Value.slice ba sa.pr.length da] :: Value.bool true :: Value.bool false :: Value.bool false :: Value.bool false :: Value.slice x l.length y :: Value.int IntKind.i64 ↑l.length :: Value.bool (decide ((60 : Int) < (↑l.length : Int))) :: Value.bool (decide ((60 : Int) < (↑l.length : Int))) :: Value.bool (decide ((60 : Int) < (↑l.length : Int))) :: Value.agg #[Value.slice (some { block := bb, off := o }) R.length ca, Value.slice ba sa.pr.length da] :: Value.bool true :: Value.bool false :: Value.bool (decide ((60 : Int) < (↑l.length : Int))) :: Value.bool (decide ((60 : Int) < (↑l.length : Int))) :: Value.slice x l.length y :: Value.bool true :: Value.bool false :: Value.bool (decide ((60 : Int) < (↑l.length : Int))) :: undef :: Value.agg #[Value.slice (some { block := bb, off := o }) R.length ca, Value.slice ba sa.pr.length da] :: Value.string n :: Value.slice x l.length y :: Value.agg #[Value.slice wa sW.fs.length wc, Value.slice wb sW.pr.length wd] :: Value.agg #[Value.slice (some { block := bb, off := o }) R.length ca, Value.slice ba sa.pr.length da] :: Value.string n :: Value.slice x l.length y :: Value.agg #[Value.slice xa sX.fs.length xc, Value.slice xb sX.pr.length xd] :: Value.tuple #[Value.agg #[Value.string nmf, Value.bool suf, Value.slice yaf vsf.length ycf], Value.bool false] :: Value.agg #[Value.slice (some { block := bb, off := o }) R.length ca, Value.slice ba sa.pr.length da] :: Value.string n :: Value.tuple #[Value.agg #[Value.string nmf, Value.bool suf, Value.slice yaf vsf.length ycf], Value.bool false] :: Value.agg #[Value.string nmf, Value.bool suf, Value.slice yaf vsf.length ycf] :: Value.bool false :: Value.agg #[Value.slice wa sW.fs.length wc, Value.slice wb sW.pr.length wd] :: Value.bool true :: Value.bool false :: Value.bool false :: Value.agg #[Value.slice xa sX.fs.length xc, Value.slice xb sX.pr.length xd] :: Value.bool true :: Value.bool false :: Value.bool false :: Value.bool false :: Value.bool false :: Value.bool false :: undef :: undef :: undef :: undef :: Value.bool false :: Value.bool false :: Value.bool false :: Value.agg #[Value.slice (some { block := bb, off := o }) R.length ca, Value.slice ba sa.pr.length da] :: Value.agg #[Value.slice wa sW.fs.length wc, Value.slice wb sW.pr.length wd] :: Value.bool true :: Value.bool false :: Value.bool false :: Value.bool false :: Value.bool false :: Value.bool false :: undef :: undef :: undef :: undef :: undef :: undef :: Value.bool false :: Value.bool false :: Value.int IntKind.i64 ↑j :: Value.pointer (some { block := w.heap.size, off := 0 }) :: Value.slice (some { block := bb, off := o }) R.length ca :: Value.int IntKind.i64 ↑R.length :: Value.bool true :: u93 :: u94 :: Value.tuple #[Value.agg #[Value.string nmg, Value.bool sug, Value.slice yg vsg.length cg], Value.bool tg] :: Value.agg #[Value.slice wa sW.fs.length wc, Value.slice wb sW.pr.length wd] :: Value.pointer (some { block := w.heap.size, off := 0 }) :: Value.slice (some { block := bb, off := o }) R.length ca :: Value.int IntKind.i64 ↑j :: Value.pointer (some { block := bb, off := o + j * 3 }) :: Value.pointer (some { block := bb, off := o + j * 3 }) :: Value.string xn :: Value.tuple #[Value.agg #[Value.string nmg, Value.bool sug, Value.slice yg vsg.length cg], Value.bool tg] :: Value.agg #[Value.string nmg, Value.bool sug, Value.slice yg vsg.length cg] :: Value.bool tg :: u106 :: u107 :: u108 :: u109 :: u110 :: u111 :: u112 :: u113 :: u114 :: u115 :: u116 :: u117 :: u118 :: u119 :: u120 :: u121 :: u122 :: u123 :: u124 :: u125 :: u126 :: u127 :: u128 :: u129 :: u130 :: u131 :: u132 :: u133 :: u134 :: u135 :: u136 :: u137 :: u138 :: u139 :: u140 :: u141 :: u142 :: u143 :: u144 :: u145 :: u146 :: u147 :: u148 :: u149 :: u150 :: u151 :: u152 :: u153 :: u154 :: u155 :: u156 :: u157 :: u158 :: u159 :: u160 :: u161 :: u162 :: u163 :: u164 :: u165 :: u166 :: u167 :: u168 :: u169 :: u170 :: u171 :: u172 :: u173 :: u174 :: undef :: undef :: undef :: undef :: undef :: undef :: undef :: undef :: undef :: undef :: []), defers := [] } : Act) W) := by
        as_aux_lemma =>
         intro W10 g12 nmg sug vsg yg cg HYg f0 f1 f2 f3 f4 f5 f6 f7 f8 f9 f10 f11 f12
         clear KH
         clear Qa Qv Qba Qw Qx Qbw Qbx Qlb FT FXO Bq
         have E10x0 := hid f0
         clear f0
         have E10x1 := hid f1
         clear f1
         have E10x2 := hid f2
         clear f2
         have E10x3 := hid f3
         clear f3
         have E10x4 := hid f4
         clear f4
         have E10x5 := hid f5
         clear f5
         have E10x6 := hid f6
         clear f6
         have E10x7 := hid f7
         clear f7
         have E10x8 := hid f8
         clear f8
         have E10x9 := hid f9
         clear f9
         have E10x10 := hid f10
         clear f10
         have E10x11 := hid f11
         clear f11
         have E10x12 := hid f12
         clear f12
         refine HK10.out _ _ ?_
         clear HK10
         obtain ⟨th, hth⟩ : ∃ t, (M.getF sX.fs xn).isSome = t := ⟨_, rfl⟩
         have HTh := hid hth
         clear hth
         obtain ⟨xba0, xba1, _⟩ := cells2 E10x3.out
         obtain ⟨xbw0, xbw1, _⟩ := cells2 E10x6.out
         obtain ⟨xbx0, xbx1, _⟩ := cells2 E10x7.out
         obtain ⟨tt0, tt1, tt2⟩ := E10x9.out.2
         obtain ⟨xbg0, xbg1, xbg2, _⟩ := cells3 E10x12.out
         go_wp2_with fail
         rename_i K11 hK11
         have HK11 := hid hK11
         clear hK11
         have KH : Hid (∀ W, Below W10.heap.size W10 W → (W.cell? ⟨w.heap.size, 0, none⟩ = some (.slice (some ⟨bb, o, none⟩) R.length ca) ∧ W.cell? ⟨w.heap.size, 1, none⟩ = some (.slice ba sa.pr.length da) ∧ W.cell? ⟨g7, 0, none⟩ = some (.slice wa sW.fs.length wc) ∧ W.cell? ⟨g7, 1, none⟩ = some (.slice wb sW.pr.length wd) ∧ W.cell? ⟨g8, 0, none⟩ = some (.slice xa sX.fs.length xc) ∧ W.cell? ⟨g8, 1, none⟩ = some (.slice xb sX.pr.length xd) ∧ W.cell? ⟨g12, 0, none⟩ = some (.string nmg) ∧ W.cell? ⟨g12, 1, none⟩ = some (.bool sug) ∧ W.cell? ⟨g12, 2, none⟩ = some (.slice yg vsg.length cg) ∧ W.cell? ⟨bb, o + j * 3, none⟩ = some (.string xn) ∧ W.cell? ⟨bb, o + j * 3 + 1, none⟩ = some (.bool xs) ∧ W.cell? ⟨bb, o + j * 3 + 2, none⟩ = some (.slice xa0 xv.length xc0))) := fun W hb => by
          obtain ⟨yba0, yba1, _⟩ := cells2 (bx_bel E10x3.out hb)
          obtain ⟨ybw0, ybw1, _⟩ := cells2 (bx_bel E10x6.out hb)
          obtain ⟨ybx0, ybx1, _⟩ := cells2 (bx_bel E10x7.out hb)
          obtain ⟨ybg0, ybg1, ybg2, _⟩ := cells3 (bx_bel E10x12.out hb)
          obtain ⟨rt0, rt1, rt2⟩ := (E10x9.out.bel hb).2
          exact ⟨yba0, yba1, ybw0, ybw1, ybx0, ybx1, ybg0, ybg1, ybg2, rt0, rt1, rt2⟩
         clear xba0 xba1 xbw0 xbw1 xbx0 xbx1 tt0 tt1 tt2 xbg0 xbg1 xbg2
         have tail : Hid (∀ (W : World) (g14 : Nat) (nmh : ByteArray) (suh : Bool) (vsh : List M.Atm) (yh : Option Addr) (ch : Nat) (HYh : Hid ((⟨nmh, suh, vsh⟩ : M.Fld) = (M.getF sX.fs xn).getD zeroF)), (Below w.heap.size w W) → (ShAt W (.agg #[.slice (some ⟨bb, o, none⟩) R.length ca, .slice ba sa.pr.length da]) sa) → (AtAt W (.slice x l.length y) l) → (W.heap[w.heap.size]? = some (.cells #[.slice (some ⟨bb, o, none⟩) R.length ca, .slice ba sa.pr.length da] 25 (0, 0))) → (ShAt W (.agg #[.slice wa sW.fs.length wc, .slice wb sW.pr.length wd]) sW) → (ShAt W (.agg #[.slice xa sX.fs.length xc, .slice xb sX.pr.length xd]) sX) → (W.heap[g7]? = some (.cells #[.slice wa sW.fs.length wc, .slice wb sW.pr.length wd] 25 (0, 0))) → (W.heap[g8]? = some (.cells #[.slice xa sX.fs.length xc, .slice xb sX.pr.length xd] 25 (0, 0))) → (LowB z113 W) → (TriL W bb (o + j * 3) ⟨⟨xn, xs, xv⟩, xa0, xc0⟩) → (OneAt W ⟨⟨xn, xs, xv⟩, xa0, xc0⟩) → (OneAt W ⟨⟨nmg, sug, vsg⟩, yg, cg⟩) → (W.heap[g12]? = some (.cells #[.string nmg, .bool sug, .slice yg vsg.length cg] 29 (0, 0))) → (OneAt W ⟨⟨nmh, suh, vsh⟩, yh, ch⟩) → (W.heap[g14]? = some (.cells #[.string nmh, .bool suh, .slice yh vsh.length ch] 29 (0, 0))) → K11 ({ tmps := List.toArray (Value.agg #[Value.slice (some { block := bb, off := o }) R.length ca, Value.slice ba sa.pr.length da] :: Value.string n :: Value.slice x l.length y :: Value.pointer (some { block := w.heap.size, off := 0 }) :: undef :: undef :: u6 :: Value.pointer (some { block := g7, off := 0 }) :: Value.pointer (some { block := g8, off := 0 }) :: Value.pointer (some { block := w107.heap.size, off := 0 }) :: Value.bool false :: Value.int IntKind.i64 ↑j :: Value.pointer (some { block := g12, off := 0 }) :: Value.bool tg :: Value.pointer (some ⟨g14, 0, none⟩) :: Value.bool th :: undef :: Value.bool true :: Value.bool false :: Value.bool false :: Value.agg #[Value.slice (some { block := bb, off := o }) R.length ca, Value.slice ba sa.pr.length da] :: Value.bool true :: Value.bool false :: Value.bool false :: Value.bool false :: Value.slice x l.length y :: Value.int IntKind.i64 ↑l.length :: Value.bool (decide ((60 : Int) < (↑l.length : Int))) :: Value.bool (decide ((60 : Int) < (↑l.length : Int))) :: Value.bool (decide ((60 : Int) < (↑l.length : Int))) :: Value.agg #[Value.slice (some { block := bb, off := o }) R.length ca, Value.slice ba sa.pr.length da] :: Value.bool true :: Value.bool false :: Value.bool (decide ((60 : Int) < (↑l.length : Int))) :: Value.bool (decide ((60 : Int) < (↑l.length : Int))) :: Value.slice x l.length y :: Value.bool true :: Value.bool false :: Value.bool (decide ((60 : Int) < (↑l.length : Int))) :: undef :: Value.agg #[Value.slice (some { block := bb, off := o }) R.length ca, Value.slice ba sa.pr.length da] :: Value.string n :: Value.slice x l.length y :: Value.agg #[Value.slice wa sW.fs.length wc, Value.slice wb sW.pr.length wd] :: Value.agg #[Value.slice (some { block := bb, off := o }) R.length ca, Value.slice ba sa.pr.length da] :: Value.string n :: Value.slice x l.length y :: Value.agg #[Value.slice xa sX.fs.length xc, Value.slice xb sX.pr.length xd] :: Value.tuple #[Value.agg #[Value.string nmf, Value.bool suf, Value.slice yaf vsf.length ycf], Value.bool false] :: Value.agg #[Value.slice (some { block := bb, off := o }) R.length ca, Value.slice ba sa.pr.length da] :: Value.string n :: Value.tuple #[Value.agg #[Value.string nmf, Value.bool suf, Value.slice yaf vsf.length ycf], Value.bool false] :: Value.agg #[Value.string nmf, Value.bool suf, Value.slice yaf vsf.length ycf] :: Value.bool false :: Value.agg #[Value.slice wa sW.fs.length wc, Value.slice wb sW.pr.length wd] :: Value.bool true :: Value.bool false :: Value.bool false :: Value.agg #[Value.slice xa sX.fs.length xc, Value.slice xb sX.pr.length xd] :: Value.bool true :: Value.bool false :: Value.bool false :: Value.bool false :: Value.bool false :: Value.bool false :: undef :: undef :: undef :: undef :: Value.bool false :: Value.bool false :: Value.bool false :: Value.agg #[Value.slice (some { block := bb, off := o }) R.length ca, Value.slice ba sa.pr.length da] :: Value.agg #[Value.slice wa sW.fs.length wc, Value.slice wb sW.pr.length wd] :: Value.bool true :: Value.bool false :: Value.bool false :: Value.bool false :: Value.bool false :: Value.bool false :: undef :: undef :: undef :: undef :: undef :: undef :: Value.bool false :: Value.bool false :: Value.int IntKind.i64 ↑j :: Value.pointer (some { block := w.heap.size, off := 0 }) :: Value.slice (some { block := bb, off := o }) R.length ca :: Value.int IntKind.i64 ↑R.length :: Value.bool true :: u93 :: u94 :: Value.tuple #[Value.agg #[Value.string nmg, Value.bool sug, Value.slice yg vsg.length cg], Value.bool tg] :: Value.agg #[Value.slice wa sW.fs.length wc, Value.slice wb sW.pr.length wd] :: Value.pointer (some { block := w.heap.size, off := 0 }) :: Value.slice (some { block := bb, off := o }) R.length ca :: Value.int IntKind.i64 ↑j :: Value.pointer (some { block := bb, off := o + j * 3 }) :: Value.pointer (some { block := bb, off := o + j * 3 }) :: Value.string xn :: Value.tuple #[Value.agg #[Value.string nmg, Value.bool sug, Value.slice yg vsg.length cg], Value.bool tg] :: Value.agg #[Value.string nmg, Value.bool sug, Value.slice yg vsg.length cg] :: Value.bool tg :: Value.tuple #[Value.agg #[Value.string nmh, Value.bool suh, Value.slice yh vsh.length ch], Value.bool th] :: Value.agg #[Value.slice xa sX.fs.length xc, Value.slice xb sX.pr.length xd] :: Value.pointer (some { block := w.heap.size, off := 0 }) :: Value.slice (some { block := bb, off := o }) R.length ca :: Value.int IntKind.i64 ↑j :: Value.pointer (some { block := bb, off := o + j * 3 }) :: Value.pointer (some { block := bb, off := o + j * 3 }) :: Value.string xn :: Value.tuple #[Value.agg #[Value.string nmh, Value.bool suh, Value.slice yh vsh.length ch], Value.bool th] :: Value.agg #[Value.string nmh, Value.bool suh, Value.slice yh vsh.length ch] :: Value.bool th :: u117 :: u118 :: u119 :: u120 :: u121 :: u122 :: u123 :: u124 :: u125 :: u126 :: u127 :: u128 :: u129 :: u130 :: u131 :: u132 :: u133 :: u134 :: u135 :: u136 :: u137 :: u138 :: u139 :: u140 :: u141 :: u142 :: u143 :: u144 :: u145 :: u146 :: u147 :: u148 :: u149 :: u150 :: u151 :: u152 :: u153 :: u154 :: u155 :: u156 :: u157 :: u158 :: u159 :: u160 :: u161 :: u162 :: u163 :: u164 :: u165 :: u166 :: u167 :: u168 :: u169 :: u170 :: u171 :: u172 :: u173 :: u174 :: undef :: undef :: undef :: undef :: undef :: undef :: undef :: undef :: undef :: undef :: []), defers := [] } : Act) W) := by
          as_aux_lemma =>
           intro W11 g14 nmh suh vsh yh ch HYh f0 f1 f2 f3 f4 f5 f6 f7 f8 f9 f10 f11 f12 f13 f14
           clear KH
           clear E10x1 E10x2 E10x3 E10x4 E10x5 E10x6 E10x7 E10x8 E10x9 E10x10 E10x11 E10x12 E10x0
           have E11x0 := hid f0
           clear f0
           have E11x1 := hid f1
           clear f1
           have E11x2 := hid f2
           clear f2
           have E11x3 := hid f3
           clear f3
           have E11x4 := hid f4
           clear f4
           have E11x5 := hid f5
           clear f5
           have E11x6 := hid f6
           clear f6
           have E11x7 := hid f7
           clear f7
           have E11x8 := hid f8
           clear f8
           have E11x9 := hid f9
           clear f9
           have E11x10 := hid f10
           clear f10
           have E11x11 := hid f11
           clear f11
           have E11x12 := hid f12
           clear f12
           have E11x13 := hid f13
           clear f13
           have E11x14 := hid f14
           clear f14
           refine HK11.out _ _ ?_
           clear HK11
           by_cases he : n = xn
           ·as_aux_lemma =>
             have hd : (xn.toList == n.toList) = true := by rw [same_name]; exact decide_eq_true he.symm
             clear he
             obtain ⟨xba0, xba1, _⟩ := cells2 E11x3.out
             obtain ⟨xbw0, xbw1, _⟩ := cells2 E11x6.out
             obtain ⟨xbx0, xbx1, _⟩ := cells2 E11x7.out
             obtain ⟨tt0, tt1, tt2⟩ := E11x9.out.2
             obtain ⟨xbg0, xbg1, xbg2, _⟩ := cells3 E11x12.out
             obtain ⟨xbh0, xbh1, xbh2, _⟩ := cells3 E11x14.out
             go_wp2_with fail
             have KH : Hid (∀ W, Below W11.heap.size W11 W → (W.cell? ⟨w.heap.size, 0, none⟩ = some (.slice (some ⟨bb, o, none⟩) R.length ca) ∧ W.cell? ⟨w.heap.size, 1, none⟩ = some (.slice ba sa.pr.length da) ∧ W.cell? ⟨g7, 0, none⟩ = some (.slice wa sW.fs.length wc) ∧ W.cell? ⟨g7, 1, none⟩ = some (.slice wb sW.pr.length wd) ∧ W.cell? ⟨g8, 0, none⟩ = some (.slice xa sX.fs.length xc) ∧ W.cell? ⟨g8, 1, none⟩ = some (.slice xb sX.pr.length xd) ∧ W.cell? ⟨g12, 0, none⟩ = some (.string nmg) ∧ W.cell? ⟨g12, 1, none⟩ = some (.bool sug) ∧ W.cell? ⟨g12, 2, none⟩ = some (.slice yg vsg.length cg) ∧ W.cell? ⟨g14, 0, none⟩ = some (.string nmh) ∧ W.cell? ⟨g14, 1, none⟩ = some (.bool suh) ∧ W.cell? ⟨g14, 2, none⟩ = some (.slice yh vsh.length ch) ∧ W.cell? ⟨bb, o + j * 3, none⟩ = some (.string xn) ∧ W.cell? ⟨bb, o + j * 3 + 1, none⟩ = some (.bool xs) ∧ W.cell? ⟨bb, o + j * 3 + 2, none⟩ = some (.slice xa0 xv.length xc0))) := fun W hb => by
              obtain ⟨yba0, yba1, _⟩ := cells2 (bx_bel E11x3.out hb)
              obtain ⟨ybw0, ybw1, _⟩ := cells2 (bx_bel E11x6.out hb)
              obtain ⟨ybx0, ybx1, _⟩ := cells2 (bx_bel E11x7.out hb)
              obtain ⟨ybg0, ybg1, ybg2, _⟩ := cells3 (bx_bel E11x12.out hb)
              obtain ⟨ybh0, ybh1, ybh2, _⟩ := cells3 (bx_bel E11x14.out hb)
              obtain ⟨rt0, rt1, rt2⟩ := (E11x9.out.bel hb).2
              exact ⟨yba0, yba1, ybw0, ybw1, ybx0, ybx1, ybg0, ybg1, ybg2, ybh0, ybh1, ybh2, rt0, rt1, rt2⟩
             clear xba0 xba1 xbw0 xbw1 xbx0 xbx1 tt0 tt1 tt2 xbg0 xbg1 xbg2 xbh0 xbh1 xbh2
             refine wp_region_held_drew (S := fun W => W.cell? ⟨w.heap.size, 0, none⟩ = some (.slice (some ⟨bb, o, none⟩) R.length ca) ∧ W.cell? ⟨w.heap.size, 1, none⟩ = some (.slice ba sa.pr.length da) ∧ W.cell? ⟨g7, 0, none⟩ = some (.slice wa sW.fs.length wc) ∧ W.cell? ⟨g7, 1, none⟩ = some (.slice wb sW.pr.length wd) ∧ W.cell? ⟨g8, 0, none⟩ = some (.slice xa sX.fs.length xc) ∧ W.cell? ⟨g8, 1, none⟩ = some (.slice xb sX.pr.length xd) ∧ W.cell? ⟨g12, 0, none⟩ = some (.string nmg) ∧ W.cell? ⟨g12, 1, none⟩ = some (.bool sug) ∧ W.cell? ⟨g12, 2, none⟩ = some (.slice yg vsg.length cg) ∧ W.cell? ⟨g14, 0, none⟩ = some (.string nmh) ∧ W.cell? ⟨g14, 1, none⟩ = some (.bool suh) ∧ W.cell? ⟨g14, 2, none⟩ = some (.slice yh vsh.length ch) ∧ W.cell? ⟨bb, o + j * 3, none⟩ = some (.string xn) ∧ W.cell? ⟨bb, o + j * 3 + 1, none⟩ = some (.bool xs) ∧ W.cell? ⟨bb, o + j * 3 + 2, none⟩ = some (.slice xa0 xv.length xc0)) (by kernel_rfl) (KH.out _ (Below.refl _ _).drew) (fun hHeld => ?_)
             have hbd : Below W11.heap.size W11 W11.drew := (Gr.refl _).drew.below
             have RB0 := hid hbd
             have B315 := hid (E11x0.out.trans (hbd.mono E11x0.out.size))
             have Fa315 := hid (E11x1.out.bel hbd)
             have Fv315 := hid (E11x2.out.bel hbd)
             have Fba315 := hid (bx_bel E11x3.out hbd)
             have Fw315 := hid (E11x4.out.bel hbd)
             have Fx315 := hid (E11x5.out.bel hbd)
             have Fbw315 := hid (bx_bel E11x6.out hbd)
             have Fbx315 := hid (bx_bel E11x7.out hbd)
             have Flb315 := hid (E11x8.out.bel hbd)
             have Ft315 := hid (E11x9.out.bel hbd)
             have Fxo315 := hid (E11x10.out.bel hbd)
             have Fg315 := hid (E11x11.out.bel hbd)
             have Fbg315 := hid (bx_bel E11x12.out hbd)
             have Fh315 := hid (E11x13.out.bel hbd)
             have Fbh315 := hid (bx_bel E11x14.out hbd)
             clear E11x0 E11x1 E11x2 E11x3 E11x4 E11x5 E11x6 E11x7 E11x8 E11x9 E11x10 E11x11 E11x12 E11x13 E11x14
             clear hbd
             refine wpAnyH_take (i := 0) (oi := { dst := some 117, op := Op.fieldAddr 25 (Operand.tmp 3) 0, type := 0, pos := "law.go:93", after := #[], guard := none }) (v := ?_) rfl (by kernel_rfl) (by kernel_rfl) (by kernel_rfl) (fun _ _ _ h => h) (Or.inl ⟨by rfl, ?_⟩) hHeld ?_
             rotate_left
             ·intro w hSw; (try dsimp only at hSw); go_simp; (try with_reducible rfl)
             simp only [Act.put, List.setIfInBounds_toArray, List.set_cons_zero, List.set_cons_succ]
             refine wpAnyH_take (i := 1) (oi := { dst := some 118, op := Op.load 22 (Operand.tmp 117), type := 22, pos := "law.go:93", after := #[{ on := 0, ground := Ground.data }], guard := none }) (v := ?_) rfl (by kernel_rfl) (by kernel_rfl) (by kernel_rfl) (fun _ _ _ h => h) (Or.inl ⟨by rfl, ?_⟩) hHeld ?_
             rotate_left
             ·intro w hSw; (try dsimp only at hSw); go_simp; (try with_reducible rfl)
             simp only [Act.put, List.setIfInBounds_toArray, List.set_cons_zero, List.set_cons_succ]
             refine wpAnyH_take (i := 2) (oi := { dst := some 119, op := Op.move (Operand.tmp 11), type := 3, pos := "law.go:93", after := #[], guard := none }) (v := ?_) rfl (by kernel_rfl) (by kernel_rfl) (by kernel_rfl) (fun _ _ _ h => h) (Or.inl ⟨by rfl, ?_⟩) hHeld ?_
             rotate_left
             ·intro w hSw; (try dsimp only at hSw); go_simp; (try with_reducible rfl)
             simp only [Act.put, List.setIfInBounds_toArray, List.set_cons_zero, List.set_cons_succ]
             refine wpAnyH_take (i := 3) (oi := { dst := some 120, op := Op.indexAddr 22 (Operand.tmp 118) (Operand.tmp 119), type := 0, pos := "law.go:93", after := #[{ on := 1, ground := Ground.data }, { on := 2, ground := Ground.data }], guard := none }) (v := ?_) rfl (by kernel_rfl) (by kernel_rfl) (by kernel_rfl) (fun _ _ _ h => h) (Or.inl ⟨by rfl, ?_⟩) hHeld ?_
             rotate_left
             ·intro w hSw; (try dsimp only at hSw); go_simp; (try with_reducible rfl)
             simp only [Act.put, List.setIfInBounds_toArray, List.set_cons_zero, List.set_cons_succ]
             refine wpAnyH_take (i := 4) (oi := { dst := some 121, op := Op.fieldAddr 29 (Operand.tmp 120) 0, type := 0, pos := "law.go:93", after := #[{ on := 3, ground := Ground.data }], guard := none }) (v := ?_) rfl (by kernel_rfl) (by kernel_rfl) (by kernel_rfl) (fun _ _ _ h => h) (Or.inl ⟨by rfl, ?_⟩) hHeld ?_
             rotate_left
             ·intro w hSw; (try dsimp only at hSw); go_simp; (try with_reducible rfl)
             simp only [Act.put, List.setIfInBounds_toArray, List.set_cons_zero, List.set_cons_succ]
             refine wpAnyH_take (i := 5) (oi := { dst := some 122, op := Op.load 9 (Operand.tmp 121), type := 9, pos := "law.go:93", after := #[{ on := 4, ground := Ground.data }], guard := none }) (v := ?_) rfl (by kernel_rfl) (by kernel_rfl) (by kernel_rfl) (fun _ _ _ h => h) (Or.inl ⟨by rfl, ?_⟩) hHeld ?_
             rotate_left
             ·intro w hSw; (try dsimp only at hSw); go_simp; (try with_reducible rfl)
             simp only [Act.put, List.setIfInBounds_toArray, List.set_cons_zero, List.set_cons_succ]
             refine wpAnyH_take (i := 6) (oi := { dst := some 123, op := Op.move (Operand.tmp 1), type := 9, pos := "law.go:93", after := #[], guard := none }) (v := ?_) rfl (by kernel_rfl) (by kernel_rfl) (by kernel_rfl) (fun _ _ _ h => h) (Or.inl ⟨by rfl, ?_⟩) hHeld ?_
             rotate_left
             ·intro w hSw; (try dsimp only at hSw); go_simp; (try with_reducible rfl)
             simp only [Act.put, List.setIfInBounds_toArray, List.set_cons_zero, List.set_cons_succ]
             refine wpAnyH_take (i := 7) (oi := { dst := some 124, op := Op.binOp BinOp.neq 9 (Operand.tmp 122) (Operand.tmp 123) 9, type := 4, pos := "law.go:93", after := #[{ on := 5, ground := Ground.data }, { on := 6, ground := Ground.data }], guard := none }) (v := ?_) rfl (by kernel_rfl) (by kernel_rfl) (by kernel_rfl) (fun _ _ _ h => h) (Or.inl ⟨by rfl, ?_⟩) hHeld ?_
             rotate_left
             ·intro w hSw; (try dsimp only at hSw); go_simp; (try with_reducible rfl)
             simp only [Act.put, List.setIfInBounds_toArray, List.set_cons_zero, List.set_cons_succ]
             refine wpAnyH_take (i := 8) (oi := { dst := some 125, op := Op.move (Operand.tmp 124), type := 4, pos := "law.go:93", after := #[{ on := 7, ground := Ground.data }], guard := none }) (v := ?_) rfl (by kernel_rfl) (by kernel_rfl) (by kernel_rfl) (fun _ _ _ h => h) (Or.inl ⟨by rfl, ?_⟩) hHeld ?_
             rotate_left
             ·intro w hSw; (try dsimp only at hSw); go_simp; (try with_reducible rfl)
             simp only [Act.put, List.setIfInBounds_toArray, List.set_cons_zero, List.set_cons_succ]
             refine wpAnyH_take (i := 9) (oi := { dst := some 126, op := Op.move (Operand.tmp 13), type := 4, pos := "law.go:93", after := #[{ on := 8, ground := Ground.guard }], guard := some (8, true) }) (v := undef) rfl (by kernel_rfl) (by kernel_rfl) (by kernel_rfl) (fun _ _ _ h => h) (Or.inr ⟨by rfl, rfl⟩) hHeld ?_
             simp only [Act.put, List.setIfInBounds_toArray, List.set_cons_zero, List.set_cons_succ]
             refine wpAnyH_take (i := 10) (oi := { dst := some 127, op := Op.unOp UnOp.not 4 (Operand.tmp 126), type := 4, pos := "law.go:93", after := #[{ on := 9, ground := Ground.data }, { on := 8, ground := Ground.guard }], guard := some (8, true) }) (v := undef) rfl (by kernel_rfl) (by kernel_rfl) (by kernel_rfl) (fun _ _ _ h => h) (Or.inr ⟨by rfl, rfl⟩) hHeld ?_
             simp only [Act.put, List.setIfInBounds_toArray, List.set_cons_zero, List.set_cons_succ]
             refine wpAnyH_take (i := 11) (oi := { dst := some 128, op := Op.move (Operand.tmp 127), type := 4, pos := "law.go:93", after := #[{ on := 10, ground := Ground.data }, { on := 8, ground := Ground.chain }, { on := 8, ground := Ground.guard }], guard := some (8, true) }) (v := undef) rfl (by kernel_rfl) (by kernel_rfl) (by kernel_rfl) (fun _ _ _ h => h) (Or.inr ⟨by rfl, rfl⟩) hHeld ?_
             simp only [Act.put, List.setIfInBounds_toArray, List.set_cons_zero, List.set_cons_succ]
             refine wpAnyH_take (i := 12) (oi := { dst := some 129, op := Op.move (Operand.tmp 15), type := 4, pos := "law.go:93", after := #[{ on := 11, ground := Ground.guard }], guard := some (11, false) }) (v := undef) rfl (by kernel_rfl) (by kernel_rfl) (by kernel_rfl) (fun _ _ _ h => h) (Or.inr ⟨by rfl, rfl⟩) hHeld ?_
             simp only [Act.put, List.setIfInBounds_toArray, List.set_cons_zero, List.set_cons_succ]
             refine wpAnyH_take (i := 13) (oi := { dst := some 130, op := Op.unOp UnOp.not 4 (Operand.tmp 129), type := 4, pos := "law.go:93", after := #[{ on := 12, ground := Ground.data }, { on := 11, ground := Ground.guard }], guard := some (11, false) }) (v := undef) rfl (by kernel_rfl) (by kernel_rfl) (by kernel_rfl) (fun _ _ _ h => h) (Or.inr ⟨by rfl, rfl⟩) hHeld ?_
             simp only [Act.put, List.setIfInBounds_toArray, List.set_cons_zero, List.set_cons_succ]
             refine wpAnyH_take (i := 14) (oi := { dst := some 131, op := Op.pick (Operand.tmp 128) (Operand.const (Value.bool true)) (Operand.tmp 130), type := 4, pos := "law.go:93", after := #[{ on := 11, ground := Ground.data }, { on := 13, ground := Ground.data }, { on := 8, ground := Ground.guard }], guard := some (8, true) }) (v := undef) rfl (by kernel_rfl) (by kernel_rfl) (by kernel_rfl) (fun _ _ _ h => h) (Or.inr ⟨by rfl, rfl⟩) hHeld ?_
             simp only [Act.put, List.setIfInBounds_toArray, List.set_cons_zero, List.set_cons_succ]
             refine wpAnyH_take (i := 15) (oi := { dst := some 132, op := Op.move (Operand.tmp 131), type := 4, pos := "law.go:93", after := #[{ on := 14, ground := Ground.data }, { on := 11, ground := Ground.chain }, { on := 8, ground := Ground.guard }], guard := some (8, true) }) (v := undef) rfl (by kernel_rfl) (by kernel_rfl) (by kernel_rfl) (fun _ _ _ h => h) (Or.inr ⟨by rfl, rfl⟩) hHeld ?_
             simp only [Act.put, List.setIfInBounds_toArray, List.set_cons_zero, List.set_cons_succ]
             refine wpAnyH_take (i := 16) (oi := { dst := some 133, op := Op.fieldAddr 29 (Operand.tmp 12) 2, type := 0, pos := "law.go:93", after := #[{ on := 15, ground := Ground.guard }], guard := some (15, false) }) (v := undef) rfl (by kernel_rfl) (by kernel_rfl) (by kernel_rfl) (fun _ _ _ h => h) (Or.inr ⟨by rfl, rfl⟩) hHeld ?_
             simp only [Act.put, List.setIfInBounds_toArray, List.set_cons_zero, List.set_cons_succ]
             refine wpAnyH_take (i := 17) (oi := { dst := some 134, op := Op.load 23 (Operand.tmp 133), type := 23, pos := "law.go:93", after := #[{ on := 16, ground := Ground.data }, { on := 15, ground := Ground.guard }], guard := some (15, false) }) (v := undef) rfl (by kernel_rfl) (by kernel_rfl) (by kernel_rfl) (fun _ _ _ h => h) (Or.inr ⟨by rfl, rfl⟩) hHeld ?_
             simp only [Act.put, List.setIfInBounds_toArray, List.set_cons_zero, List.set_cons_succ]
             refine wpAnyH_take (i := 18) (oi := { dst := some 135, op := Op.fieldAddr 25 (Operand.tmp 3) 0, type := 0, pos := "law.go:93", after := #[{ on := 15, ground := Ground.guard }], guard := some (15, false) }) (v := undef) rfl (by kernel_rfl) (by kernel_rfl) (by kernel_rfl) (fun _ _ _ h => h) (Or.inr ⟨by rfl, rfl⟩) hHeld ?_
             simp only [Act.put, List.setIfInBounds_toArray, List.set_cons_zero, List.set_cons_succ]
             refine wpAnyH_take (i := 19) (oi := { dst := some 136, op := Op.load 22 (Operand.tmp 135), type := 22, pos := "law.go:93", after := #[{ on := 18, ground := Ground.data }, { on := 15, ground := Ground.guard }], guard := some (15, false) }) (v := undef) rfl (by kernel_rfl) (by kernel_rfl) (by kernel_rfl) (fun _ _ _ h => h) (Or.inr ⟨by rfl, rfl⟩) hHeld ?_
             simp only [Act.put, List.setIfInBounds_toArray, List.set_cons_zero, List.set_cons_succ]
             refine wpAnyH_take (i := 20) (oi := { dst := some 137, op := Op.move (Operand.tmp 11), type := 3, pos := "law.go:93", after := #[{ on := 15, ground := Ground.guard }], guard := some (15, false) }) (v := undef) rfl (by kernel_rfl) (by kernel_rfl) (by kernel_rfl) (fun _ _ _ h => h) (Or.inr ⟨by rfl, rfl⟩) hHeld ?_
             simp only [Act.put, List.setIfInBounds_toArray, List.set_cons_zero, List.set_cons_succ]
             refine wpAnyH_take (i := 21) (oi := { dst := some 138, op := Op.indexAddr 22 (Operand.tmp 136) (Operand.tmp 137), type := 0, pos := "law.go:93", after := #[{ on := 19, ground := Ground.data }, { on := 20, ground := Ground.data }, { on := 15, ground := Ground.guard }], guard := some (15, false) }) (v := undef) rfl (by kernel_rfl) (by kernel_rfl) (by kernel_rfl) (fun _ _ _ h => h) (Or.inr ⟨by rfl, rfl⟩) hHeld ?_
             simp only [Act.put, List.setIfInBounds_toArray, List.set_cons_zero, List.set_cons_succ]
             refine wpAnyH_take (i := 22) (oi := { dst := some 139, op := Op.fieldAddr 29 (Operand.tmp 138) 2, type := 0, pos := "law.go:93", after := #[{ on := 21, ground := Ground.data }, { on := 15, ground := Ground.guard }], guard := some (15, false) }) (v := undef) rfl (by kernel_rfl) (by kernel_rfl) (by kernel_rfl) (fun _ _ _ h => h) (Or.inr ⟨by rfl, rfl⟩) hHeld ?_
             simp only [Act.put, List.setIfInBounds_toArray, List.set_cons_zero, List.set_cons_succ]
             refine wpAnyH_take (i := 23) (oi := { dst := some 140, op := Op.load 23 (Operand.tmp 139), type := 23, pos := "law.go:93", after := #[{ on := 22, ground := Ground.data }, { on := 15, ground := Ground.guard }], guard := some (15, false) }) (v := undef) rfl (by kernel_rfl) (by kernel_rfl) (by kernel_rfl) (fun _ _ _ h => h) (Or.inr ⟨by rfl, rfl⟩) hHeld ?_
             simp only [Act.put, List.setIfInBounds_toArray, List.set_cons_zero, List.set_cons_succ]
             refine wpAnyH_take (i := 24) (oi := { dst := some 141, op := Op.call { callee := Callee.value (Operand.func 15), args := #[Operand.tmp 134, Operand.tmp 140], argTypes := #[23, 23] }, type := 4, pos := "law.go:93", after := #[{ on := 17, ground := Ground.data }, { on := 23, ground := Ground.data }, { on := 15, ground := Ground.chain }, { on := 15, ground := Ground.guard }], guard := some (15, false) }) (v := undef) rfl (by kernel_rfl) (by kernel_rfl) (by kernel_rfl) (fun _ _ _ h => h) (Or.inr ⟨by rfl, rfl⟩) hHeld ?_
             simp only [Act.put, List.setIfInBounds_toArray, List.set_cons_zero, List.set_cons_succ]
             refine wpAnyH_take (i := 25) (oi := { dst := some 142, op := Op.unOp UnOp.not 4 (Operand.tmp 141), type := 4, pos := "law.go:93", after := #[{ on := 24, ground := Ground.data }, { on := 15, ground := Ground.guard }], guard := some (15, false) }) (v := undef) rfl (by kernel_rfl) (by kernel_rfl) (by kernel_rfl) (fun _ _ _ h => h) (Or.inr ⟨by rfl, rfl⟩) hHeld ?_
             simp only [Act.put, List.setIfInBounds_toArray, List.set_cons_zero, List.set_cons_succ]
             refine wpAnyH_take (i := 26) (oi := { dst := some 143, op := Op.pick (Operand.tmp 132) (Operand.const (Value.bool true)) (Operand.tmp 142), type := 4, pos := "law.go:93", after := #[{ on := 15, ground := Ground.data }, { on := 25, ground := Ground.data }, { on := 8, ground := Ground.guard }], guard := some (8, true) }) (v := undef) rfl (by kernel_rfl) (by kernel_rfl) (by kernel_rfl) (fun _ _ _ h => h) (Or.inr ⟨by rfl, rfl⟩) hHeld ?_
             simp only [Act.put, List.setIfInBounds_toArray, List.set_cons_zero, List.set_cons_succ]
             refine wpAnyH_take (i := 27) (oi := { dst := some 144, op := Op.move (Operand.tmp 143), type := 4, pos := "law.go:93", after := #[{ on := 26, ground := Ground.data }, { on := 24, ground := Ground.chain }, { on := 8, ground := Ground.guard }], guard := some (8, true) }) (v := undef) rfl (by kernel_rfl) (by kernel_rfl) (by kernel_rfl) (fun _ _ _ h => h) (Or.inr ⟨by rfl, rfl⟩) hHeld ?_
             simp only [Act.put, List.setIfInBounds_toArray, List.set_cons_zero, List.set_cons_succ]
             refine wpAnyH_take (i := 28) (oi := { dst := some 145, op := Op.fieldAddr 29 (Operand.tmp 14) 2, type := 0, pos := "law.go:93", after := #[{ on := 27, ground := Ground.guard }], guard := some (27, false) }) (v := undef) rfl (by kernel_rfl) (by kernel_rfl) (by kernel_rfl) (fun _ _ _ h => h) (Or.inr ⟨by rfl, rfl⟩) hHeld ?_
             simp only [Act.put, List.setIfInBounds_toArray, List.set_cons_zero, List.set_cons_succ]
             refine wpAnyH_take (i := 29) (oi := { dst := some 146, op := Op.load 23 (Operand.tmp 145), type := 23, pos := "law.go:93", after := #[{ on := 28, ground := Ground.data }, { on := 27, ground := Ground.guard }], guard := some (27, false) }) (v := undef) rfl (by kernel_rfl) (by kernel_rfl) (by kernel_rfl) (fun _ _ _ h => h) (Or.inr ⟨by rfl, rfl⟩) hHeld ?_
             simp only [Act.put, List.setIfInBounds_toArray, List.set_cons_zero, List.set_cons_succ]
             refine wpAnyH_take (i := 30) (oi := { dst := some 147, op := Op.fieldAddr 25 (Operand.tmp 3) 0, type := 0, pos := "law.go:93", after := #[{ on := 27, ground := Ground.guard }], guard := some (27, false) }) (v := undef) rfl (by kernel_rfl) (by kernel_rfl) (by kernel_rfl) (fun _ _ _ h => h) (Or.inr ⟨by rfl, rfl⟩) hHeld ?_
             simp only [Act.put, List.setIfInBounds_toArray, List.set_cons_zero, List.set_cons_succ]
             refine wpAnyH_take (i := 31) (oi := { dst := some 148, op := Op.load 22 (Operand.tmp 147), type := 22, pos := "law.go:93", after := #[{ on := 30, ground := Ground.data }, { on := 27, ground := Ground.guard }], guard := some (27, false) }) (v := undef) rfl (by kernel_rfl) (by kernel_rfl) (by kernel_rfl) (fun _ _ _ h => h) (Or.inr ⟨by rfl, rfl⟩) hHeld ?_
             simp only [Act.put, List.setIfInBounds_toArray, List.set_cons_zero, List.set_cons_succ]
             refine wpAnyH_take (i := 32) (oi := { dst := some 149, op := Op.move (Operand.tmp 11), type := 3, pos := "law.go:93", after := #[{ on := 27, ground := Ground.guard }], guard := some (27, false) }) (v := undef) rfl (by kernel_rfl) (by kernel_rfl) (by kernel_rfl) (fun _ _ _ h => h) (Or.inr ⟨by rfl, rfl⟩) hHeld ?_
             simp only [Act.put, List.setIfInBounds_toArray, List.set_cons_zero, List.set_cons_succ]
             refine wpAnyH_take (i := 33) (oi := { dst := some 150, op := Op.indexAddr 22 (Operand.tmp 148) (Operand.tmp 149), type := 0, pos := "law.go:93", after := #[{ on := 31, ground := Ground.data }, { on := 32, ground := Ground.data }, { on := 27, ground := Ground.guard }], guard := some (27, false) }) (v := undef) rfl (by kernel_rfl) (by kernel_rfl) (by kernel_rfl) (fun _ _ _ h => h) (Or.inr ⟨by rfl, rfl⟩) hHeld ?_
             simp only [Act.put, List.setIfInBounds_toArray, List.set_cons_zero, List.set_cons_succ]
             refine wpAnyH_take (i := 34) (oi := { dst := some 151, op := Op.fieldAddr 29 (Operand.tmp 150) 2, type := 0, pos := "law.go:93", after := #[{ on := 33, ground := Ground.data }, { on := 27, ground := Ground.guard }], guard := some (27, false) }) (v := undef) rfl (by kernel_rfl) (by kernel_rfl) (by kernel_rfl) (fun _ _ _ h => h) (Or.inr ⟨by rfl, rfl⟩) hHeld ?_
             simp only [Act.put, List.setIfInBounds_toArray, List.set_cons_zero, List.set_cons_succ]
             refine wpAnyH_take (i := 35) (oi := { dst := some 152, op := Op.load 23 (Operand.tmp 151), type := 23, pos := "law.go:93", after := #[{ on := 34, ground := Ground.data }, { on := 27, ground := Ground.guard }], guard := some (27, false) }) (v := undef) rfl (by kernel_rfl) (by kernel_rfl) (by kernel_rfl) (fun _ _ _ h => h) (Or.inr ⟨by rfl, rfl⟩) hHeld ?_
             simp only [Act.put, List.setIfInBounds_toArray, List.set_cons_zero, List.set_cons_succ]
             refine wpAnyH_take (i := 36) (oi := { dst := some 153, op := Op.call { callee := Callee.value (Operand.func 15), args := #[Operand.tmp 146, Operand.tmp 152], argTypes := #[23, 23] }, type := 4, pos := "law.go:93", after := #[{ on := 29, ground := Ground.data }, { on := 35, ground := Ground.data }, { on := 27, ground := Ground.chain }, { on := 27, ground := Ground.guard }], guard := some (27, false) }) (v := undef) rfl (by kernel_rfl) (by kernel_rfl) (by kernel_rfl) (fun _ _ _ h => h) (Or.inr ⟨by rfl, rfl⟩) hHeld ?_
             simp only [Act.put, List.setIfInBounds_toArray, List.set_cons_zero, List.set_cons_succ]
             refine wpAnyH_take (i := 37) (oi := { dst := some 154, op := Op.unOp UnOp.not 4 (Operand.tmp 153), type := 4, pos := "law.go:93", after := #[{ on := 36, ground := Ground.data }, { on := 27, ground := Ground.guard }], guard := some (27, false) }) (v := undef) rfl (by kernel_rfl) (by kernel_rfl) (by kernel_rfl) (fun _ _ _ h => h) (Or.inr ⟨by rfl, rfl⟩) hHeld ?_
             simp only [Act.put, List.setIfInBounds_toArray, List.set_cons_zero, List.set_cons_succ]
             refine wpAnyH_take (i := 38) (oi := { dst := some 155, op := Op.pick (Operand.tmp 144) (Operand.const (Value.bool true)) (Operand.tmp 154), type := 4, pos := "law.go:93", after := #[{ on := 27, ground := Ground.data }, { on := 37, ground := Ground.data }, { on := 8, ground := Ground.guard }], guard := some (8, true) }) (v := undef) rfl (by kernel_rfl) (by kernel_rfl) (by kernel_rfl) (fun _ _ _ h => h) (Or.inr ⟨by rfl, rfl⟩) hHeld ?_
             simp only [Act.put, List.setIfInBounds_toArray, List.set_cons_zero, List.set_cons_succ]
             refine wpAnyH_take (i := 39) (oi := { dst := some 156, op := Op.move (Operand.tmp 155), type := 4, pos := "law.go:93", after := #[{ on := 38, ground := Ground.data }, { on := 36, ground := Ground.chain }, { on := 8, ground := Ground.guard }], guard := some (8, true) }) (v := undef) rfl (by kernel_rfl) (by kernel_rfl) (by kernel_rfl) (fun _ _ _ h => h) (Or.inr ⟨by rfl, rfl⟩) hHeld ?_
             simp only [Act.put, List.setIfInBounds_toArray, List.set_cons_zero, List.set_cons_succ]
             refine wpAnyH_take (i := 40) (oi := { dst := some 157, op := Op.fieldAddr 29 (Operand.tmp 12) 1, type := 0, pos := "law.go:93", after := #[{ on := 39, ground := Ground.guard }], guard := some (39, false) }) (v := undef) rfl (by kernel_rfl) (by kernel_rfl) (by kernel_rfl) (fun _ _ _ h => h) (Or.inr ⟨by rfl, rfl⟩) hHeld ?_
             simp only [Act.put, List.setIfInBounds_toArray, List.set_cons_zero, List.set_cons_succ]
             refine wpAnyH_take (i := 41) (oi := { dst := some 158, op := Op.load 4 (Operand.tmp 157), type := 4, pos := "law.go:93", after := #[{ on := 40, ground := Ground.data }, { on := 39, ground := Ground.guard }], guard := some (39, false) }) (v := undef) rfl (by kernel_rfl) (by kernel_rfl) (by kernel_rfl) (fun _ _ _ h => h) (Or.inr ⟨by rfl, rfl⟩) hHeld ?_
             simp only [Act.put, List.setIfInBounds_toArray, List.set_cons_zero, List.set_cons_succ]
             refine wpAnyH_take (i := 42) (oi := { dst := some 159, op := Op.fieldAddr 25 (Operand.tmp 3) 0, type := 0, pos := "law.go:93", after := #[{ on := 39, ground := Ground.guard }], guard := some (39, false) }) (v := undef) rfl (by kernel_rfl) (by kernel_rfl) (by kernel_rfl) (fun _ _ _ h => h) (Or.inr ⟨by rfl, rfl⟩) hHeld ?_
             simp only [Act.put, List.setIfInBounds_toArray, List.set_cons_zero, List.set_cons_succ]
             refine wpAnyH_take (i := 43) (oi := { dst := some 160, op := Op.load 22 (Operand.tmp 159), type := 22, pos := "law.go:93", after := #[{ on := 42, ground := Ground.data }, { on := 39, ground := Ground.guard }], guard := some (39, false) }) (v := undef) rfl (by kernel_rfl) (by kernel_rfl) (by kernel_rfl) (fun _ _ _ h => h) (Or.inr ⟨by rfl, rfl⟩) hHeld ?_
             simp only [Act.put, List.setIfInBounds_toArray, List.set_cons_zero, List.set_cons_succ]
             refine wpAnyH_take (i := 44) (oi := { dst := some 161, op := Op.move (Operand.tmp 11), type := 3, pos := "law.go:93", after := #[{ on := 39, ground := Ground.guard }], guard := some (39, false) }) (v := undef) rfl (by kernel_rfl) (by kernel_rfl) (by kernel_rfl) (fun _ _ _ h => h) (Or.inr ⟨by rfl, rfl⟩) hHeld ?_
             simp only [Act.put, List.setIfInBounds_toArray, List.set_cons_zero, List.set_cons_succ]
             refine wpAnyH_take (i := 45) (oi := { dst := some 162, op := Op.indexAddr 22 (Operand.tmp 160) (Operand.tmp 161), type := 0, pos := "law.go:93", after := #[{ on := 43, ground := Ground.data }, { on := 44, ground := Ground.data }, { on := 39, ground := Ground.guard }], guard := some (39, false) }) (v := undef) rfl (by kernel_rfl) (by kernel_rfl) (by kernel_rfl) (fun _ _ _ h => h) (Or.inr ⟨by rfl, rfl⟩) hHeld ?_
             simp only [Act.put, List.setIfInBounds_toArray, List.set_cons_zero, List.set_cons_succ]
             refine wpAnyH_take (i := 46) (oi := { dst := some 163, op := Op.fieldAddr 29 (Operand.tmp 162) 1, type := 0, pos := "law.go:93", after := #[{ on := 45, ground := Ground.data }, { on := 39, ground := Ground.guard }], guard := some (39, false) }) (v := undef) rfl (by kernel_rfl) (by kernel_rfl) (by kernel_rfl) (fun _ _ _ h => h) (Or.inr ⟨by rfl, rfl⟩) hHeld ?_
             simp only [Act.put, List.setIfInBounds_toArray, List.set_cons_zero, List.set_cons_succ]
             refine wpAnyH_take (i := 47) (oi := { dst := some 164, op := Op.load 4 (Operand.tmp 163), type := 4, pos := "law.go:93", after := #[{ on := 46, ground := Ground.data }, { on := 39, ground := Ground.guard }], guard := some (39, false) }) (v := undef) rfl (by kernel_rfl) (by kernel_rfl) (by kernel_rfl) (fun _ _ _ h => h) (Or.inr ⟨by rfl, rfl⟩) hHeld ?_
             simp only [Act.put, List.setIfInBounds_toArray, List.set_cons_zero, List.set_cons_succ]
             refine wpAnyH_take (i := 48) (oi := { dst := some 165, op := Op.binOp BinOp.neq 4 (Operand.tmp 158) (Operand.tmp 164) 4, type := 4, pos := "law.go:93", after := #[{ on := 41, ground := Ground.data }, { on := 47, ground := Ground.data }, { on := 39, ground := Ground.guard }], guard := some (39, false) }) (v := undef) rfl (by kernel_rfl) (by kernel_rfl) (by kernel_rfl) (fun _ _ _ h => h) (Or.inr ⟨by rfl, rfl⟩) hHeld ?_
             simp only [Act.put, List.setIfInBounds_toArray, List.set_cons_zero, List.set_cons_succ]
             refine wpAnyH_take (i := 49) (oi := { dst := some 166, op := Op.pick (Operand.tmp 156) (Operand.const (Value.bool true)) (Operand.tmp 165), type := 4, pos := "law.go:93", after := #[{ on := 39, ground := Ground.data }, { on := 48, ground := Ground.data }, { on := 8, ground := Ground.guard }], guard := some (8, true) }) (v := undef) rfl (by kernel_rfl) (by kernel_rfl) (by kernel_rfl) (fun _ _ _ h => h) (Or.inr ⟨by rfl, rfl⟩) hHeld ?_
             simp only [Act.put, List.setIfInBounds_toArray, List.set_cons_zero, List.set_cons_succ]
             refine wpAnyH_take (i := 50) (oi := { dst := some 167, op := Op.move (Operand.tmp 166), type := 4, pos := "law.go:93", after := #[{ on := 49, ground := Ground.data }, { on := 39, ground := Ground.chain }, { on := 8, ground := Ground.guard }], guard := some (8, true) }) (v := undef) rfl (by kernel_rfl) (by kernel_rfl) (by kernel_rfl) (fun _ _ _ h => h) (Or.inr ⟨by rfl, rfl⟩) hHeld ?_
             simp only [Act.put, List.setIfInBounds_toArray, List.set_cons_zero, List.set_cons_succ]
             refine wpAnyH_take (i := 51) (oi := { dst := some 168, op := Op.fieldAddr 29 (Operand.tmp 14) 1, type := 0, pos := "law.go:93", after := #[{ on := 50, ground := Ground.guard }], guard := some (50, false) }) (v := undef) rfl (by kernel_rfl) (by kernel_rfl) (by kernel_rfl) (fun _ _ _ h => h) (Or.inr ⟨by rfl, rfl⟩) hHeld ?_
             simp only [Act.put, List.setIfInBounds_toArray, List.set_cons_zero, List.set_cons_succ]
             refine wpAnyH_take (i := 52) (oi := { dst := some 169, op := Op.load 4 (Operand.tmp 168), type := 4, pos := "law.go:93", after := #[{ on := 51, ground := Ground.data }, { on := 50, ground := Ground.guard }], guard := some (50, false) }) (v := undef) rfl (by kernel_rfl) (by kernel_rfl) (by kernel_rfl) (fun _ _ _ h => h) (Or.inr ⟨by rfl, rfl⟩) hHeld ?_
             simp only [Act.put, List.setIfInBounds_toArray, List.set_cons_zero, List.set_cons_succ]
             refine wpAnyH_take (i := 53) (oi := { dst := some 170, op := Op.fieldAddr 29 (Operand.tmp 12) 1, type := 0, pos := "law.go:93", after := #[{ on := 50, ground := Ground.guard }], guard := some (50, false) }) (v := undef) rfl (by kernel_rfl) (by kernel_rfl) (by kernel_rfl) (fun _ _ _ h => h) (Or.inr ⟨by rfl, rfl⟩) hHeld ?_
             simp only [Act.put, List.setIfInBounds_toArray, List.set_cons_zero, List.set_cons_succ]
             refine wpAnyH_take (i := 54) (oi := { dst := some 171, op := Op.load 4 (Operand.tmp 170), type := 4, pos := "law.go:93", after := #[{ on := 53, ground := Ground.data }, { on := 50, ground := Ground.guard }], guard := some (50, false) }) (v := undef) rfl (by kernel_rfl) (by kernel_rfl) (by kernel_rfl) (fun _ _ _ h => h) (Or.inr ⟨by rfl, rfl⟩) hHeld ?_
             simp only [Act.put, List.setIfInBounds_toArray, List.set_cons_zero, List.set_cons_succ]
             refine wpAnyH_take (i := 55) (oi := { dst := some 172, op := Op.binOp BinOp.neq 4 (Operand.tmp 169) (Operand.tmp 171) 4, type := 4, pos := "law.go:93", after := #[{ on := 52, ground := Ground.data }, { on := 54, ground := Ground.data }, { on := 50, ground := Ground.guard }], guard := some (50, false) }) (v := undef) rfl (by kernel_rfl) (by kernel_rfl) (by kernel_rfl) (fun _ _ _ h => h) (Or.inr ⟨by rfl, rfl⟩) hHeld ?_
             simp only [Act.put, List.setIfInBounds_toArray, List.set_cons_zero, List.set_cons_succ]
             refine wpAnyH_take (i := 56) (oi := { dst := some 173, op := Op.pick (Operand.tmp 167) (Operand.const (Value.bool true)) (Operand.tmp 172), type := 4, pos := "law.go:93", after := #[{ on := 50, ground := Ground.data }, { on := 55, ground := Ground.data }, { on := 8, ground := Ground.guard }], guard := some (8, true) }) (v := undef) rfl (by kernel_rfl) (by kernel_rfl) (by kernel_rfl) (fun _ _ _ h => h) (Or.inr ⟨by rfl, rfl⟩) hHeld ?_
             simp only [Act.put, List.setIfInBounds_toArray, List.set_cons_zero, List.set_cons_succ]
             refine wpAnyH_take (i := 57) (oi := { dst := some 174, op := Op.pick (Operand.tmp 125) (Operand.tmp 173) (Operand.const (Value.bool false)), type := 4, pos := "law.go:93", after := #[{ on := 8, ground := Ground.data }, { on := 56, ground := Ground.data }], guard := none }) (v := ?_) rfl (by kernel_rfl) (by kernel_rfl) (by kernel_rfl) (fun _ _ _ h => h) (Or.inl ⟨by rfl, ?_⟩) hHeld ?_
             rotate_left
             ·intro w hSw; (try dsimp only at hSw); go_simp; (try with_reducible rfl)
             simp only [Act.put, List.setIfInBounds_toArray, List.set_cons_zero, List.set_cons_succ]
             refine wpAnyH_done (by kernel_rfl) ?_ _
             clear hHeld KH
             clear RB0
             go_wp2
             exact ⟨⟨j + 1, by omega, by go_num, Flb315⟩, by simp [intOf]; omega⟩
           ·as_aux_lemma =>
             have hd : (xn.toList == n.toList) = false := by rw [same_name]; exact decide_eq_false fun e => he e.symm
             have e1 := HYg.out
             have e2 := HYh.out
             have e3 := HTg.out
             have e4 := HTh.out
             rw [HGW.out xn he, HXG.out] at e1 e3
             rw [HGX.out xn he, HXG.out] at e2 e4
             simp only [Option.getD_some, Option.isSome_some, M.Fld.mk.injEq] at e1 e2 e3 e4
             obtain ⟨p1, p2, p3⟩ := e1
             obtain ⟨p4, p5, p6⟩ := e2
             have p1 := p1.symm
             have p2 := p2.symm
             have p3 := p3.symm
             have p4 := p4.symm
             have p5 := p5.symm
             have p6 := p6.symm
             subst p1 p2 p3 p4 p5 p6
             subst e3 e4
             clear he
             have EV : Hid (M.sameB xv xv = true) := by unfold Hid; simp [M.sameB]
             obtain ⟨xba0, xba1, _⟩ := cells2 E11x3.out
             obtain ⟨xbw0, xbw1, _⟩ := cells2 E11x6.out
             obtain ⟨xbx0, xbx1, _⟩ := cells2 E11x7.out
             obtain ⟨tt0, tt1, tt2⟩ := E11x9.out.2
             obtain ⟨xbg0, xbg1, xbg2, _⟩ := cells3 E11x12.out
             obtain ⟨xbh0, xbh1, xbh2, _⟩ := cells3 E11x14.out
             go_wp2_with fail
             have KH : Hid (∀ W, Below W11.heap.size W11 W → (W.cell? ⟨w.heap.size, 0, none⟩ = some (.slice (some ⟨bb, o, none⟩) R.length ca) ∧ W.cell? ⟨w.heap.size, 1, none⟩ = some (.slice ba sa.pr.length da) ∧ W.cell? ⟨g7, 0, none⟩ = some (.slice wa sW.fs.length wc) ∧ W.cell? ⟨g7, 1, none⟩ = some (.slice wb sW.pr.length wd) ∧ W.cell? ⟨g8, 0, none⟩ = some (.slice xa sX.fs.length xc) ∧ W.cell? ⟨g8, 1, none⟩ = some (.slice xb sX.pr.length xd) ∧ W.cell? ⟨g12, 0, none⟩ = some (.string xn) ∧ W.cell? ⟨g12, 1, none⟩ = some (.bool xs) ∧ W.cell? ⟨g12, 2, none⟩ = some (.slice yg xv.length cg) ∧ W.cell? ⟨g14, 0, none⟩ = some (.string xn) ∧ W.cell? ⟨g14, 1, none⟩ = some (.bool xs) ∧ W.cell? ⟨g14, 2, none⟩ = some (.slice yh xv.length ch) ∧ W.cell? ⟨bb, o + j * 3, none⟩ = some (.string xn) ∧ W.cell? ⟨bb, o + j * 3 + 1, none⟩ = some (.bool xs) ∧ W.cell? ⟨bb, o + j * 3 + 2, none⟩ = some (.slice xa0 xv.length xc0))) := fun W hb => by
              obtain ⟨yba0, yba1, _⟩ := cells2 (bx_bel E11x3.out hb)
              obtain ⟨ybw0, ybw1, _⟩ := cells2 (bx_bel E11x6.out hb)
              obtain ⟨ybx0, ybx1, _⟩ := cells2 (bx_bel E11x7.out hb)
              obtain ⟨ybg0, ybg1, ybg2, _⟩ := cells3 (bx_bel E11x12.out hb)
              obtain ⟨ybh0, ybh1, ybh2, _⟩ := cells3 (bx_bel E11x14.out hb)
              obtain ⟨rt0, rt1, rt2⟩ := (E11x9.out.bel hb).2
              exact ⟨yba0, yba1, ybw0, ybw1, ybx0, ybx1, ybg0, ybg1, ybg2, ybh0, ybh1, ybh2, rt0, rt1, rt2⟩
             clear xba0 xba1 xbw0 xbw1 xbx0 xbx1 tt0 tt1 tt2 xbg0 xbg1 xbg2 xbh0 xbh1 xbh2
             refine wp_region_held_drew (S := fun W => W.cell? ⟨w.heap.size, 0, none⟩ = some (.slice (some ⟨bb, o, none⟩) R.length ca) ∧ W.cell? ⟨w.heap.size, 1, none⟩ = some (.slice ba sa.pr.length da) ∧ W.cell? ⟨g7, 0, none⟩ = some (.slice wa sW.fs.length wc) ∧ W.cell? ⟨g7, 1, none⟩ = some (.slice wb sW.pr.length wd) ∧ W.cell? ⟨g8, 0, none⟩ = some (.slice xa sX.fs.length xc) ∧ W.cell? ⟨g8, 1, none⟩ = some (.slice xb sX.pr.length xd) ∧ W.cell? ⟨g12, 0, none⟩ = some (.string xn) ∧ W.cell? ⟨g12, 1, none⟩ = some (.bool xs) ∧ W.cell? ⟨g12, 2, none⟩ = some (.slice yg xv.length cg) ∧ W.cell? ⟨g14, 0, none⟩ = some (.string xn) ∧ W.cell? ⟨g14, 1, none⟩ = some (.bool xs) ∧ W.cell? ⟨g14, 2, none⟩ = some (.slice yh xv.length ch) ∧ W.cell? ⟨bb, o + j * 3, none⟩ = some (.string xn) ∧ W.cell? ⟨bb, o + j * 3 + 1, none⟩ = some (.bool xs) ∧ W.cell? ⟨bb, o + j * 3 + 2, none⟩ = some (.slice xa0 xv.length xc0)) (by kernel_rfl) (KH.out _ (Below.refl _ _).drew) (fun hHeld => ?_)
             have hbd : Below W11.heap.size W11 W11.drew := (Gr.refl _).drew.below
             have RB0 := hid hbd
             have B315 := hid (E11x0.out.trans (hbd.mono E11x0.out.size))
             have Fa315 := hid (E11x1.out.bel hbd)
             have Fv315 := hid (E11x2.out.bel hbd)
             have Fba315 := hid (bx_bel E11x3.out hbd)
             have Fw315 := hid (E11x4.out.bel hbd)
             have Fx315 := hid (E11x5.out.bel hbd)
             have Fbw315 := hid (bx_bel E11x6.out hbd)
             have Fbx315 := hid (bx_bel E11x7.out hbd)
             have Flb315 := hid (E11x8.out.bel hbd)
             have Ft315 := hid (E11x9.out.bel hbd)
             have Fxo315 := hid (E11x10.out.bel hbd)
             have Fg315 := hid (E11x11.out.bel hbd)
             have Fbg315 := hid (bx_bel E11x12.out hbd)
             have Fh315 := hid (E11x13.out.bel hbd)
             have Fbh315 := hid (bx_bel E11x14.out hbd)
             clear E11x0 E11x1 E11x2 E11x3 E11x4 E11x5 E11x6 E11x7 E11x8 E11x9 E11x10 E11x11 E11x12 E11x13 E11x14
             clear hbd
             refine wpAnyH_take (i := 0) (oi := { dst := some 117, op := Op.fieldAddr 25 (Operand.tmp 3) 0, type := 0, pos := "law.go:93", after := #[], guard := none }) (v := ?_) rfl (by kernel_rfl) (by kernel_rfl) (by kernel_rfl) (fun _ _ _ h => h) (Or.inl ⟨by rfl, ?_⟩) hHeld ?_
             rotate_left
             ·intro w hSw; (try dsimp only at hSw); go_simp; (try with_reducible rfl)
             simp only [Act.put, List.setIfInBounds_toArray, List.set_cons_zero, List.set_cons_succ]
             refine wpAnyH_take (i := 1) (oi := { dst := some 118, op := Op.load 22 (Operand.tmp 117), type := 22, pos := "law.go:93", after := #[{ on := 0, ground := Ground.data }], guard := none }) (v := ?_) rfl (by kernel_rfl) (by kernel_rfl) (by kernel_rfl) (fun _ _ _ h => h) (Or.inl ⟨by rfl, ?_⟩) hHeld ?_
             rotate_left
             ·intro w hSw; (try dsimp only at hSw); go_simp; (try with_reducible rfl)
             simp only [Act.put, List.setIfInBounds_toArray, List.set_cons_zero, List.set_cons_succ]
             refine wpAnyH_take (i := 2) (oi := { dst := some 119, op := Op.move (Operand.tmp 11), type := 3, pos := "law.go:93", after := #[], guard := none }) (v := ?_) rfl (by kernel_rfl) (by kernel_rfl) (by kernel_rfl) (fun _ _ _ h => h) (Or.inl ⟨by rfl, ?_⟩) hHeld ?_
             rotate_left
             ·intro w hSw; (try dsimp only at hSw); go_simp; (try with_reducible rfl)
             simp only [Act.put, List.setIfInBounds_toArray, List.set_cons_zero, List.set_cons_succ]
             refine wpAnyH_take (i := 3) (oi := { dst := some 120, op := Op.indexAddr 22 (Operand.tmp 118) (Operand.tmp 119), type := 0, pos := "law.go:93", after := #[{ on := 1, ground := Ground.data }, { on := 2, ground := Ground.data }], guard := none }) (v := ?_) rfl (by kernel_rfl) (by kernel_rfl) (by kernel_rfl) (fun _ _ _ h => h) (Or.inl ⟨by rfl, ?_⟩) hHeld ?_
             rotate_left
             ·intro w hSw; (try dsimp only at hSw); go_simp; (try with_reducible rfl)
             simp only [Act.put, List.setIfInBounds_toArray, List.set_cons_zero, List.set_cons_succ]
             refine wpAnyH_take (i := 4) (oi := { dst := some 121, op := Op.fieldAddr 29 (Operand.tmp 120) 0, type := 0, pos := "law.go:93", after := #[{ on := 3, ground := Ground.data }], guard := none }) (v := ?_) rfl (by kernel_rfl) (by kernel_rfl) (by kernel_rfl) (fun _ _ _ h => h) (Or.inl ⟨by rfl, ?_⟩) hHeld ?_
             rotate_left
             ·intro w hSw; (try dsimp only at hSw); go_simp; (try with_reducible rfl)
             simp only [Act.put, List.setIfInBounds_toArray, List.set_cons_zero, List.set_cons_succ]
             refine wpAnyH_take (i := 5) (oi := { dst := some 122, op := Op.load 9 (Operand.tmp 121), type := 9, pos := "law.go:93", after := #[{ on := 4, ground := Ground.data }], guard := none }) (v := ?_) rfl (by kernel_rfl) (by kernel_rfl) (by kernel_rfl) (fun _ _ _ h => h) (Or.inl ⟨by rfl, ?_⟩) hHeld ?_
             rotate_left
             ·intro w hSw; (try dsimp only at hSw); go_simp; (try with_reducible rfl)
             simp only [Act.put, List.setIfInBounds_toArray, List.set_cons_zero, List.set_cons_succ]
             refine wpAnyH_take (i := 6) (oi := { dst := some 123, op := Op.move (Operand.tmp 1), type := 9, pos := "law.go:93", after := #[], guard := none }) (v := ?_) rfl (by kernel_rfl) (by kernel_rfl) (by kernel_rfl) (fun _ _ _ h => h) (Or.inl ⟨by rfl, ?_⟩) hHeld ?_
             rotate_left
             ·intro w hSw; (try dsimp only at hSw); go_simp; (try with_reducible rfl)
             simp only [Act.put, List.setIfInBounds_toArray, List.set_cons_zero, List.set_cons_succ]
             refine wpAnyH_take (i := 7) (oi := { dst := some 124, op := Op.binOp BinOp.neq 9 (Operand.tmp 122) (Operand.tmp 123) 9, type := 4, pos := "law.go:93", after := #[{ on := 5, ground := Ground.data }, { on := 6, ground := Ground.data }], guard := none }) (v := ?_) rfl (by kernel_rfl) (by kernel_rfl) (by kernel_rfl) (fun _ _ _ h => h) (Or.inl ⟨by rfl, ?_⟩) hHeld ?_
             rotate_left
             ·intro w hSw; (try dsimp only at hSw); go_simp; (try with_reducible rfl)
             simp only [Act.put, List.setIfInBounds_toArray, List.set_cons_zero, List.set_cons_succ]
             refine wpAnyH_take (i := 8) (oi := { dst := some 125, op := Op.move (Operand.tmp 124), type := 4, pos := "law.go:93", after := #[{ on := 7, ground := Ground.data }], guard := none }) (v := ?_) rfl (by kernel_rfl) (by kernel_rfl) (by kernel_rfl) (fun _ _ _ h => h) (Or.inl ⟨by rfl, ?_⟩) hHeld ?_
             rotate_left
             ·intro w hSw; (try dsimp only at hSw); go_simp; (try with_reducible rfl)
             simp only [Act.put, List.setIfInBounds_toArray, List.set_cons_zero, List.set_cons_succ]
             refine wpAnyH_take (i := 9) (oi := { dst := some 126, op := Op.move (Operand.tmp 13), type := 4, pos := "law.go:93", after := #[{ on := 8, ground := Ground.guard }], guard := some (8, true) }) (v := ?_) rfl (by kernel_rfl) (by kernel_rfl) (by kernel_rfl) (fun _ _ _ h => h) (Or.inl ⟨by rfl, ?_⟩) hHeld ?_
             rotate_left
             ·intro w hSw; (try dsimp only at hSw); go_simp; (try with_reducible rfl)
             simp only [Act.put, List.setIfInBounds_toArray, List.set_cons_zero, List.set_cons_succ]
             refine wpAnyH_take (i := 10) (oi := { dst := some 127, op := Op.unOp UnOp.not 4 (Operand.tmp 126), type := 4, pos := "law.go:93", after := #[{ on := 9, ground := Ground.data }, { on := 8, ground := Ground.guard }], guard := some (8, true) }) (v := ?_) rfl (by kernel_rfl) (by kernel_rfl) (by kernel_rfl) (fun _ _ _ h => h) (Or.inl ⟨by rfl, ?_⟩) hHeld ?_
             rotate_left
             ·intro w hSw; (try dsimp only at hSw); go_simp; (try with_reducible rfl)
             simp only [Act.put, List.setIfInBounds_toArray, List.set_cons_zero, List.set_cons_succ]
             refine wpAnyH_take (i := 11) (oi := { dst := some 128, op := Op.move (Operand.tmp 127), type := 4, pos := "law.go:93", after := #[{ on := 10, ground := Ground.data }, { on := 8, ground := Ground.chain }, { on := 8, ground := Ground.guard }], guard := some (8, true) }) (v := ?_) rfl (by kernel_rfl) (by kernel_rfl) (by kernel_rfl) (fun _ _ _ h => h) (Or.inl ⟨by rfl, ?_⟩) hHeld ?_
             rotate_left
             ·intro w hSw; (try dsimp only at hSw); go_simp; (try with_reducible rfl)
             simp only [Act.put, List.setIfInBounds_toArray, List.set_cons_zero, List.set_cons_succ]
             refine wpAnyH_take (i := 12) (oi := { dst := some 129, op := Op.move (Operand.tmp 15), type := 4, pos := "law.go:93", after := #[{ on := 11, ground := Ground.guard }], guard := some (11, false) }) (v := ?_) rfl (by kernel_rfl) (by kernel_rfl) (by kernel_rfl) (fun _ _ _ h => h) (Or.inl ⟨by rfl, ?_⟩) hHeld ?_
             rotate_left
             ·intro w hSw; (try dsimp only at hSw); go_simp; (try with_reducible rfl)
             simp only [Act.put, List.setIfInBounds_toArray, List.set_cons_zero, List.set_cons_succ]
             refine wpAnyH_take (i := 13) (oi := { dst := some 130, op := Op.unOp UnOp.not 4 (Operand.tmp 129), type := 4, pos := "law.go:93", after := #[{ on := 12, ground := Ground.data }, { on := 11, ground := Ground.guard }], guard := some (11, false) }) (v := ?_) rfl (by kernel_rfl) (by kernel_rfl) (by kernel_rfl) (fun _ _ _ h => h) (Or.inl ⟨by rfl, ?_⟩) hHeld ?_
             rotate_left
             ·intro w hSw; (try dsimp only at hSw); go_simp; (try with_reducible rfl)
             simp only [Act.put, List.setIfInBounds_toArray, List.set_cons_zero, List.set_cons_succ]
             refine wpAnyH_take (i := 14) (oi := { dst := some 131, op := Op.pick (Operand.tmp 128) (Operand.const (Value.bool true)) (Operand.tmp 130), type := 4, pos := "law.go:93", after := #[{ on := 11, ground := Ground.data }, { on := 13, ground := Ground.data }, { on := 8, ground := Ground.guard }], guard := some (8, true) }) (v := ?_) rfl (by kernel_rfl) (by kernel_rfl) (by kernel_rfl) (fun _ _ _ h => h) (Or.inl ⟨by rfl, ?_⟩) hHeld ?_
             rotate_left
             ·intro w hSw; (try dsimp only at hSw); go_simp; (try with_reducible rfl)
             simp only [Act.put, List.setIfInBounds_toArray, List.set_cons_zero, List.set_cons_succ]
             refine wpAnyH_take (i := 15) (oi := { dst := some 132, op := Op.move (Operand.tmp 131), type := 4, pos := "law.go:93", after := #[{ on := 14, ground := Ground.data }, { on := 11, ground := Ground.chain }, { on := 8, ground := Ground.guard }], guard := some (8, true) }) (v := ?_) rfl (by kernel_rfl) (by kernel_rfl) (by kernel_rfl) (fun _ _ _ h => h) (Or.inl ⟨by rfl, ?_⟩) hHeld ?_
             rotate_left
             ·intro w hSw; (try dsimp only at hSw); go_simp; (try with_reducible rfl)
             simp only [Act.put, List.setIfInBounds_toArray, List.set_cons_zero, List.set_cons_succ]
             refine wpAnyH_take (i := 16) (oi := { dst := some 133, op := Op.fieldAddr 29 (Operand.tmp 12) 2, type := 0, pos := "law.go:93", after := #[{ on := 15, ground := Ground.guard }], guard := some (15, false) }) (v := ?_) rfl (by kernel_rfl) (by kernel_rfl) (by kernel_rfl) (fun _ _ _ h => h) (Or.inl ⟨by rfl, ?_⟩) hHeld ?_
             rotate_left
             ·intro w hSw; (try dsimp only at hSw); go_simp; (try with_reducible rfl)
             simp only [Act.put, List.setIfInBounds_toArray, List.set_cons_zero, List.set_cons_succ]
             refine wpAnyH_take (i := 17) (oi := { dst := some 134, op := Op.load 23 (Operand.tmp 133), type := 23, pos := "law.go:93", after := #[{ on := 16, ground := Ground.data }, { on := 15, ground := Ground.guard }], guard := some (15, false) }) (v := ?_) rfl (by kernel_rfl) (by kernel_rfl) (by kernel_rfl) (fun _ _ _ h => h) (Or.inl ⟨by rfl, ?_⟩) hHeld ?_
             rotate_left
             ·intro w hSw; (try dsimp only at hSw); go_simp; (try with_reducible rfl)
             simp only [Act.put, List.setIfInBounds_toArray, List.set_cons_zero, List.set_cons_succ]
             refine wpAnyH_take (i := 18) (oi := { dst := some 135, op := Op.fieldAddr 25 (Operand.tmp 3) 0, type := 0, pos := "law.go:93", after := #[{ on := 15, ground := Ground.guard }], guard := some (15, false) }) (v := ?_) rfl (by kernel_rfl) (by kernel_rfl) (by kernel_rfl) (fun _ _ _ h => h) (Or.inl ⟨by rfl, ?_⟩) hHeld ?_
             rotate_left
             ·intro w hSw; (try dsimp only at hSw); go_simp; (try with_reducible rfl)
             simp only [Act.put, List.setIfInBounds_toArray, List.set_cons_zero, List.set_cons_succ]
             refine wpAnyH_take (i := 19) (oi := { dst := some 136, op := Op.load 22 (Operand.tmp 135), type := 22, pos := "law.go:93", after := #[{ on := 18, ground := Ground.data }, { on := 15, ground := Ground.guard }], guard := some (15, false) }) (v := ?_) rfl (by kernel_rfl) (by kernel_rfl) (by kernel_rfl) (fun _ _ _ h => h) (Or.inl ⟨by rfl, ?_⟩) hHeld ?_
             rotate_left
             ·intro w hSw; (try dsimp only at hSw); go_simp; (try with_reducible rfl)
             simp only [Act.put, List.setIfInBounds_toArray, List.set_cons_zero, List.set_cons_succ]
             refine wpAnyH_take (i := 20) (oi := { dst := some 137, op := Op.move (Operand.tmp 11), type := 3, pos := "law.go:93", after := #[{ on := 15, ground := Ground.guard }], guard := some (15, false) }) (v := ?_) rfl (by kernel_rfl) (by kernel_rfl) (by kernel_rfl) (fun _ _ _ h => h) (Or.inl ⟨by rfl, ?_⟩) hHeld ?_
             rotate_left
             ·intro w hSw; (try dsimp only at hSw); go_simp; (try with_reducible rfl)
             simp only [Act.put, List.setIfInBounds_toArray, List.set_cons_zero, List.set_cons_succ]
             refine wpAnyH_take (i := 21) (oi := { dst := some 138, op := Op.indexAddr 22 (Operand.tmp 136) (Operand.tmp 137), type := 0, pos := "law.go:93", after := #[{ on := 19, ground := Ground.data }, { on := 20, ground := Ground.data }, { on := 15, ground := Ground.guard }], guard := some (15, false) }) (v := ?_) rfl (by kernel_rfl) (by kernel_rfl) (by kernel_rfl) (fun _ _ _ h => h) (Or.inl ⟨by rfl, ?_⟩) hHeld ?_
             rotate_left
             ·intro w hSw; (try dsimp only at hSw); go_simp; (try with_reducible rfl)
             simp only [Act.put, List.setIfInBounds_toArray, List.set_cons_zero, List.set_cons_succ]
             refine wpAnyH_take (i := 22) (oi := { dst := some 139, op := Op.fieldAddr 29 (Operand.tmp 138) 2, type := 0, pos := "law.go:93", after := #[{ on := 21, ground := Ground.data }, { on := 15, ground := Ground.guard }], guard := some (15, false) }) (v := ?_) rfl (by kernel_rfl) (by kernel_rfl) (by kernel_rfl) (fun _ _ _ h => h) (Or.inl ⟨by rfl, ?_⟩) hHeld ?_
             rotate_left
             ·intro w hSw; (try dsimp only at hSw); go_simp; (try with_reducible rfl)
             simp only [Act.put, List.setIfInBounds_toArray, List.set_cons_zero, List.set_cons_succ]
             refine wpAnyH_take (i := 23) (oi := { dst := some 140, op := Op.load 23 (Operand.tmp 139), type := 23, pos := "law.go:93", after := #[{ on := 22, ground := Ground.data }, { on := 15, ground := Ground.guard }], guard := some (15, false) }) (v := ?_) rfl (by kernel_rfl) (by kernel_rfl) (by kernel_rfl) (fun _ _ _ h => h) (Or.inl ⟨by rfl, ?_⟩) hHeld ?_
             rotate_left
             ·intro w hSw; (try dsimp only at hSw); go_simp; (try with_reducible rfl)
             simp only [Act.put, List.setIfInBounds_toArray, List.set_cons_zero, List.set_cons_succ]
             refine wpAnyH_ready (rs := [24]) (by kernel_rfl) (by simp) ?_
             refine AllReadyH.cons (o := { dst := some 141, op := Op.call { callee := Callee.value (Operand.func 15), args := #[Operand.tmp 134, Operand.tmp 140], argTypes := #[23, 23] }, type := 4, pos := "law.go:93", after := #[{ on := 17, ground := Ground.data }, { on := 23, ground := Ground.data }, { on := 15, ground := Ground.chain }, { on := 15, ground := Ground.guard }], guard := some (15, false) }) rfl (fun K hK => ?_) AllReadyH.nil
             go_simp
             refine (same_any W11.drew _ _ xv xv Fg315.out Fxo315.out (Nat.le_trans HXL.out (by decide))).mono ?_
             rw [EV.out]
             rintro e z316 ⟨rfl, hb⟩
             have B316 := hid (B315.out.trans (hb.mono B315.out.size))
             have Fa316 := hid (Fa315.out.bel hb)
             have Fv316 := hid (Fv315.out.bel hb)
             have Fba316 := hid (bx_bel Fba315.out hb)
             have Fw316 := hid (Fw315.out.bel hb)
             have Fx316 := hid (Fx315.out.bel hb)
             have Fbw316 := hid (bx_bel Fbw315.out hb)
             have Fbx316 := hid (bx_bel Fbx315.out hb)
             have Flb316 := hid (Flb315.out.bel hb)
             have Ft316 := hid (Ft315.out.bel hb)
             have Fxo316 := hid (Fxo315.out.bel hb)
             have Fg316 := hid (Fg315.out.bel hb)
             have Fbg316 := hid (bx_bel Fbg315.out hb)
             have Fh316 := hid (Fh315.out.bel hb)
             have Fbh316 := hid (bx_bel Fbh315.out hb)
             have RB316 := hid (RB0.out.trans (hb.mono RB0.out.size))
             clear B315 Fa315 Fv315 Fba315 Fw315 Fx315 Fbw315 Fbx315 Flb315 Ft315 Fxo315 Fg315 Fbg315 Fh315 Fbh315 RB0
             clear hb
             refine hK.out _ _ (KH.out _ RB316.out) (fun hHeld => ?_)
             refine wpAnyH_take (i := 25) (oi := { dst := some 142, op := Op.unOp UnOp.not 4 (Operand.tmp 141), type := 4, pos := "law.go:93", after := #[{ on := 24, ground := Ground.data }, { on := 15, ground := Ground.guard }], guard := some (15, false) }) (v := ?_) rfl (by kernel_rfl) (by kernel_rfl) (by kernel_rfl) (fun _ _ _ h => h) (Or.inl ⟨by rfl, ?_⟩) hHeld ?_
             rotate_left
             ·intro w hSw; (try dsimp only at hSw); go_simp; (try with_reducible rfl)
             simp only [Act.put, List.setIfInBounds_toArray, List.set_cons_zero, List.set_cons_succ]
             refine wpAnyH_take (i := 26) (oi := { dst := some 143, op := Op.pick (Operand.tmp 132) (Operand.const (Value.bool true)) (Operand.tmp 142), type := 4, pos := "law.go:93", after := #[{ on := 15, ground := Ground.data }, { on := 25, ground := Ground.data }, { on := 8, ground := Ground.guard }], guard := some (8, true) }) (v := ?_) rfl (by kernel_rfl) (by kernel_rfl) (by kernel_rfl) (fun _ _ _ h => h) (Or.inl ⟨by rfl, ?_⟩) hHeld ?_
             rotate_left
             ·intro w hSw; (try dsimp only at hSw); go_simp; (try with_reducible rfl)
             simp only [Act.put, List.setIfInBounds_toArray, List.set_cons_zero, List.set_cons_succ]
             refine wpAnyH_take (i := 27) (oi := { dst := some 144, op := Op.move (Operand.tmp 143), type := 4, pos := "law.go:93", after := #[{ on := 26, ground := Ground.data }, { on := 24, ground := Ground.chain }, { on := 8, ground := Ground.guard }], guard := some (8, true) }) (v := ?_) rfl (by kernel_rfl) (by kernel_rfl) (by kernel_rfl) (fun _ _ _ h => h) (Or.inl ⟨by rfl, ?_⟩) hHeld ?_
             rotate_left
             ·intro w hSw; (try dsimp only at hSw); go_simp; (try with_reducible rfl)
             simp only [Act.put, List.setIfInBounds_toArray, List.set_cons_zero, List.set_cons_succ]
             refine wpAnyH_take (i := 28) (oi := { dst := some 145, op := Op.fieldAddr 29 (Operand.tmp 14) 2, type := 0, pos := "law.go:93", after := #[{ on := 27, ground := Ground.guard }], guard := some (27, false) }) (v := ?_) rfl (by kernel_rfl) (by kernel_rfl) (by kernel_rfl) (fun _ _ _ h => h) (Or.inl ⟨by rfl, ?_⟩) hHeld ?_
             rotate_left
             ·intro w hSw; (try dsimp only at hSw); go_simp; (try with_reducible rfl)
             simp only [Act.put, List.setIfInBounds_toArray, List.set_cons_zero, List.set_cons_succ]
             refine wpAnyH_take (i := 29) (oi := { dst := some 146, op := Op.load 23 (Operand.tmp 145), type := 23, pos := "law.go:93", after := #[{ on := 28, ground := Ground.data }, { on := 27, ground := Ground.guard }], guard := some (27, false) }) (v := ?_) rfl (by kernel_rfl) (by kernel_rfl) (by kernel_rfl) (fun _ _ _ h => h) (Or.inl ⟨by rfl, ?_⟩) hHeld ?_
             rotate_left
             ·intro w hSw; (try dsimp only at hSw); go_simp; (try with_reducible rfl)
             simp only [Act.put, List.setIfInBounds_toArray, List.set_cons_zero, List.set_cons_succ]
             refine wpAnyH_take (i := 30) (oi := { dst := some 147, op := Op.fieldAddr 25 (Operand.tmp 3) 0, type := 0, pos := "law.go:93", after := #[{ on := 27, ground := Ground.guard }], guard := some (27, false) }) (v := ?_) rfl (by kernel_rfl) (by kernel_rfl) (by kernel_rfl) (fun _ _ _ h => h) (Or.inl ⟨by rfl, ?_⟩) hHeld ?_
             rotate_left
             ·intro w hSw; (try dsimp only at hSw); go_simp; (try with_reducible rfl)
             simp only [Act.put, List.setIfInBounds_toArray, List.set_cons_zero, List.set_cons_succ]
             refine wpAnyH_take (i := 31) (oi := { dst := some 148, op := Op.load 22 (Operand.tmp 147), type := 22, pos := "law.go:93", after := #[{ on := 30, ground := Ground.data }, { on := 27, ground := Ground.guard }], guard := some (27, false) }) (v := ?_) rfl (by kernel_rfl) (by kernel_rfl) (by kernel_rfl) (fun _ _ _ h => h) (Or.inl ⟨by rfl, ?_⟩) hHeld ?_
             rotate_left
             ·intro w hSw; (try dsimp only at hSw); go_simp; (try with_reducible rfl)
             simp only [Act.put, List.setIfInBounds_toArray, List.set_cons_zero, List.set_cons_succ]
             refine wpAnyH_take (i := 32) (oi := { dst := some 149, op := Op.move (Operand.tmp 11), type := 3, pos := "law.go:93", after := #[{ on := 27, ground := Ground.guard }], guard := some (27, false) }) (v := ?_) rfl (by kernel_rfl) (by kernel_rfl) (by kernel_rfl) (fun _ _ _ h => h) (Or.inl ⟨by rfl, ?_⟩) hHeld ?_
             rotate_left
             ·intro w hSw; (try dsimp only at hSw); go_simp; (try with_reducible rfl)
             simp only [Act.put, List.setIfInBounds_toArray, List.set_cons_zero, List.set_cons_succ]
             refine wpAnyH_take (i := 33) (oi := { dst := some 150, op := Op.indexAddr 22 (Operand.tmp 148) (Operand.tmp 149), type := 0, pos := "law.go:93", after := #[{ on := 31, ground := Ground.data }, { on := 32, ground := Ground.data }, { on := 27, ground := Ground.guard }], guard := some (27, false) }) (v := ?_) rfl (by kernel_rfl) (by kernel_rfl) (by kernel_rfl) (fun _ _ _ h => h) (Or.inl ⟨by rfl, ?_⟩) hHeld ?_
             rotate_left
             ·intro w hSw; (try dsimp only at hSw); go_simp; (try with_reducible rfl)
             simp only [Act.put, List.setIfInBounds_toArray, List.set_cons_zero, List.set_cons_succ]
             refine wpAnyH_take (i := 34) (oi := { dst := some 151, op := Op.fieldAddr 29 (Operand.tmp 150) 2, type := 0, pos := "law.go:93", after := #[{ on := 33, ground := Ground.data }, { on := 27, ground := Ground.guard }], guard := some (27, false) }) (v := ?_) rfl (by kernel_rfl) (by kernel_rfl) (by kernel_rfl) (fun _ _ _ h => h) (Or.inl ⟨by rfl, ?_⟩) hHeld ?_
             rotate_left
             ·intro w hSw; (try dsimp only at hSw); go_simp; (try with_reducible rfl)
             simp only [Act.put, List.setIfInBounds_toArray, List.set_cons_zero, List.set_cons_succ]
             refine wpAnyH_take (i := 35) (oi := { dst := some 152, op := Op.load 23 (Operand.tmp 151), type := 23, pos := "law.go:93", after := #[{ on := 34, ground := Ground.data }, { on := 27, ground := Ground.guard }], guard := some (27, false) }) (v := ?_) rfl (by kernel_rfl) (by kernel_rfl) (by kernel_rfl) (fun _ _ _ h => h) (Or.inl ⟨by rfl, ?_⟩) hHeld ?_
             rotate_left
             ·intro w hSw; (try dsimp only at hSw); go_simp; (try with_reducible rfl)
             simp only [Act.put, List.setIfInBounds_toArray, List.set_cons_zero, List.set_cons_succ]
             refine wpAnyH_ready (rs := [36]) (by kernel_rfl) (by simp) ?_
             refine AllReadyH.cons (o := { dst := some 153, op := Op.call { callee := Callee.value (Operand.func 15), args := #[Operand.tmp 146, Operand.tmp 152], argTypes := #[23, 23] }, type := 4, pos := "law.go:93", after := #[{ on := 29, ground := Ground.data }, { on := 35, ground := Ground.data }, { on := 27, ground := Ground.chain }, { on := 27, ground := Ground.guard }], guard := some (27, false) }) rfl (fun K hK => ?_) AllReadyH.nil
             go_simp
             refine (same_any z316 _ _ xv xv Fh316.out Fxo316.out (Nat.le_trans HXL.out (by decide))).mono ?_
             rw [EV.out]
             rintro e z317 ⟨rfl, hb⟩
             have B317 := hid (B316.out.trans (hb.mono B316.out.size))
             have Fa317 := hid (Fa316.out.bel hb)
             have Fv317 := hid (Fv316.out.bel hb)
             have Fba317 := hid (bx_bel Fba316.out hb)
             have Fw317 := hid (Fw316.out.bel hb)
             have Fx317 := hid (Fx316.out.bel hb)
             have Fbw317 := hid (bx_bel Fbw316.out hb)
             have Fbx317 := hid (bx_bel Fbx316.out hb)
             have Flb317 := hid (Flb316.out.bel hb)
             have Ft317 := hid (Ft316.out.bel hb)
             have Fxo317 := hid (Fxo316.out.bel hb)
             have Fg317 := hid (Fg316.out.bel hb)
             have Fbg317 := hid (bx_bel Fbg316.out hb)
             have Fh317 := hid (Fh316.out.bel hb)
             have Fbh317 := hid (bx_bel Fbh316.out hb)
             have RB317 := hid (RB316.out.trans (hb.mono RB316.out.size))
             clear B316 Fa316 Fv316 Fba316 Fw316 Fx316 Fbw316 Fbx316 Flb316 Ft316 Fxo316 Fg316 Fbg316 Fh316 Fbh316 RB316
             clear hb
             refine hK.out _ _ (KH.out _ RB317.out) (fun hHeld => ?_)
             refine wpAnyH_take (i := 37) (oi := { dst := some 154, op := Op.unOp UnOp.not 4 (Operand.tmp 153), type := 4, pos := "law.go:93", after := #[{ on := 36, ground := Ground.data }, { on := 27, ground := Ground.guard }], guard := some (27, false) }) (v := ?_) rfl (by kernel_rfl) (by kernel_rfl) (by kernel_rfl) (fun _ _ _ h => h) (Or.inl ⟨by rfl, ?_⟩) hHeld ?_
             rotate_left
             ·intro w hSw; (try dsimp only at hSw); go_simp; (try with_reducible rfl)
             simp only [Act.put, List.setIfInBounds_toArray, List.set_cons_zero, List.set_cons_succ]
             refine wpAnyH_take (i := 38) (oi := { dst := some 155, op := Op.pick (Operand.tmp 144) (Operand.const (Value.bool true)) (Operand.tmp 154), type := 4, pos := "law.go:93", after := #[{ on := 27, ground := Ground.data }, { on := 37, ground := Ground.data }, { on := 8, ground := Ground.guard }], guard := some (8, true) }) (v := ?_) rfl (by kernel_rfl) (by kernel_rfl) (by kernel_rfl) (fun _ _ _ h => h) (Or.inl ⟨by rfl, ?_⟩) hHeld ?_
             rotate_left
             ·intro w hSw; (try dsimp only at hSw); go_simp; (try with_reducible rfl)
             simp only [Act.put, List.setIfInBounds_toArray, List.set_cons_zero, List.set_cons_succ]
             refine wpAnyH_take (i := 39) (oi := { dst := some 156, op := Op.move (Operand.tmp 155), type := 4, pos := "law.go:93", after := #[{ on := 38, ground := Ground.data }, { on := 36, ground := Ground.chain }, { on := 8, ground := Ground.guard }], guard := some (8, true) }) (v := ?_) rfl (by kernel_rfl) (by kernel_rfl) (by kernel_rfl) (fun _ _ _ h => h) (Or.inl ⟨by rfl, ?_⟩) hHeld ?_
             rotate_left
             ·intro w hSw; (try dsimp only at hSw); go_simp; (try with_reducible rfl)
             simp only [Act.put, List.setIfInBounds_toArray, List.set_cons_zero, List.set_cons_succ]
             refine wpAnyH_take (i := 40) (oi := { dst := some 157, op := Op.fieldAddr 29 (Operand.tmp 12) 1, type := 0, pos := "law.go:93", after := #[{ on := 39, ground := Ground.guard }], guard := some (39, false) }) (v := ?_) rfl (by kernel_rfl) (by kernel_rfl) (by kernel_rfl) (fun _ _ _ h => h) (Or.inl ⟨by rfl, ?_⟩) hHeld ?_
             rotate_left
             ·intro w hSw; (try dsimp only at hSw); go_simp; (try with_reducible rfl)
             simp only [Act.put, List.setIfInBounds_toArray, List.set_cons_zero, List.set_cons_succ]
             refine wpAnyH_take (i := 41) (oi := { dst := some 158, op := Op.load 4 (Operand.tmp 157), type := 4, pos := "law.go:93", after := #[{ on := 40, ground := Ground.data }, { on := 39, ground := Ground.guard }], guard := some (39, false) }) (v := ?_) rfl (by kernel_rfl) (by kernel_rfl) (by kernel_rfl) (fun _ _ _ h => h) (Or.inl ⟨by rfl, ?_⟩) hHeld ?_
             rotate_left
             ·intro w hSw; (try dsimp only at hSw); go_simp; (try with_reducible rfl)
             simp only [Act.put, List.setIfInBounds_toArray, List.set_cons_zero, List.set_cons_succ]
             refine wpAnyH_take (i := 42) (oi := { dst := some 159, op := Op.fieldAddr 25 (Operand.tmp 3) 0, type := 0, pos := "law.go:93", after := #[{ on := 39, ground := Ground.guard }], guard := some (39, false) }) (v := ?_) rfl (by kernel_rfl) (by kernel_rfl) (by kernel_rfl) (fun _ _ _ h => h) (Or.inl ⟨by rfl, ?_⟩) hHeld ?_
             rotate_left
             ·intro w hSw; (try dsimp only at hSw); go_simp; (try with_reducible rfl)
             simp only [Act.put, List.setIfInBounds_toArray, List.set_cons_zero, List.set_cons_succ]
             refine wpAnyH_take (i := 43) (oi := { dst := some 160, op := Op.load 22 (Operand.tmp 159), type := 22, pos := "law.go:93", after := #[{ on := 42, ground := Ground.data }, { on := 39, ground := Ground.guard }], guard := some (39, false) }) (v := ?_) rfl (by kernel_rfl) (by kernel_rfl) (by kernel_rfl) (fun _ _ _ h => h) (Or.inl ⟨by rfl, ?_⟩) hHeld ?_
             rotate_left
             ·intro w hSw; (try dsimp only at hSw); go_simp; (try with_reducible rfl)
             simp only [Act.put, List.setIfInBounds_toArray, List.set_cons_zero, List.set_cons_succ]
             refine wpAnyH_take (i := 44) (oi := { dst := some 161, op := Op.move (Operand.tmp 11), type := 3, pos := "law.go:93", after := #[{ on := 39, ground := Ground.guard }], guard := some (39, false) }) (v := ?_) rfl (by kernel_rfl) (by kernel_rfl) (by kernel_rfl) (fun _ _ _ h => h) (Or.inl ⟨by rfl, ?_⟩) hHeld ?_
             rotate_left
             ·intro w hSw; (try dsimp only at hSw); go_simp; (try with_reducible rfl)
             simp only [Act.put, List.setIfInBounds_toArray, List.set_cons_zero, List.set_cons_succ]
             refine wpAnyH_take (i := 45) (oi := { dst := some 162, op := Op.indexAddr 22 (Operand.tmp 160) (Operand.tmp 161), type := 0, pos := "law.go:93", after := #[{ on := 43, ground := Ground.data }, { on := 44, ground := Ground.data }, { on := 39, ground := Ground.guard }], guard := some (39, false) }) (v := ?_) rfl (by kernel_rfl) (by kernel_rfl) (by kernel_rfl) (fun _ _ _ h => h) (Or.inl ⟨by rfl, ?_⟩) hHeld ?_
             rotate_left
             ·intro w hSw; (try dsimp only at hSw); go_simp; (try with_reducible rfl)
             simp only [Act.put, List.setIfInBounds_toArray, List.set_cons_zero, List.set_cons_succ]
             refine wpAnyH_take (i := 46) (oi := { dst := some 163, op := Op.fieldAddr 29 (Operand.tmp 162) 1, type := 0, pos := "law.go:93", after := #[{ on := 45, ground := Ground.data }, { on := 39, ground := Ground.guard }], guard := some (39, false) }) (v := ?_) rfl (by kernel_rfl) (by kernel_rfl) (by kernel_rfl) (fun _ _ _ h => h) (Or.inl ⟨by rfl, ?_⟩) hHeld ?_
             rotate_left
             ·intro w hSw; (try dsimp only at hSw); go_simp; (try with_reducible rfl)
             simp only [Act.put, List.setIfInBounds_toArray, List.set_cons_zero, List.set_cons_succ]
             refine wpAnyH_take (i := 47) (oi := { dst := some 164, op := Op.load 4 (Operand.tmp 163), type := 4, pos := "law.go:93", after := #[{ on := 46, ground := Ground.data }, { on := 39, ground := Ground.guard }], guard := some (39, false) }) (v := ?_) rfl (by kernel_rfl) (by kernel_rfl) (by kernel_rfl) (fun _ _ _ h => h) (Or.inl ⟨by rfl, ?_⟩) hHeld ?_
             rotate_left
             ·intro w hSw; (try dsimp only at hSw); go_simp; (try with_reducible rfl)
             simp only [Act.put, List.setIfInBounds_toArray, List.set_cons_zero, List.set_cons_succ]
             refine wpAnyH_take (i := 48) (oi := { dst := some 165, op := Op.binOp BinOp.neq 4 (Operand.tmp 158) (Operand.tmp 164) 4, type := 4, pos := "law.go:93", after := #[{ on := 41, ground := Ground.data }, { on := 47, ground := Ground.data }, { on := 39, ground := Ground.guard }], guard := some (39, false) }) (v := ?_) rfl (by kernel_rfl) (by kernel_rfl) (by kernel_rfl) (fun _ _ _ h => h) (Or.inl ⟨by rfl, ?_⟩) hHeld ?_
             rotate_left
             ·intro w hSw; (try dsimp only at hSw); go_simp; (try with_reducible rfl)
             simp only [Act.put, List.setIfInBounds_toArray, List.set_cons_zero, List.set_cons_succ]
             refine wpAnyH_take (i := 49) (oi := { dst := some 166, op := Op.pick (Operand.tmp 156) (Operand.const (Value.bool true)) (Operand.tmp 165), type := 4, pos := "law.go:93", after := #[{ on := 39, ground := Ground.data }, { on := 48, ground := Ground.data }, { on := 8, ground := Ground.guard }], guard := some (8, true) }) (v := ?_) rfl (by kernel_rfl) (by kernel_rfl) (by kernel_rfl) (fun _ _ _ h => h) (Or.inl ⟨by rfl, ?_⟩) hHeld ?_
             rotate_left
             ·intro w hSw; (try dsimp only at hSw); go_simp; (try with_reducible rfl)
             simp only [Act.put, List.setIfInBounds_toArray, List.set_cons_zero, List.set_cons_succ]
             refine wpAnyH_take (i := 50) (oi := { dst := some 167, op := Op.move (Operand.tmp 166), type := 4, pos := "law.go:93", after := #[{ on := 49, ground := Ground.data }, { on := 39, ground := Ground.chain }, { on := 8, ground := Ground.guard }], guard := some (8, true) }) (v := ?_) rfl (by kernel_rfl) (by kernel_rfl) (by kernel_rfl) (fun _ _ _ h => h) (Or.inl ⟨by rfl, ?_⟩) hHeld ?_
             rotate_left
             ·intro w hSw; (try dsimp only at hSw); go_simp; (try with_reducible rfl)
             simp only [Act.put, List.setIfInBounds_toArray, List.set_cons_zero, List.set_cons_succ]
             refine wpAnyH_take (i := 51) (oi := { dst := some 168, op := Op.fieldAddr 29 (Operand.tmp 14) 1, type := 0, pos := "law.go:93", after := #[{ on := 50, ground := Ground.guard }], guard := some (50, false) }) (v := ?_) rfl (by kernel_rfl) (by kernel_rfl) (by kernel_rfl) (fun _ _ _ h => h) (Or.inl ⟨by rfl, ?_⟩) hHeld ?_
             rotate_left
             ·intro w hSw; (try dsimp only at hSw); go_simp; (try with_reducible rfl)
             simp only [Act.put, List.setIfInBounds_toArray, List.set_cons_zero, List.set_cons_succ]
             refine wpAnyH_take (i := 52) (oi := { dst := some 169, op := Op.load 4 (Operand.tmp 168), type := 4, pos := "law.go:93", after := #[{ on := 51, ground := Ground.data }, { on := 50, ground := Ground.guard }], guard := some (50, false) }) (v := ?_) rfl (by kernel_rfl) (by kernel_rfl) (by kernel_rfl) (fun _ _ _ h => h) (Or.inl ⟨by rfl, ?_⟩) hHeld ?_
             rotate_left
             ·intro w hSw; (try dsimp only at hSw); go_simp; (try with_reducible rfl)
             simp only [Act.put, List.setIfInBounds_toArray, List.set_cons_zero, List.set_cons_succ]
             refine wpAnyH_take (i := 53) (oi := { dst := some 170, op := Op.fieldAddr 29 (Operand.tmp 12) 1, type := 0, pos := "law.go:93", after := #[{ on := 50, ground := Ground.guard }], guard := some (50, false) }) (v := ?_) rfl (by kernel_rfl) (by kernel_rfl) (by kernel_rfl) (fun _ _ _ h => h) (Or.inl ⟨by rfl, ?_⟩) hHeld ?_
             rotate_left
             ·intro w hSw; (try dsimp only at hSw); go_simp; (try with_reducible rfl)
             simp only [Act.put, List.setIfInBounds_toArray, List.set_cons_zero, List.set_cons_succ]
             refine wpAnyH_take (i := 54) (oi := { dst := some 171, op := Op.load 4 (Operand.tmp 170), type := 4, pos := "law.go:93", after := #[{ on := 53, ground := Ground.data }, { on := 50, ground := Ground.guard }], guard := some (50, false) }) (v := ?_) rfl (by kernel_rfl) (by kernel_rfl) (by kernel_rfl) (fun _ _ _ h => h) (Or.inl ⟨by rfl, ?_⟩) hHeld ?_
             rotate_left
             ·intro w hSw; (try dsimp only at hSw); go_simp; (try with_reducible rfl)
             simp only [Act.put, List.setIfInBounds_toArray, List.set_cons_zero, List.set_cons_succ]
             refine wpAnyH_take (i := 55) (oi := { dst := some 172, op := Op.binOp BinOp.neq 4 (Operand.tmp 169) (Operand.tmp 171) 4, type := 4, pos := "law.go:93", after := #[{ on := 52, ground := Ground.data }, { on := 54, ground := Ground.data }, { on := 50, ground := Ground.guard }], guard := some (50, false) }) (v := ?_) rfl (by kernel_rfl) (by kernel_rfl) (by kernel_rfl) (fun _ _ _ h => h) (Or.inl ⟨by rfl, ?_⟩) hHeld ?_
             rotate_left
             ·intro w hSw; (try dsimp only at hSw); go_simp; (try with_reducible rfl)
             simp only [Act.put, List.setIfInBounds_toArray, List.set_cons_zero, List.set_cons_succ]
             refine wpAnyH_take (i := 56) (oi := { dst := some 173, op := Op.pick (Operand.tmp 167) (Operand.const (Value.bool true)) (Operand.tmp 172), type := 4, pos := "law.go:93", after := #[{ on := 50, ground := Ground.data }, { on := 55, ground := Ground.data }, { on := 8, ground := Ground.guard }], guard := some (8, true) }) (v := ?_) rfl (by kernel_rfl) (by kernel_rfl) (by kernel_rfl) (fun _ _ _ h => h) (Or.inl ⟨by rfl, ?_⟩) hHeld ?_
             rotate_left
             ·intro w hSw; (try dsimp only at hSw); go_simp; (try with_reducible rfl)
             simp only [Act.put, List.setIfInBounds_toArray, List.set_cons_zero, List.set_cons_succ]
             refine wpAnyH_take (i := 57) (oi := { dst := some 174, op := Op.pick (Operand.tmp 125) (Operand.tmp 173) (Operand.const (Value.bool false)), type := 4, pos := "law.go:93", after := #[{ on := 8, ground := Ground.data }, { on := 56, ground := Ground.data }], guard := none }) (v := ?_) rfl (by kernel_rfl) (by kernel_rfl) (by kernel_rfl) (fun _ _ _ h => h) (Or.inl ⟨by rfl, ?_⟩) hHeld ?_
             rotate_left
             ·intro w hSw; (try dsimp only at hSw); go_simp; (try with_reducible rfl)
             simp only [Act.put, List.setIfInBounds_toArray, List.set_cons_zero, List.set_cons_succ]
             refine wpAnyH_done (by kernel_rfl) ?_ _
             clear hHeld KH
             clear RB317
             go_wp2
             exact ⟨⟨j + 1, by omega, by go_num, Flb317⟩, by simp [intOf]; omega⟩
         as_aux_lemma =>
          refine wp_region_held_drew (S := fun W => W.cell? ⟨w.heap.size, 0, none⟩ = some (.slice (some ⟨bb, o, none⟩) R.length ca) ∧ W.cell? ⟨w.heap.size, 1, none⟩ = some (.slice ba sa.pr.length da) ∧ W.cell? ⟨g7, 0, none⟩ = some (.slice wa sW.fs.length wc) ∧ W.cell? ⟨g7, 1, none⟩ = some (.slice wb sW.pr.length wd) ∧ W.cell? ⟨g8, 0, none⟩ = some (.slice xa sX.fs.length xc) ∧ W.cell? ⟨g8, 1, none⟩ = some (.slice xb sX.pr.length xd) ∧ W.cell? ⟨g12, 0, none⟩ = some (.string nmg) ∧ W.cell? ⟨g12, 1, none⟩ = some (.bool sug) ∧ W.cell? ⟨g12, 2, none⟩ = some (.slice yg vsg.length cg) ∧ W.cell? ⟨bb, o + j * 3, none⟩ = some (.string xn) ∧ W.cell? ⟨bb, o + j * 3 + 1, none⟩ = some (.bool xs) ∧ W.cell? ⟨bb, o + j * 3 + 2, none⟩ = some (.slice xa0 xv.length xc0)) (by kernel_rfl) (KH.out _ (Below.refl _ _).drew) (fun hHeld => ?_)
          have hbd : Below W10.heap.size W10 W10.drew := (Gr.refl _).drew.below
          have RB0 := hid hbd
          clear hbd
          refine wpAnyH_take (i := 0) (oi := { dst := some 107, op := Op.load 25 (Operand.tmp 8), type := 25, pos := "law.go:92", after := #[], guard := none }) (v := ?_) rfl (by kernel_rfl) (by kernel_rfl) (by kernel_rfl) (fun _ _ _ h => h) (Or.inl ⟨by rfl, ?_⟩) hHeld ?_
          rotate_left
          ·intro w hSw; (try dsimp only at hSw); go_simp; (try with_reducible rfl)
          simp only [Act.put, List.setIfInBounds_toArray, List.set_cons_zero, List.set_cons_succ]
          refine wpAnyH_take (i := 1) (oi := { dst := some 108, op := Op.fieldAddr 25 (Operand.tmp 3) 0, type := 0, pos := "law.go:92", after := #[], guard := none }) (v := ?_) rfl (by kernel_rfl) (by kernel_rfl) (by kernel_rfl) (fun _ _ _ h => h) (Or.inl ⟨by rfl, ?_⟩) hHeld ?_
          rotate_left
          ·intro w hSw; (try dsimp only at hSw); go_simp; (try with_reducible rfl)
          simp only [Act.put, List.setIfInBounds_toArray, List.set_cons_zero, List.set_cons_succ]
          refine wpAnyH_take (i := 2) (oi := { dst := some 109, op := Op.load 22 (Operand.tmp 108), type := 22, pos := "law.go:92", after := #[{ on := 1, ground := Ground.data }], guard := none }) (v := ?_) rfl (by kernel_rfl) (by kernel_rfl) (by kernel_rfl) (fun _ _ _ h => h) (Or.inl ⟨by rfl, ?_⟩) hHeld ?_
          rotate_left
          ·intro w hSw; (try dsimp only at hSw); go_simp; (try with_reducible rfl)
          simp only [Act.put, List.setIfInBounds_toArray, List.set_cons_zero, List.set_cons_succ]
          refine wpAnyH_take (i := 3) (oi := { dst := some 110, op := Op.move (Operand.tmp 11), type := 3, pos := "law.go:92", after := #[], guard := none }) (v := ?_) rfl (by kernel_rfl) (by kernel_rfl) (by kernel_rfl) (fun _ _ _ h => h) (Or.inl ⟨by rfl, ?_⟩) hHeld ?_
          rotate_left
          ·intro w hSw; (try dsimp only at hSw); go_simp; (try with_reducible rfl)
          simp only [Act.put, List.setIfInBounds_toArray, List.set_cons_zero, List.set_cons_succ]
          refine wpAnyH_take (i := 4) (oi := { dst := some 111, op := Op.indexAddr 22 (Operand.tmp 109) (Operand.tmp 110), type := 0, pos := "law.go:92", after := #[{ on := 2, ground := Ground.data }, { on := 3, ground := Ground.data }], guard := none }) (v := ?_) rfl (by kernel_rfl) (by kernel_rfl) (by kernel_rfl) (fun _ _ _ h => h) (Or.inl ⟨by rfl, ?_⟩) hHeld ?_
          rotate_left
          ·intro w hSw; (try dsimp only at hSw); go_simp; (try with_reducible rfl)
          simp only [Act.put, List.setIfInBounds_toArray, List.set_cons_zero, List.set_cons_succ]
          refine wpAnyH_take (i := 5) (oi := { dst := some 112, op := Op.fieldAddr 29 (Operand.tmp 111) 0, type := 0, pos := "law.go:92", after := #[{ on := 4, ground := Ground.data }], guard := none }) (v := ?_) rfl (by kernel_rfl) (by kernel_rfl) (by kernel_rfl) (fun _ _ _ h => h) (Or.inl ⟨by rfl, ?_⟩) hHeld ?_
          rotate_left
          ·intro w hSw; (try dsimp only at hSw); go_simp; (try with_reducible rfl)
          simp only [Act.put, List.setIfInBounds_toArray, List.set_cons_zero, List.set_cons_succ]
          refine wpAnyH_take (i := 6) (oi := { dst := some 113, op := Op.load 9 (Operand.tmp 112), type := 9, pos := "law.go:92", after := #[{ on := 5, ground := Ground.data }], guard := none }) (v := ?_) rfl (by kernel_rfl) (by kernel_rfl) (by kernel_rfl) (fun _ _ _ h => h) (Or.inl ⟨by rfl, ?_⟩) hHeld ?_
          rotate_left
          ·intro w hSw; (try dsimp only at hSw); go_simp; (try with_reducible rfl)
          simp only [Act.put, List.setIfInBounds_toArray, List.set_cons_zero, List.set_cons_succ]
          refine wpAnyH_ready (rs := [7, 11]) (by kernel_rfl) (by simp) ?_
          refine AllReadyH.cons (o := { dst := some 114, op := Op.call { callee := Callee.value (Operand.func 11), args := #[Operand.tmp 107, Operand.tmp 113], argTypes := #[25, 9] }, type := 30, pos := "law.go:92", after := #[{ on := 0, ground := Ground.data }, { on := 6, ground := Ground.data }], guard := none }) rfl (fun K hK => ?_) (AllReadyH.cons (o := { dst := some 14, op := Op.alloc 29, type := 0, pos := "law.go:92", after := #[], guard := none }) rfl (fun K hK => ?_) AllReadyH.nil)
          ·go_simp
           refine (oget_any W10.drew _ sX xn (E10x5.out.bel RB0.out) Z.out.Kx).mono ?_
           rintro e z265 ⟨yy265, rfl, hyf, hoy, hb⟩
           have B265 := hid (RB0.out.trans (hb.mono RB0.out.size))
           clear RB0
           obtain ⟨⟨nmh, suh, vsh⟩, yh, ch⟩ := yy265
           rw [HTh.out]
           have Fh265 := hid hoy
           have HYh := hid hyf
           clear hoy hyf
           unfold fv
           clear hb
           refine hK.out _ _ (KH.out _ B265.out) (fun hHeld => ?_)
           clear hK
           refine wpAnyH_take (i := 8) (oi := { dst := some 106, op := Op.move (Operand.tmp 114), type := 30, pos := "law.go:92", after := #[{ on := 7, ground := Ground.data }], guard := none }) (v := ?_) rfl (by kernel_rfl) (by kernel_rfl) (by kernel_rfl) (fun _ _ _ h => h) (Or.inl ⟨by rfl, ?_⟩) hHeld ?_
           rotate_left
           ·intro w hSw; (try dsimp only at hSw); go_simp; (try with_reducible rfl)
           simp only [Act.put, List.setIfInBounds_toArray, List.set_cons_zero, List.set_cons_succ]
           refine wpAnyH_take (i := 9) (oi := { dst := some 115, op := Op.extract (Operand.tmp 106) 0, type := 29, pos := "law.go:92", after := #[{ on := 8, ground := Ground.data }], guard := none }) (v := ?_) rfl (by kernel_rfl) (by kernel_rfl) (by kernel_rfl) (fun _ _ _ h => h) (Or.inl ⟨by rfl, ?_⟩) hHeld ?_
           rotate_left
           ·intro w hSw; (try dsimp only at hSw); go_simp; (try with_reducible rfl)
           simp only [Act.put, List.setIfInBounds_toArray, List.set_cons_zero, List.set_cons_succ]
           refine wpAnyH_take (i := 10) (oi := { dst := some 116, op := Op.extract (Operand.tmp 106) 1, type := 4, pos := "law.go:92", after := #[{ on := 8, ground := Ground.data }, { on := 12, ground := Ground.gcOnly Departure.lateStores }], guard := none }) (v := ?_) rfl (by kernel_rfl) (by kernel_rfl) (by kernel_rfl) (fun _ _ _ h => h) (Or.inl ⟨by rfl, ?_⟩) hHeld ?_
           rotate_left
           ·intro w hSw; (try dsimp only at hSw); go_simp; (try with_reducible rfl)
           simp only [Act.put, List.setIfInBounds_toArray, List.set_cons_zero, List.set_cons_succ]
           refine wpAnyH_ready (rs := [11]) (by kernel_rfl) (by simp) ?_
           refine AllReadyH.cons (o := { dst := some 14, op := Op.alloc 29, type := 0, pos := "law.go:92", after := #[], guard := none }) rfl (fun K hK => ?_) AllReadyH.nil
           obtain ⟨z266, hzz266⟩ : ∃ W, z265.alloc (.cells #[.string ⟨#[]⟩, .bool false, .slice none 0 0] 29) = W := ⟨_, rfl⟩
           go_simp
           have hb : Below z265.heap.size z265 z266 := by rw [← hzz266]; exact (gr_new _ _).below
           have Nbh : Hid (z266.heap[z265.heap.size]? = some (.cells #[.string ⟨#[]⟩, .bool false, .slice none 0 0] 29 (0, 0))) := by unfold Hid; rw [← hzz266]; exact new_at _ _
           have Gbh : Hid (W10.heap.size ≤ z265.heap.size) := B265.out.size
           have B266 := hid (B265.out.trans (hb.mono B265.out.size))
           have Fh266 := hid (Fh265.out.bel hb)
           clear B265 Fh265
           clear hb hzz266
           refine hK.out _ _ (KH.out _ B266.out) (fun hHeld => ?_)
           clear hK
           refine wpAnyH_ready (rs := [12]) (by kernel_rfl) (by simp) ?_
           refine AllReadyH.cons (o := { dst := none, op := Op.store 29 (Operand.tmp 14) (Operand.tmp 115), type := 0, pos := "law.go:92", after := #[{ on := 11, ground := Ground.data }, { on := 9, ground := Ground.data }, { on := 7, ground := Ground.chain }, { on := 0, ground := Ground.phase }, { on := 1, ground := Ground.phase }, { on := 2, ground := Ground.phase }, { on := 3, ground := Ground.phase }, { on := 4, ground := Ground.phase }, { on := 5, ground := Ground.phase }, { on := 6, ground := Ground.phase }, { on := 7, ground := Ground.phase }, { on := 8, ground := Ground.phase }, { on := 9, ground := Ground.phase }, { on := 10, ground := Ground.textOnly Departure.lateStores }, { on := 11, ground := Ground.phase }], guard := none }) rfl (fun K hK => ?_) AllReadyH.nil
           obtain ⟨y0, y1, y2, yf⟩ := cells3 Nbh.out
           go_simp
           obtain ⟨z267, hzz267⟩ : ∃ W, (((z266.setCell ⟨z265.heap.size, 0, none⟩ (.string nmh)).setCell ⟨z265.heap.size, 1, none⟩ (.bool suh)).setCell ⟨z265.heap.size, 2, none⟩ (.slice yh vsh.length ch)) = W := ⟨_, rfl⟩
           have B267 : Hid (Below W10.heap.size W10 z267) := by unfold Hid; rw [← hzz267]; exact set3 B266.out Gbh.out _ _ _
           have Fh267 : Hid (OneAt z267 ⟨⟨nmh, suh, vsh⟩, yh, ch⟩) := by unfold Hid; rw [← hzz267]; exact AtAt.set3n Fh266.out y0 y1 y2 (noInt_s _) (noInt_b _) (noInt_v _ _ _)
           have Fbh267 : Hid (z267.heap[z265.heap.size]? = some (.cells #[.string nmh, .bool suh, .slice yh vsh.length ch] 29 (0, 0))) := by unfold Hid; rw [← hzz267]; exact box_set3 Nbh.out _ _ _
           clear y0 y1 y2 yf
           clear B266 Fh266 Nbh
           try rw [hzz267]
           clear hzz267
           refine hK.out _ _ (KH.out _ B267.out) (fun hHeld => ?_)
           clear hK
           refine wpAnyH_take (i := 13) (oi := { dst := some 15, op := Op.assign (Operand.tmp 116), type := 4, pos := "law.go:92", after := #[{ on := 10, ground := Ground.data }, { on := 12, ground := Ground.chain }, { on := 0, ground := Ground.phase }, { on := 1, ground := Ground.phase }, { on := 2, ground := Ground.phase }, { on := 3, ground := Ground.phase }, { on := 4, ground := Ground.phase }, { on := 5, ground := Ground.phase }, { on := 6, ground := Ground.phase }, { on := 7, ground := Ground.phase }, { on := 8, ground := Ground.phase }, { on := 9, ground := Ground.phase }, { on := 10, ground := Ground.phase }, { on := 11, ground := Ground.phase }, { on := 12, ground := Ground.phase }], guard := none }) (v := ?_) rfl (by kernel_rfl) (by kernel_rfl) (by kernel_rfl) (fun _ _ _ h => h) (Or.inl ⟨by rfl, ?_⟩) hHeld ?_
           rotate_left
           ·intro w hSw; (try dsimp only at hSw); go_simp; (try with_reducible rfl)
           simp only [Act.put, List.setIfInBounds_toArray, List.set_cons_zero, List.set_cons_succ]
           refine wpAnyH_done (by kernel_rfl) ?_ _
           show K11 _ _
           exact tail.out _ _ _ _ _ _ _ HYh (E10x0.out.trans (B267.out.mono E10x0.out.size)) (E10x1.out.bel B267.out) (E10x2.out.bel B267.out) (bx_bel E10x3.out B267.out) (E10x4.out.bel B267.out) (E10x5.out.bel B267.out) (bx_bel E10x6.out B267.out) (bx_bel E10x7.out B267.out) (E10x8.out.bel B267.out) (E10x9.out.bel B267.out) (E10x10.out.bel B267.out) (E10x11.out.bel B267.out) (bx_bel E10x12.out B267.out) Fh267.out Fbh267.out
          ·obtain ⟨z265, hzz265⟩ : ∃ W, W10.drew.alloc (.cells #[.string ⟨#[]⟩, .bool false, .slice none 0 0] 29) = W := ⟨_, rfl⟩
           go_simp
           have hb : Below W10.drew.heap.size W10.drew z265 := by rw [← hzz265]; exact (gr_new _ _).below
           have Nbh : Hid (z265.heap[W10.heap.size]? = some (.cells #[.string ⟨#[]⟩, .bool false, .slice none 0 0] 29 (0, 0))) := by unfold Hid; rw [← hzz265]; exact new_at _ _
           have Gbh : Hid (W10.heap.size ≤ W10.heap.size) := RB0.out.size
           have B265 := hid (RB0.out.trans (hb.mono RB0.out.size))
           clear RB0
           clear hb hzz265
           refine hK.out _ _ (KH.out _ B265.out) (fun hHeld => ?_)
           clear hK
           refine wpAnyH_ready (rs := [7]) (by kernel_rfl) (by simp) ?_
           refine AllReadyH.cons (o := { dst := some 114, op := Op.call { callee := Callee.value (Operand.func 11), args := #[Operand.tmp 107, Operand.tmp 113], argTypes := #[25, 9] }, type := 30, pos := "law.go:92", after := #[{ on := 0, ground := Ground.data }, { on := 6, ground := Ground.data }], guard := none }) rfl (fun K hK => ?_) AllReadyH.nil
           go_simp
           refine (oget_any z265 _ sX xn (E10x5.out.bel B265.out) Z.out.Kx).mono ?_
           rintro e z266 ⟨yy266, rfl, hyf, hoy, hb⟩
           have B266 := hid (B265.out.trans (hb.mono B265.out.size))
           have Fbh266 := hid (bx_bel Nbh.out hb)
           clear B265 Nbh
           obtain ⟨⟨nmh, suh, vsh⟩, yh, ch⟩ := yy266
           rw [HTh.out]
           have Fh266 := hid hoy
           have HYh := hid hyf
           clear hoy hyf
           unfold fv
           clear hb
           refine hK.out _ _ (KH.out _ B266.out) (fun hHeld => ?_)
           clear hK
           refine wpAnyH_take (i := 8) (oi := { dst := some 106, op := Op.move (Operand.tmp 114), type := 30, pos := "law.go:92", after := #[{ on := 7, ground := Ground.data }], guard := none }) (v := ?_) rfl (by kernel_rfl) (by kernel_rfl) (by kernel_rfl) (fun _ _ _ h => h) (Or.inl ⟨by rfl, ?_⟩) hHeld ?_
           rotate_left
           ·intro w hSw; (try dsimp only at hSw); go_simp; (try with_reducible rfl)
           simp only [Act.put, List.setIfInBounds_toArray, List.set_cons_zero, List.set_cons_succ]
           refine wpAnyH_take (i := 9) (oi := { dst := some 115, op := Op.extract (Operand.tmp 106) 0, type := 29, pos := "law.go:92", after := #[{ on := 8, ground := Ground.data }], guard := none }) (v := ?_) rfl (by kernel_rfl) (by kernel_rfl) (by kernel_rfl) (fun _ _ _ h => h) (Or.inl ⟨by rfl, ?_⟩) hHeld ?_
           rotate_left
           ·intro w hSw; (try dsimp only at hSw); go_simp; (try with_reducible rfl)
           simp only [Act.put, List.setIfInBounds_toArray, List.set_cons_zero, List.set_cons_succ]
           refine wpAnyH_take (i := 10) (oi := { dst := some 116, op := Op.extract (Operand.tmp 106) 1, type := 4, pos := "law.go:92", after := #[{ on := 8, ground := Ground.data }, { on := 12, ground := Ground.gcOnly Departure.lateStores }], guard := none }) (v := ?_) rfl (by kernel_rfl) (by kernel_rfl) (by kernel_rfl) (fun _ _ _ h => h) (Or.inl ⟨by rfl, ?_⟩) hHeld ?_
           rotate_left
           ·intro w hSw; (try dsimp only at hSw); go_simp; (try with_reducible rfl)
           simp only [Act.put, List.setIfInBounds_toArray, List.set_cons_zero, List.set_cons_succ]
           refine wpAnyH_ready (rs := [12]) (by kernel_rfl) (by simp) ?_
           refine AllReadyH.cons (o := { dst := none, op := Op.store 29 (Operand.tmp 14) (Operand.tmp 115), type := 0, pos := "law.go:92", after := #[{ on := 11, ground := Ground.data }, { on := 9, ground := Ground.data }, { on := 7, ground := Ground.chain }, { on := 0, ground := Ground.phase }, { on := 1, ground := Ground.phase }, { on := 2, ground := Ground.phase }, { on := 3, ground := Ground.phase }, { on := 4, ground := Ground.phase }, { on := 5, ground := Ground.phase }, { on := 6, ground := Ground.phase }, { on := 7, ground := Ground.phase }, { on := 8, ground := Ground.phase }, { on := 9, ground := Ground.phase }, { on := 10, ground := Ground.textOnly Departure.lateStores }, { on := 11, ground := Ground.phase }], guard := none }) rfl (fun K hK => ?_) AllReadyH.nil
           obtain ⟨y0, y1, y2, yf⟩ := cells3 Fbh266.out
           go_simp
           obtain ⟨z267, hzz267⟩ : ∃ W, (((z266.setCell ⟨W10.heap.size, 0, none⟩ (.string nmh)).setCell ⟨W10.heap.size, 1, none⟩ (.bool suh)).setCell ⟨W10.heap.size, 2, none⟩ (.slice yh vsh.length ch)) = W := ⟨_, rfl⟩
           have B267 : Hid (Below W10.heap.size W10 z267) := by unfold Hid; rw [← hzz267]; exact set3 B266.out Gbh.out _ _ _
           have Fh267 : Hid (OneAt z267 ⟨⟨nmh, suh, vsh⟩, yh, ch⟩) := by unfold Hid; rw [← hzz267]; exact AtAt.set3n Fh266.out y0 y1 y2 (noInt_s _) (noInt_b _) (noInt_v _ _ _)
           have Fbh267 : Hid (z267.heap[W10.heap.size]? = some (.cells #[.string nmh, .bool suh, .slice yh vsh.length ch] 29 (0, 0))) := by unfold Hid; rw [← hzz267]; exact box_set3 Fbh266.out _ _ _
           clear y0 y1 y2 yf
           clear B266 Fh266 Fbh266
           try rw [hzz267]
           clear hzz267
           refine hK.out _ _ (KH.out _ B267.out) (fun hHeld => ?_)
           clear hK
           refine wpAnyH_take (i := 13) (oi := { dst := some 15, op := Op.assign (Operand.tmp 116), type := 4, pos := "law.go:92", after := #[{ on := 10, ground := Ground.data }, { on := 12, ground := Ground.chain }, { on := 0, ground := Ground.phase }, { on := 1, ground := Ground.phase }, { on := 2, ground := Ground.phase }, { on := 3, ground := Ground.phase }, { on := 4, ground := Ground.phase }, { on := 5, ground := Ground.phase }, { on := 6, ground := Ground.phase }, { on := 7, ground := Ground.phase }, { on := 8, ground := Ground.phase }, { on := 9, ground := Ground.phase }, { on := 10, ground := Ground.phase }, { on := 11, ground := Ground.phase }, { on := 12, ground := Ground.phase }], guard := none }) (v := ?_) rfl (by kernel_rfl) (by kernel_rfl) (by kernel_rfl) (fun _ _ _ h => h) (Or.inl ⟨by rfl, ?_⟩) hHeld ?_
           rotate_left
           ·intro w hSw; (try dsimp only at hSw); go_simp; (try with_reducible rfl)
           simp only [Act.put, List.setIfInBounds_toArray, List.set_cons_zero, List.set_cons_succ]
           refine wpAnyH_done (by kernel_rfl) ?_ _
           show K11 _ _
           exact tail.out _ _ _ _ _ _ _ HYh (E10x0.out.trans (B267.out.mono E10x0.out.size)) (E10x1.out.bel B267.out) (E10x2.out.bel B267.out) (bx_bel E10x3.out B267.out) (E10x4.out.bel B267.out) (E10x5.out.bel B267.out) (bx_bel E10x6.out B267.out) (bx_bel E10x7.out B267.out) (E10x8.out.bel B267.out) (E10x9.out.bel B267.out) (E10x10.out.bel B267.out) (E10x11.out.bel B267.out) (bx_bel E10x12.out B267.out) Fh267.out Fbh267.out
       as_aux_lemma =>
        refine wp_region_held_drew (S := fun W => W.cell? ⟨w.heap.size, 0, none⟩ = some (.slice (some ⟨bb, o, none⟩) R.length ca) ∧ W.cell? ⟨w.heap.size, 1, none⟩ = some (.slice ba sa.pr.length da) ∧ W.cell? ⟨g7, 0, none⟩ = some (.slice wa sW.fs.length wc) ∧ W.cell? ⟨g7, 1, none⟩ = some (.slice wb sW.pr.length wd) ∧ W.cell? ⟨g8, 0, none⟩ = some (.slice xa sX.fs.length xc) ∧ W.cell? ⟨g8, 1, none⟩ = some (.slice xb sX.pr.length xd) ∧ W.cell? ⟨bb, o + j * 3, none⟩ = some (.string xn) ∧ W.cell? ⟨bb, o + j * 3 + 1, none⟩ = some (.bool xs) ∧ W.cell? ⟨bb, o + j * 3 + 2, none⟩ = some (.slice xa0 xv.length xc0)) (by kernel_rfl) (KH.out _ (Below.refl _ _).drew) (fun hHeld => ?_)
        have hbd : Below wr.heap.size wr wr.drew := (Gr.refl _).drew.below
        have RB0 := hid hbd
        clear hbd
        refine wpAnyH_take (i := 0) (oi := { dst := some 96, op := Op.load 25 (Operand.tmp 7), type := 25, pos := "law.go:91", after := #[], guard := none }) (v := ?_) rfl (by kernel_rfl) (by kernel_rfl) (by kernel_rfl) (fun _ _ _ h => h) (Or.inl ⟨by rfl, ?_⟩) hHeld ?_
        rotate_left
        ·intro w hSw; (try dsimp only at hSw); go_simp; (try with_reducible rfl)
        simp only [Act.put, List.setIfInBounds_toArray, List.set_cons_zero, List.set_cons_succ]
        refine wpAnyH_take (i := 1) (oi := { dst := some 97, op := Op.fieldAddr 25 (Operand.tmp 3) 0, type := 0, pos := "law.go:91", after := #[], guard := none }) (v := ?_) rfl (by kernel_rfl) (by kernel_rfl) (by kernel_rfl) (fun _ _ _ h => h) (Or.inl ⟨by rfl, ?_⟩) hHeld ?_
        rotate_left
        ·intro w hSw; (try dsimp only at hSw); go_simp; (try with_reducible rfl)
        simp only [Act.put, List.setIfInBounds_toArray, List.set_cons_zero, List.set_cons_succ]
        refine wpAnyH_take (i := 2) (oi := { dst := some 98, op := Op.load 22 (Operand.tmp 97), type := 22, pos := "law.go:91", after := #[{ on := 1, ground := Ground.data }], guard := none }) (v := ?_) rfl (by kernel_rfl) (by kernel_rfl) (by kernel_rfl) (fun _ _ _ h => h) (Or.inl ⟨by rfl, ?_⟩) hHeld ?_
        rotate_left
        ·intro w hSw; (try dsimp only at hSw); go_simp; (try with_reducible rfl)
        simp only [Act.put, List.setIfInBounds_toArray, List.set_cons_zero, List.set_cons_succ]
        refine wpAnyH_take (i := 3) (oi := { dst := some 99, op := Op.move (Operand.tmp 11), type := 3, pos := "law.go:91", after := #[], guard := none }) (v := ?_) rfl (by kernel_rfl) (by kernel_rfl) (by kernel_rfl) (fun _ _ _ h => h) (Or.inl ⟨by rfl, ?_⟩) hHeld ?_
        rotate_left
        ·intro w hSw; (try dsimp only at hSw); go_simp; (try with_reducible rfl)
        simp only [Act.put, List.setIfInBounds_toArray, List.set_cons_zero, List.set_cons_succ]
        refine wpAnyH_take (i := 4) (oi := { dst := some 100, op := Op.indexAddr 22 (Operand.tmp 98) (Operand.tmp 99), type := 0, pos := "law.go:91", after := #[{ on := 2, ground := Ground.data }, { on := 3, ground := Ground.data }], guard := none }) (v := ?_) rfl (by kernel_rfl) (by kernel_rfl) (by kernel_rfl) (fun _ _ _ h => h) (Or.inl ⟨by rfl, ?_⟩) hHeld ?_
        rotate_left
        ·intro w hSw; (try dsimp only at hSw); go_simp; (try with_reducible rfl)
        simp only [Act.put, List.setIfInBounds_toArray, List.set_cons_zero, List.set_cons_succ]
        refine wpAnyH_take (i := 5) (oi := { dst := some 101, op := Op.fieldAddr 29 (Operand.tmp 100) 0, type := 0, pos := "law.go:91", after := #[{ on := 4, ground := Ground.data }], guard := none }) (v := ?_) rfl (by kernel_rfl) (by kernel_rfl) (by kernel_rfl) (fun _ _ _ h => h) (Or.inl ⟨by rfl, ?_⟩) hHeld ?_
        rotate_left
        ·intro w hSw; (try dsimp only at hSw); go_simp; (try with_reducible rfl)
        simp only [Act.put, List.setIfInBounds_toArray, List.set_cons_zero, List.set_cons_succ]
        refine wpAnyH_take (i := 6) (oi := { dst := some 102, op := Op.load 9 (Operand.tmp 101), type := 9, pos := "law.go:91", after := #[{ on := 5, ground := Ground.data }], guard := none }) (v := ?_) rfl (by kernel_rfl) (by kernel_rfl) (by kernel_rfl) (fun _ _ _ h => h) (Or.inl ⟨by rfl, ?_⟩) hHeld ?_
        rotate_left
        ·intro w hSw; (try dsimp only at hSw); go_simp; (try with_reducible rfl)
        simp only [Act.put, List.setIfInBounds_toArray, List.set_cons_zero, List.set_cons_succ]
        refine wpAnyH_ready (rs := [7, 11]) (by kernel_rfl) (by simp) ?_
        refine AllReadyH.cons (o := { dst := some 103, op := Op.call { callee := Callee.value (Operand.func 11), args := #[Operand.tmp 96, Operand.tmp 102], argTypes := #[25, 9] }, type := 30, pos := "law.go:91", after := #[{ on := 0, ground := Ground.data }, { on := 6, ground := Ground.data }], guard := none }) rfl (fun K hK => ?_) (AllReadyH.cons (o := { dst := some 12, op := Op.alloc 29, type := 0, pos := "law.go:91", after := #[], guard := none }) rfl (fun K hK => ?_) AllReadyH.nil)
        ·go_simp
         refine (oget_any wr.drew _ sW xn (Qw.out.bel RB0.out) Z.out.Kw).mono ?_
         rintro e z165 ⟨yy165, rfl, hyf, hoy, hb⟩
         have B165 := hid (RB0.out.trans (hb.mono RB0.out.size))
         clear RB0
         obtain ⟨⟨nmg, sug, vsg⟩, yg, cg⟩ := yy165
         rw [HTg.out]
         have Fg165 := hid hoy
         have HYg := hid hyf
         clear hoy hyf
         unfold fv
         clear hb
         refine hK.out _ _ (KH.out _ B165.out) (fun hHeld => ?_)
         clear hK
         refine wpAnyH_take (i := 8) (oi := { dst := some 95, op := Op.move (Operand.tmp 103), type := 30, pos := "law.go:91", after := #[{ on := 7, ground := Ground.data }], guard := none }) (v := ?_) rfl (by kernel_rfl) (by kernel_rfl) (by kernel_rfl) (fun _ _ _ h => h) (Or.inl ⟨by rfl, ?_⟩) hHeld ?_
         rotate_left
         ·intro w hSw; (try dsimp only at hSw); go_simp; (try with_reducible rfl)
         simp only [Act.put, List.setIfInBounds_toArray, List.set_cons_zero, List.set_cons_succ]
         refine wpAnyH_take (i := 9) (oi := { dst := some 104, op := Op.extract (Operand.tmp 95) 0, type := 29, pos := "law.go:91", after := #[{ on := 8, ground := Ground.data }], guard := none }) (v := ?_) rfl (by kernel_rfl) (by kernel_rfl) (by kernel_rfl) (fun _ _ _ h => h) (Or.inl ⟨by rfl, ?_⟩) hHeld ?_
         rotate_left
         ·intro w hSw; (try dsimp only at hSw); go_simp; (try with_reducible rfl)
         simp only [Act.put, List.setIfInBounds_toArray, List.set_cons_zero, List.set_cons_succ]
         refine wpAnyH_take (i := 10) (oi := { dst := some 105, op := Op.extract (Operand.tmp 95) 1, type := 4, pos := "law.go:91", after := #[{ on := 8, ground := Ground.data }, { on := 12, ground := Ground.gcOnly Departure.lateStores }], guard := none }) (v := ?_) rfl (by kernel_rfl) (by kernel_rfl) (by kernel_rfl) (fun _ _ _ h => h) (Or.inl ⟨by rfl, ?_⟩) hHeld ?_
         rotate_left
         ·intro w hSw; (try dsimp only at hSw); go_simp; (try with_reducible rfl)
         simp only [Act.put, List.setIfInBounds_toArray, List.set_cons_zero, List.set_cons_succ]
         refine wpAnyH_ready (rs := [11]) (by kernel_rfl) (by simp) ?_
         refine AllReadyH.cons (o := { dst := some 12, op := Op.alloc 29, type := 0, pos := "law.go:91", after := #[], guard := none }) rfl (fun K hK => ?_) AllReadyH.nil
         obtain ⟨z166, hzz166⟩ : ∃ W, z165.alloc (.cells #[.string ⟨#[]⟩, .bool false, .slice none 0 0] 29) = W := ⟨_, rfl⟩
         go_simp
         have hb : Below z165.heap.size z165 z166 := by rw [← hzz166]; exact (gr_new _ _).below
         have Nbg : Hid (z166.heap[z165.heap.size]? = some (.cells #[.string ⟨#[]⟩, .bool false, .slice none 0 0] 29 (0, 0))) := by unfold Hid; rw [← hzz166]; exact new_at _ _
         have Gbg : Hid (wr.heap.size ≤ z165.heap.size) := B165.out.size
         have B166 := hid (B165.out.trans (hb.mono B165.out.size))
         have Fg166 := hid (Fg165.out.bel hb)
         clear B165 Fg165
         clear hb hzz166
         refine hK.out _ _ (KH.out _ B166.out) (fun hHeld => ?_)
         clear hK
         refine wpAnyH_ready (rs := [12]) (by kernel_rfl) (by simp) ?_
         refine AllReadyH.cons (o := { dst := none, op := Op.store 29 (Operand.tmp 12) (Operand.tmp 104), type := 0, pos := "law.go:91", after := #[{ on := 11, ground := Ground.data }, { on := 9, ground := Ground.data }, { on := 7, ground := Ground.chain }, { on := 0, ground := Ground.phase }, { on := 1, ground := Ground.phase }, { on := 2, ground := Ground.phase }, { on := 3, ground := Ground.phase }, { on := 4, ground := Ground.phase }, { on := 5, ground := Ground.phase }, { on := 6, ground := Ground.phase }, { on := 7, ground := Ground.phase }, { on := 8, ground := Ground.phase }, { on := 9, ground := Ground.phase }, { on := 10, ground := Ground.textOnly Departure.lateStores }, { on := 11, ground := Ground.phase }], guard := none }) rfl (fun K hK => ?_) AllReadyH.nil
         obtain ⟨y0, y1, y2, yf⟩ := cells3 Nbg.out
         go_simp
         obtain ⟨z167, hzz167⟩ : ∃ W, (((z166.setCell ⟨z165.heap.size, 0, none⟩ (.string nmg)).setCell ⟨z165.heap.size, 1, none⟩ (.bool sug)).setCell ⟨z165.heap.size, 2, none⟩ (.slice yg vsg.length cg)) = W := ⟨_, rfl⟩
         have B167 : Hid (Below wr.heap.size wr z167) := by unfold Hid; rw [← hzz167]; exact set3 B166.out Gbg.out _ _ _
         have Fg167 : Hid (OneAt z167 ⟨⟨nmg, sug, vsg⟩, yg, cg⟩) := by unfold Hid; rw [← hzz167]; exact AtAt.set3n Fg166.out y0 y1 y2 (noInt_s _) (noInt_b _) (noInt_v _ _ _)
         have Fbg167 : Hid (z167.heap[z165.heap.size]? = some (.cells #[.string nmg, .bool sug, .slice yg vsg.length cg] 29 (0, 0))) := by unfold Hid; rw [← hzz167]; exact box_set3 Nbg.out _ _ _
         clear y0 y1 y2 yf
         clear B166 Fg166 Nbg
         try rw [hzz167]
         clear hzz167
         refine hK.out _ _ (KH.out _ B167.out) (fun hHeld => ?_)
         clear hK
         refine wpAnyH_take (i := 13) (oi := { dst := some 13, op := Op.assign (Operand.tmp 105), type := 4, pos := "law.go:91", after := #[{ on := 10, ground := Ground.data }, { on := 12, ground := Ground.chain }, { on := 0, ground := Ground.phase }, { on := 1, ground := Ground.phase }, { on := 2, ground := Ground.phase }, { on := 3, ground := Ground.phase }, { on := 4, ground := Ground.phase }, { on := 5, ground := Ground.phase }, { on := 6, ground := Ground.phase }, { on := 7, ground := Ground.phase }, { on := 8, ground := Ground.phase }, { on := 9, ground := Ground.phase }, { on := 10, ground := Ground.phase }, { on := 11, ground := Ground.phase }, { on := 12, ground := Ground.phase }], guard := none }) (v := ?_) rfl (by kernel_rfl) (by kernel_rfl) (by kernel_rfl) (fun _ _ _ h => h) (Or.inl ⟨by rfl, ?_⟩) hHeld ?_
         rotate_left
         ·intro w hSw; (try dsimp only at hSw); go_simp; (try with_reducible rfl)
         simp only [Act.put, List.setIfInBounds_toArray, List.set_cons_zero, List.set_cons_succ]
         refine wpAnyH_done (by kernel_rfl) ?_ _
         show K10 _ _
         exact tail.out _ _ _ _ _ _ _ HYg (Bq.out.trans (B167.out.mono Bq.out.size)) (Qa.out.bel B167.out) (Qv.out.bel B167.out) (bx_bel Qba.out B167.out) (Qw.out.bel B167.out) (Qx.out.bel B167.out) (bx_bel Qbw.out B167.out) (bx_bel Qbx.out B167.out) (Qlb.out.bel B167.out) (FT.out.bel B167.out) (FXO.out.bel B167.out) Fg167.out Fbg167.out
        ·obtain ⟨z165, hzz165⟩ : ∃ W, wr.drew.alloc (.cells #[.string ⟨#[]⟩, .bool false, .slice none 0 0] 29) = W := ⟨_, rfl⟩
         go_simp
         have hb : Below wr.drew.heap.size wr.drew z165 := by rw [← hzz165]; exact (gr_new _ _).below
         have Nbg : Hid (z165.heap[wr.heap.size]? = some (.cells #[.string ⟨#[]⟩, .bool false, .slice none 0 0] 29 (0, 0))) := by unfold Hid; rw [← hzz165]; exact new_at _ _
         have Gbg : Hid (wr.heap.size ≤ wr.heap.size) := RB0.out.size
         have B165 := hid (RB0.out.trans (hb.mono RB0.out.size))
         clear RB0
         clear hb hzz165
         refine hK.out _ _ (KH.out _ B165.out) (fun hHeld => ?_)
         clear hK
         refine wpAnyH_ready (rs := [7]) (by kernel_rfl) (by simp) ?_
         refine AllReadyH.cons (o := { dst := some 103, op := Op.call { callee := Callee.value (Operand.func 11), args := #[Operand.tmp 96, Operand.tmp 102], argTypes := #[25, 9] }, type := 30, pos := "law.go:91", after := #[{ on := 0, ground := Ground.data }, { on := 6, ground := Ground.data }], guard := none }) rfl (fun K hK => ?_) AllReadyH.nil
         go_simp
         refine (oget_any z165 _ sW xn (Qw.out.bel B165.out) Z.out.Kw).mono ?_
         rintro e z166 ⟨yy166, rfl, hyf, hoy, hb⟩
         have B166 := hid (B165.out.trans (hb.mono B165.out.size))
         have Fbg166 := hid (bx_bel Nbg.out hb)
         clear B165 Nbg
         obtain ⟨⟨nmg, sug, vsg⟩, yg, cg⟩ := yy166
         rw [HTg.out]
         have Fg166 := hid hoy
         have HYg := hid hyf
         clear hoy hyf
         unfold fv
         clear hb
         refine hK.out _ _ (KH.out _ B166.out) (fun hHeld => ?_)
         clear hK
         refine wpAnyH_take (i := 8) (oi := { dst := some 95, op := Op.move (Operand.tmp 103), type := 30, pos := "law.go:91", after := #[{ on := 7, ground := Ground.data }], guard := none }) (v := ?_) rfl (by kernel_rfl) (by kernel_rfl) (by kernel_rfl) (fun _ _ _ h => h) (Or.inl ⟨by rfl, ?_⟩) hHeld ?_
         rotate_left
         ·intro w hSw; (try dsimp only at hSw); go_simp; (try with_reducible rfl)
         simp only [Act.put, List.setIfInBounds_toArray, List.set_cons_zero, List.set_cons_succ]
         refine wpAnyH_take (i := 9) (oi := { dst := some 104, op := Op.extract (Operand.tmp 95) 0, type := 29, pos := "law.go:91", after := #[{ on := 8, ground := Ground.data }], guard := none }) (v := ?_) rfl (by kernel_rfl) (by kernel_rfl) (by kernel_rfl) (fun _ _ _ h => h) (Or.inl ⟨by rfl, ?_⟩) hHeld ?_
         rotate_left
         ·intro w hSw; (try dsimp only at hSw); go_simp; (try with_reducible rfl)
         simp only [Act.put, List.setIfInBounds_toArray, List.set_cons_zero, List.set_cons_succ]
         refine wpAnyH_take (i := 10) (oi := { dst := some 105, op := Op.extract (Operand.tmp 95) 1, type := 4, pos := "law.go:91", after := #[{ on := 8, ground := Ground.data }, { on := 12, ground := Ground.gcOnly Departure.lateStores }], guard := none }) (v := ?_) rfl (by kernel_rfl) (by kernel_rfl) (by kernel_rfl) (fun _ _ _ h => h) (Or.inl ⟨by rfl, ?_⟩) hHeld ?_
         rotate_left
         ·intro w hSw; (try dsimp only at hSw); go_simp; (try with_reducible rfl)
         simp only [Act.put, List.setIfInBounds_toArray, List.set_cons_zero, List.set_cons_succ]
         refine wpAnyH_ready (rs := [12]) (by kernel_rfl) (by simp) ?_
         refine AllReadyH.cons (o := { dst := none, op := Op.store 29 (Operand.tmp 12) (Operand.tmp 104), type := 0, pos := "law.go:91", after := #[{ on := 11, ground := Ground.data }, { on := 9, ground := Ground.data }, { on := 7, ground := Ground.chain }, { on := 0, ground := Ground.phase }, { on := 1, ground := Ground.phase }, { on := 2, ground := Ground.phase }, { on := 3, ground := Ground.phase }, { on := 4, ground := Ground.phase }, { on := 5, ground := Ground.phase }, { on := 6, ground := Ground.phase }, { on := 7, ground := Ground.phase }, { on := 8, ground := Ground.phase }, { on := 9, ground := Ground.phase }, { on := 10, ground := Ground.textOnly Departure.lateStores }, { on := 11, ground := Ground.phase }], guard := none }) rfl (fun K hK => ?_) AllReadyH.nil
         obtain ⟨y0, y1, y2, yf⟩ := cells3 Fbg166.out
         go_simp
         obtain ⟨z167, hzz167⟩ : ∃ W, (((z166.setCell ⟨wr.heap.size, 0, none⟩ (.string nmg)).setCell ⟨wr.heap.size, 1, none⟩ (.bool sug)).setCell ⟨wr.heap.size, 2, none⟩ (.slice yg vsg.length cg)) = W := ⟨_, rfl⟩
         have B167 : Hid (Below wr.heap.size wr z167) := by unfold Hid; rw [← hzz167]; exact set3 B166.out Gbg.out _ _ _
         have Fg167 : Hid (OneAt z167 ⟨⟨nmg, sug, vsg⟩, yg, cg⟩) := by unfold Hid; rw [← hzz167]; exact AtAt.set3n Fg166.out y0 y1 y2 (noInt_s _) (noInt_b _) (noInt_v _ _ _)
         have Fbg167 : Hid (z167.heap[wr.heap.size]? = some (.cells #[.string nmg, .bool sug, .slice yg vsg.length cg] 29 (0, 0))) := by unfold Hid; rw [← hzz167]; exact box_set3 Fbg166.out _ _ _
         clear y0 y1 y2 yf
         clear B166 Fg166 Fbg166
         try rw [hzz167]
         clear hzz167
         refine hK.out _ _ (KH.out _ B167.out) (fun hHeld => ?_)
         clear hK
         refine wpAnyH_take (i := 13) (oi := { dst := some 13, op := Op.assign (Operand.tmp 105), type := 4, pos := "law.go:91", after := #[{ on := 10, ground := Ground.data }, { on := 12, ground := Ground.chain }, { on := 0, ground := Ground.phase }, { on := 1, ground := Ground.phase }, { on := 2, ground := Ground.phase }, { on := 3, ground := Ground.phase }, { on := 4, ground := Ground.phase }, { on := 5, ground := Ground.phase }, { on := 6, ground := Ground.phase }, { on := 7, ground := Ground.phase }, { on := 8, ground := Ground.phase }, { on := 9, ground := Ground.phase }, { on := 10, ground := Ground.phase }, { on := 11, ground := Ground.phase }, { on := 12, ground := Ground.phase }], guard := none }) (v := ?_) rfl (by kernel_rfl) (by kernel_rfl) (by kernel_rfl) (fun _ _ _ h => h) (Or.inl ⟨by rfl, ?_⟩) hHeld ?_
         rotate_left
         ·intro w hSw; (try dsimp only at hSw); go_simp; (try with_reducible rfl)
         simp only [Act.put, List.setIfInBounds_toArray, List.set_cons_zero, List.set_cons_succ]
         refine wpAnyH_done (by kernel_rfl) ?_ _
         show K10 _ _
         exact tail.out _ _ _ _ _ _ _ HYg (Bq.out.trans (B167.out.mono Bq.out.size)) (Qa.out.bel B167.out) (Qv.out.bel B167.out) (bx_bel Qba.out B167.out) (Qw.out.bel B167.out) (Qx.out.bel B167.out) (bx_bel Qbw.out B167.out) (bx_bel Qbx.out B167.out) (Qlb.out.bel B167.out) (FT.out.bel B167.out) (FXO.out.bel B167.out) Fg167.out Fbg167.out
      ·obtain ⟨xba0, xba1, _⟩ := cells2 Qba.out
       obtain ⟨xbw0, xbw1, _⟩ := cells2 Qbw.out
       obtain ⟨xbx0, xbx1, _⟩ := cells2 Qbx.out
       go_wp2_with fail
       rename_i K14 hK14
       have HK14 := hid hK14
       clear hK14
       have KH : Hid (∀ W, Below wr.heap.size wr W → (W.cell? ⟨w.heap.size, 0, none⟩ = some (.slice aa R.length ca) ∧ W.cell? ⟨w.heap.size, 1, none⟩ = some (.slice ba sa.pr.length da) ∧ W.cell? ⟨g7, 0, none⟩ = some (.slice wa sW.fs.length wc) ∧ W.cell? ⟨g7, 1, none⟩ = some (.slice wb sW.pr.length wd) ∧ W.cell? ⟨g8, 0, none⟩ = some (.slice xa sX.fs.length xc) ∧ W.cell? ⟨g8, 1, none⟩ = some (.slice xb sX.pr.length xd))) := fun W hb => by
        obtain ⟨yba0, yba1, _⟩ := cells2 (bx_bel Qba.out hb)
        obtain ⟨ybw0, ybw1, _⟩ := cells2 (bx_bel Qbw.out hb)
        obtain ⟨ybx0, ybx1, _⟩ := cells2 (bx_bel Qbx.out hb)
        exact ⟨yba0, yba1, ybw0, ybw1, ybx0, ybx1⟩
       clear xba0 xba1 xbw0 xbw1 xbx0 xbx1
       have tail : Hid (∀ (W : World) (g16 : Nat) (qn ma mb ua ub : Option Addr) (mn mc md uc ud : Nat), (Below w.heap.size w W) → (ShAt W (.agg #[.slice aa R.length ca, .slice ba sa.pr.length da]) sa) → (AtAt W (.slice x l.length y) l) → (W.heap[w.heap.size]? = some (.cells #[.slice aa R.length ca, .slice ba sa.pr.length da] 25 (0, 0))) → (ShAt W (.agg #[.slice wa sW.fs.length wc, .slice wb sW.pr.length wd]) sW) → (ShAt W (.agg #[.slice xa sX.fs.length xc, .slice xb sX.pr.length xd]) sX) → (W.heap[g7]? = some (.cells #[.slice wa sW.fs.length wc, .slice wb sW.pr.length wd] 25 (0, 0))) → (W.heap[g8]? = some (.cells #[.slice xa sX.fs.length xc, .slice xb sX.pr.length xd] 25 (0, 0))) → (LowB z113 W) → (ShAt W (.agg #[.slice ua sX.fs.length uc, .slice ub sX.pr.length ud]) sX) → (W.heap[g16]? = some (.cells #[.slice ua sX.fs.length uc, .slice ub sX.pr.length ud] 25 (0, 0))) → K14 ({ tmps := List.toArray (Value.agg #[Value.slice aa R.length ca, Value.slice ba sa.pr.length da] :: Value.string n :: Value.slice x l.length y :: Value.pointer (some { block := w.heap.size, off := 0 }) :: undef :: undef :: u6 :: Value.pointer (some { block := g7, off := 0 }) :: Value.pointer (some { block := g8, off := 0 }) :: Value.pointer (some { block := w107.heap.size, off := 0 }) :: Value.bool false :: Value.int IntKind.i64 ↑j :: u12 :: u13 :: u14 :: u15 :: Value.pointer (some ⟨g16, 0, none⟩) :: Value.bool true :: Value.bool false :: Value.bool false :: Value.agg #[Value.slice aa R.length ca, Value.slice ba sa.pr.length da] :: Value.bool true :: Value.bool false :: Value.bool false :: Value.bool false :: Value.slice x l.length y :: Value.int IntKind.i64 ↑l.length :: Value.bool (decide ((60 : Int) < (↑l.length : Int))) :: Value.bool (decide ((60 : Int) < (↑l.length : Int))) :: Value.bool (decide ((60 : Int) < (↑l.length : Int))) :: Value.agg #[Value.slice aa R.length ca, Value.slice ba sa.pr.length da] :: Value.bool true :: Value.bool false :: Value.bool (decide ((60 : Int) < (↑l.length : Int))) :: Value.bool (decide ((60 : Int) < (↑l.length : Int))) :: Value.slice x l.length y :: Value.bool true :: Value.bool false :: Value.bool (decide ((60 : Int) < (↑l.length : Int))) :: undef :: Value.agg #[Value.slice aa R.length ca, Value.slice ba sa.pr.length da] :: Value.string n :: Value.slice x l.length y :: Value.agg #[Value.slice wa sW.fs.length wc, Value.slice wb sW.pr.length wd] :: Value.agg #[Value.slice aa R.length ca, Value.slice ba sa.pr.length da] :: Value.string n :: Value.slice x l.length y :: Value.agg #[Value.slice xa sX.fs.length xc, Value.slice xb sX.pr.length xd] :: Value.tuple #[Value.agg #[Value.string nmf, Value.bool suf, Value.slice yaf vsf.length ycf], Value.bool false] :: Value.agg #[Value.slice aa R.length ca, Value.slice ba sa.pr.length da] :: Value.string n :: Value.tuple #[Value.agg #[Value.string nmf, Value.bool suf, Value.slice yaf vsf.length ycf], Value.bool false] :: Value.agg #[Value.string nmf, Value.bool suf, Value.slice yaf vsf.length ycf] :: Value.bool false :: Value.agg #[Value.slice wa sW.fs.length wc, Value.slice wb sW.pr.length wd] :: Value.bool true :: Value.bool false :: Value.bool false :: Value.agg #[Value.slice xa sX.fs.length xc, Value.slice xb sX.pr.length xd] :: Value.bool true :: Value.bool false :: Value.bool false :: Value.bool false :: Value.bool false :: Value.bool false :: undef :: undef :: undef :: undef :: Value.bool false :: Value.bool false :: Value.bool false :: Value.agg #[Value.slice aa R.length ca, Value.slice ba sa.pr.length da] :: Value.agg #[Value.slice wa sW.fs.length wc, Value.slice wb sW.pr.length wd] :: Value.bool true :: Value.bool false :: Value.bool false :: Value.bool false :: Value.bool false :: Value.bool false :: undef :: undef :: undef :: undef :: undef :: undef :: Value.bool false :: Value.bool false :: Value.int IntKind.i64 ↑j :: Value.pointer (some { block := w.heap.size, off := 0 }) :: Value.slice aa R.length ca :: Value.int IntKind.i64 ↑R.length :: Value.bool false :: u93 :: u94 :: u95 :: u96 :: u97 :: u98 :: u99 :: u100 :: u101 :: u102 :: u103 :: u104 :: u105 :: u106 :: u107 :: u108 :: u109 :: u110 :: u111 :: u112 :: u113 :: u114 :: u115 :: u116 :: u117 :: u118 :: u119 :: u120 :: u121 :: u122 :: u123 :: u124 :: u125 :: u126 :: u127 :: u128 :: u129 :: u130 :: u131 :: u132 :: u133 :: u134 :: u135 :: u136 :: u137 :: u138 :: u139 :: u140 :: u141 :: u142 :: u143 :: u144 :: u145 :: u146 :: u147 :: u148 :: u149 :: u150 :: u151 :: u152 :: u153 :: u154 :: u155 :: u156 :: u157 :: u158 :: u159 :: u160 :: u161 :: u162 :: u163 :: u164 :: u165 :: u166 :: u167 :: u168 :: u169 :: u170 :: u171 :: u172 :: u173 :: u174 :: Value.agg #[Value.slice aa R.length ca, Value.slice ba sa.pr.length da] :: Value.string n :: Value.slice qn 1 mn :: Value.agg #[Value.slice ma sN.fs.length mc, Value.slice mb sN.pr.length md] :: Value.string n :: Value.slice x l.length y :: Value.agg #[Value.slice ua sX.fs.length uc, Value.slice ub sX.pr.length ud] :: undef :: undef :: undef :: []), defers := [] } : Act) W) := by
        as_aux_lemma =>
         intro W14 g16 qn ma mb ua ub mn mc md uc ud f0 f1 f2 f3 f4 f5 f6 f7 f8 f9 f10
         clear KH
         clear Qa Qv Qba Qw Qx Qbw Qbx Qlb Bq
         have E14x0 := hid f0
         clear f0
         have E14x1 := hid f1
         clear f1
         have E14x2 := hid f2
         clear f2
         have E14x3 := hid f3
         clear f3
         have E14x4 := hid f4
         clear f4
         have E14x5 := hid f5
         clear f5
         have E14x6 := hid f6
         clear f6
         have E14x7 := hid f7
         clear f7
         have E14x8 := hid f8
         clear f8
         have E14x9 := hid f9
         clear f9
         have E14x10 := hid f10
         clear f10
         refine HK14.out _ _ ?_
         clear HK14
         obtain ⟨xba0, xba1, _⟩ := cells2 E14x3.out
         obtain ⟨xbw0, xbw1, _⟩ := cells2 E14x6.out
         obtain ⟨xbx0, xbx1, _⟩ := cells2 E14x7.out
         obtain ⟨xbu0, xbu1, _⟩ := cells2 E14x10.out
         go_wp2_with (first | (go_at_call 16; refine stopHere ?_))
         refine stopAt ?_
         refine (rsameS_any W14 _ _ sX sX E14x9.out E14x5.out Z.out.Kx).mono ?_
         rw [Z.out.s1]
         rintro e w215 ⟨rfl, hb⟩
         have B215 := hid (E14x0.out.trans (hb.mono E14x0.out.size))
         have Fa215 := hid (E14x1.out.bel hb)
         have Fv215 := hid (E14x2.out.bel hb)
         have Fba215 := hid (bx_bel E14x3.out hb)
         have Fw215 := hid (E14x4.out.bel hb)
         have Fx215 := hid (E14x5.out.bel hb)
         have Fbw215 := hid (bx_bel E14x6.out hb)
         have Fbx215 := hid (bx_bel E14x7.out hb)
         have Flb215 := hid (E14x8.out.bel hb)
         have Fu215 := hid (E14x9.out.bel hb)
         have Fbu215 := hid (bx_bel E14x10.out hb)
         clear E14x0 E14x1 E14x2 E14x3 E14x4 E14x5 E14x6 E14x7 E14x8 E14x9 E14x10
         clear hb xba0 xba1 xbw0 xbw1 xbx0 xbx1 xbu0 xbu1
         go_wp2
         go_ret
         exact ⟨rfl, B215.out⟩
       as_aux_lemma =>
        refine wp_region_held_drew (S := fun W => W.cell? ⟨w.heap.size, 0, none⟩ = some (.slice aa R.length ca) ∧ W.cell? ⟨w.heap.size, 1, none⟩ = some (.slice ba sa.pr.length da) ∧ W.cell? ⟨g7, 0, none⟩ = some (.slice wa sW.fs.length wc) ∧ W.cell? ⟨g7, 1, none⟩ = some (.slice wb sW.pr.length wd) ∧ W.cell? ⟨g8, 0, none⟩ = some (.slice xa sX.fs.length xc) ∧ W.cell? ⟨g8, 1, none⟩ = some (.slice xb sX.pr.length xd)) (by kernel_rfl) (KH.out _ (Below.refl _ _).drew) (fun hHeld => ?_)
        have hbd : Below wr.heap.size wr wr.drew := (Gr.refl _).drew.below
        have RB0 := hid hbd
        clear hbd
        refine wpAnyH_take (i := 0) (oi := { dst := some 175, op := Op.load 25 (Operand.tmp 3), type := 25, pos := "law.go:97", after := #[], guard := none }) (v := ?_) rfl (by kernel_rfl) (by kernel_rfl) (by kernel_rfl) (fun _ _ _ h => h) (Or.inl ⟨by rfl, ?_⟩) hHeld ?_
        rotate_left
        ·intro w hSw; (try dsimp only at hSw); go_simp; (try with_reducible rfl)
        simp only [Act.put, List.setIfInBounds_toArray, List.set_cons_zero, List.set_cons_succ]
        refine wpAnyH_take (i := 1) (oi := { dst := some 176, op := Op.move (Operand.tmp 1), type := 9, pos := "law.go:97", after := #[], guard := none }) (v := ?_) rfl (by kernel_rfl) (by kernel_rfl) (by kernel_rfl) (fun _ _ _ h => h) (Or.inl ⟨by rfl, ?_⟩) hHeld ?_
        rotate_left
        ·intro w hSw; (try dsimp only at hSw); go_simp; (try with_reducible rfl)
        simp only [Act.put, List.setIfInBounds_toArray, List.set_cons_zero, List.set_cons_succ]
        refine wpAnyH_take (i := 4) (oi := { dst := some 179, op := Op.move (Operand.tmp 1), type := 9, pos := "law.go:97", after := #[], guard := none }) (v := ?_) rfl (by kernel_rfl) (by kernel_rfl) (by kernel_rfl) (fun _ _ _ h => h) (Or.inl ⟨by rfl, ?_⟩) hHeld ?_
        rotate_left
        ·intro w hSw; (try dsimp only at hSw); go_simp; (try with_reducible rfl)
        simp only [Act.put, List.setIfInBounds_toArray, List.set_cons_zero, List.set_cons_succ]
        refine wpAnyH_take (i := 5) (oi := { dst := some 180, op := Op.move (Operand.tmp 2), type := 23, pos := "law.go:97", after := #[], guard := none }) (v := ?_) rfl (by kernel_rfl) (by kernel_rfl) (by kernel_rfl) (fun _ _ _ h => h) (Or.inl ⟨by rfl, ?_⟩) hHeld ?_
        rotate_left
        ·intro w hSw; (try dsimp only at hSw); go_simp; (try with_reducible rfl)
        simp only [Act.put, List.setIfInBounds_toArray, List.set_cons_zero, List.set_cons_succ]
        refine wpAnyH_ready (rs := [2, 7]) (by kernel_rfl) (by simp) ?_
        refine AllReadyH.cons (o := { dst := some 177, op := Op.call { callee := Callee.value (Operand.func 29), args := #[], argTypes := #[] }, type := 23, pos := "law.go:97", after := #[], guard := none }) rfl (fun K hK => ?_) (AllReadyH.cons (o := { dst := some 16, op := Op.alloc 25, type := 0, pos := "law.go:97", after := #[], guard := none }) rfl (fun K hK => ?_) AllReadyH.nil)
        ·go_simp
         refine (null_any wr.drew).mono ?_
         rintro e z165 ⟨qn, mn, rfl, hA, hb⟩
         have B165 := hid (RB0.out.trans (hb.mono RB0.out.size))
         clear RB0
         have Fnl165 := hid hA
         clear hA
         clear hb
         refine hK.out _ _ (KH.out _ B165.out) (fun hHeld => ?_)
         clear hK
         refine wpAnyH_ready (rs := [3, 7]) (by kernel_rfl) (by simp) ?_
         refine AllReadyH.cons (o := { dst := some 178, op := Op.call { callee := Callee.value (Operand.func 21), args := #[Operand.tmp 175, Operand.tmp 176, Operand.tmp 177], argTypes := #[25, 9, 23] }, type := 25, pos := "law.go:97", after := #[{ on := 0, ground := Ground.data }, { on := 1, ground := Ground.data }, { on := 2, ground := Ground.data }, { on := 2, ground := Ground.chain }], guard := none }) rfl (fun K hK => ?_) (AllReadyH.cons (o := { dst := some 16, op := Op.alloc 25, type := 0, pos := "law.go:97", after := #[], guard := none }) rfl (fun K hK => ?_) AllReadyH.nil)
         ·go_simp
          refine (ostrong_any z165 _ sa n _ M.lnull (Qa.out.bel B165.out) Ka.out Fnl165.out (by decide)).mono ?_
          rintro e z166 ⟨vm, rfl, hsh, hb⟩
          have B166 := hid (B165.out.trans (hb.mono B165.out.size))
          have Fnl166 := hid (Fnl165.out.bel hb)
          clear B165 Fnl165
          rw [Z.out.en] at hsh
          have Fm166 := hid hsh.at
          obtain ⟨ma, mc, mb, md, hfm⟩ := hsh.at.form
          clear hsh
          subst hfm
          clear hb
          refine hK.out _ _ (KH.out _ B166.out) (fun hHeld => ?_)
          clear hK
          refine wpAnyH_ready (rs := [6, 7]) (by kernel_rfl) (by simp) ?_
          refine AllReadyH.cons (o := { dst := some 181, op := Op.call { callee := Callee.value (Operand.func 21), args := #[Operand.tmp 178, Operand.tmp 179, Operand.tmp 180], argTypes := #[25, 9, 23] }, type := 25, pos := "law.go:97", after := #[{ on := 3, ground := Ground.data }, { on := 4, ground := Ground.data }, { on := 5, ground := Ground.data }, { on := 3, ground := Ground.chain }], guard := none }) rfl (fun K hK => ?_) (AllReadyH.cons (o := { dst := some 16, op := Op.alloc 25, type := 0, pos := "law.go:97", after := #[], guard := none }) rfl (fun K hK => ?_) AllReadyH.nil)
          ·go_simp
           refine (ostrong_any z166 _ sN n _ l Fm166.out Z.out.Kn (Qv.out.bel B166.out) HL2.out).mono ?_
           rintro e z167 ⟨vu, rfl, hsh, hb⟩
           have B167 := hid (B166.out.trans (hb.mono B166.out.size))
           have Fnl167 := hid (Fnl166.out.bel hb)
           have Fm167 := hid (Fm166.out.bel hb)
           clear B166 Fnl166 Fm166
           rw [Z.out.ey] at hsh
           have Fu167 := hid hsh.at
           obtain ⟨ua, uc, ub, ud, hfu⟩ := hsh.at.form
           clear hsh
           subst hfu
           clear hb
           refine hK.out _ _ (KH.out _ B167.out) (fun hHeld => ?_)
           clear hK
           refine wpAnyH_ready (rs := [7]) (by kernel_rfl) (by simp) ?_
           refine AllReadyH.cons (o := { dst := some 16, op := Op.alloc 25, type := 0, pos := "law.go:97", after := #[], guard := none }) rfl (fun K hK => ?_) AllReadyH.nil
           obtain ⟨z168, hzz168⟩ : ∃ W, z167.alloc (.cells #[.slice none 0 0, .slice none 0 0] 25) = W := ⟨_, rfl⟩
           go_simp
           have hb : Below z167.heap.size z167 z168 := by rw [← hzz168]; exact (gr_new _ _).below
           have Nbu : Hid (z168.heap[z167.heap.size]? = some (.cells #[.slice none 0 0, .slice none 0 0] 25 (0, 0))) := by unfold Hid; rw [← hzz168]; exact new_at _ _
           have Gbu : Hid (wr.heap.size ≤ z167.heap.size) := B167.out.size
           have B168 := hid (B167.out.trans (hb.mono B167.out.size))
           have Fnl168 := hid (Fnl167.out.bel hb)
           have Fm168 := hid (Fm167.out.bel hb)
           have Fu168 := hid (Fu167.out.bel hb)
           clear B167 Fnl167 Fm167 Fu167
           clear hb hzz168
           refine hK.out _ _ (KH.out _ B168.out) (fun hHeld => ?_)
           clear hK
           refine wpAnyH_ready (rs := [8]) (by kernel_rfl) (by simp) ?_
           refine AllReadyH.cons (o := { dst := none, op := Op.store 25 (Operand.tmp 16) (Operand.tmp 181), type := 0, pos := "law.go:97", after := #[{ on := 7, ground := Ground.data }, { on := 6, ground := Ground.data }, { on := 6, ground := Ground.chain }, { on := 0, ground := Ground.phase }, { on := 1, ground := Ground.phase }, { on := 2, ground := Ground.phase }, { on := 3, ground := Ground.phase }, { on := 4, ground := Ground.phase }, { on := 5, ground := Ground.phase }, { on := 6, ground := Ground.phase }, { on := 7, ground := Ground.phase }], guard := none }) rfl (fun K hK => ?_) AllReadyH.nil
           obtain ⟨y0, y1, yf⟩ := cells2 Nbu.out
           go_simp
           obtain ⟨z169, hzz169⟩ : ∃ W, ((z168.setCell ⟨z167.heap.size, 0, none⟩ (.slice ua sX.fs.length uc)).setCell ⟨z167.heap.size, 1, none⟩ (.slice ub sX.pr.length ud)) = W := ⟨_, rfl⟩
           have B169 : Hid (Below wr.heap.size wr z169) := by unfold Hid; rw [← hzz169]; exact set2b B168.out Gbu.out _ _
           have Fu169 : Hid (ShAt z169 (.agg #[.slice ua sX.fs.length uc, .slice ub sX.pr.length ud]) sX) := by unfold Hid; rw [← hzz169]; exact Fu168.out.off2 Nbu.out _ _
           have Fbu169 : Hid (z169.heap[z167.heap.size]? = some (.cells #[.slice ua sX.fs.length uc, .slice ub sX.pr.length ud] 25 (0, 0))) := by unfold Hid; rw [← hzz169]; exact box_set2 Nbu.out _ _
           clear y0 y1 yf
           clear B168 Fu168 Nbu
           try rw [hzz169]
           clear hzz169
           refine hK.out _ _ (KH.out _ B169.out) (fun hHeld => ?_)
           clear hK
           refine wpAnyH_done (by kernel_rfl) ?_ _
           show K14 _ _
           exact tail.out _ _ _ _ _ _ _ _ _ _ _ _ (Bq.out.trans (B169.out.mono Bq.out.size)) (Qa.out.bel B169.out) (Qv.out.bel B169.out) (bx_bel Qba.out B169.out) (Qw.out.bel B169.out) (Qx.out.bel B169.out) (bx_bel Qbw.out B169.out) (bx_bel Qbx.out B169.out) (Qlb.out.bel B169.out) Fu169.out Fbu169.out
          ·obtain ⟨z167, hzz167⟩ : ∃ W, z166.alloc (.cells #[.slice none 0 0, .slice none 0 0] 25) = W := ⟨_, rfl⟩
           go_simp
           have hb : Below z166.heap.size z166 z167 := by rw [← hzz167]; exact (gr_new _ _).below
           have Nbu : Hid (z167.heap[z166.heap.size]? = some (.cells #[.slice none 0 0, .slice none 0 0] 25 (0, 0))) := by unfold Hid; rw [← hzz167]; exact new_at _ _
           have Gbu : Hid (wr.heap.size ≤ z166.heap.size) := B166.out.size
           have B167 := hid (B166.out.trans (hb.mono B166.out.size))
           have Fnl167 := hid (Fnl166.out.bel hb)
           have Fm167 := hid (Fm166.out.bel hb)
           clear B166 Fnl166 Fm166
           clear hb hzz167
           refine hK.out _ _ (KH.out _ B167.out) (fun hHeld => ?_)
           clear hK
           refine wpAnyH_ready (rs := [6]) (by kernel_rfl) (by simp) ?_
           refine AllReadyH.cons (o := { dst := some 181, op := Op.call { callee := Callee.value (Operand.func 21), args := #[Operand.tmp 178, Operand.tmp 179, Operand.tmp 180], argTypes := #[25, 9, 23] }, type := 25, pos := "law.go:97", after := #[{ on := 3, ground := Ground.data }, { on := 4, ground := Ground.data }, { on := 5, ground := Ground.data }, { on := 3, ground := Ground.chain }], guard := none }) rfl (fun K hK => ?_) AllReadyH.nil
           go_simp
           refine (ostrong_any z167 _ sN n _ l Fm167.out Z.out.Kn (Qv.out.bel B167.out) HL2.out).mono ?_
           rintro e z168 ⟨vu, rfl, hsh, hb⟩
           have B168 := hid (B167.out.trans (hb.mono B167.out.size))
           have Fnl168 := hid (Fnl167.out.bel hb)
           have Fm168 := hid (Fm167.out.bel hb)
           have Fbu168 := hid (bx_bel Nbu.out hb)
           clear B167 Fnl167 Fm167 Nbu
           rw [Z.out.ey] at hsh
           have Fu168 := hid hsh.at
           obtain ⟨ua, uc, ub, ud, hfu⟩ := hsh.at.form
           clear hsh
           subst hfu
           clear hb
           refine hK.out _ _ (KH.out _ B168.out) (fun hHeld => ?_)
           clear hK
           refine wpAnyH_ready (rs := [8]) (by kernel_rfl) (by simp) ?_
           refine AllReadyH.cons (o := { dst := none, op := Op.store 25 (Operand.tmp 16) (Operand.tmp 181), type := 0, pos := "law.go:97", after := #[{ on := 7, ground := Ground.data }, { on := 6, ground := Ground.data }, { on := 6, ground := Ground.chain }, { on := 0, ground := Ground.phase }, { on := 1, ground := Ground.phase }, { on := 2, ground := Ground.phase }, { on := 3, ground := Ground.phase }, { on := 4, ground := Ground.phase }, { on := 5, ground := Ground.phase }, { on := 6, ground := Ground.phase }, { on := 7, ground := Ground.phase }], guard := none }) rfl (fun K hK => ?_) AllReadyH.nil
           obtain ⟨y0, y1, yf⟩ := cells2 Fbu168.out
           go_simp
           obtain ⟨z169, hzz169⟩ : ∃ W, ((z168.setCell ⟨z166.heap.size, 0, none⟩ (.slice ua sX.fs.length uc)).setCell ⟨z166.heap.size, 1, none⟩ (.slice ub sX.pr.length ud)) = W := ⟨_, rfl⟩
           have B169 : Hid (Below wr.heap.size wr z169) := by unfold Hid; rw [← hzz169]; exact set2b B168.out Gbu.out _ _
           have Fu169 : Hid (ShAt z169 (.agg #[.slice ua sX.fs.length uc, .slice ub sX.pr.length ud]) sX) := by unfold Hid; rw [← hzz169]; exact Fu168.out.off2 Fbu168.out _ _
           have Fbu169 : Hid (z169.heap[z166.heap.size]? = some (.cells #[.slice ua sX.fs.length uc, .slice ub sX.pr.length ud] 25 (0, 0))) := by unfold Hid; rw [← hzz169]; exact box_set2 Fbu168.out _ _
           clear y0 y1 yf
           clear B168 Fu168 Fbu168
           try rw [hzz169]
           clear hzz169
           refine hK.out _ _ (KH.out _ B169.out) (fun hHeld => ?_)
           clear hK
           refine wpAnyH_done (by kernel_rfl) ?_ _
           show K14 _ _
           exact tail.out _ _ _ _ _ _ _ _ _ _ _ _ (Bq.out.trans (B169.out.mono Bq.out.size)) (Qa.out.bel B169.out) (Qv.out.bel B169.out) (bx_bel Qba.out B169.out) (Qw.out.bel B169.out) (Qx.out.bel B169.out) (bx_bel Qbw.out B169.out) (bx_bel Qbx.out B169.out) (Qlb.out.bel B169.out) Fu169.out Fbu169.out
         ·obtain ⟨z166, hzz166⟩ : ∃ W, z165.alloc (.cells #[.slice none 0 0, .slice none 0 0] 25) = W := ⟨_, rfl⟩
          go_simp
          have hb : Below z165.heap.size z165 z166 := by rw [← hzz166]; exact (gr_new _ _).below
          have Nbu : Hid (z166.heap[z165.heap.size]? = some (.cells #[.slice none 0 0, .slice none 0 0] 25 (0, 0))) := by unfold Hid; rw [← hzz166]; exact new_at _ _
          have Gbu : Hid (wr.heap.size ≤ z165.heap.size) := B165.out.size
          have B166 := hid (B165.out.trans (hb.mono B165.out.size))
          have Fnl166 := hid (Fnl165.out.bel hb)
          clear B165 Fnl165
          clear hb hzz166
          refine hK.out _ _ (KH.out _ B166.out) (fun hHeld => ?_)
          clear hK
          refine wpAnyH_ready (rs := [3]) (by kernel_rfl) (by simp) ?_
          refine AllReadyH.cons (o := { dst := some 178, op := Op.call { callee := Callee.value (Operand.func 21), args := #[Operand.tmp 175, Operand.tmp 176, Operand.tmp 177], argTypes := #[25, 9, 23] }, type := 25, pos := "law.go:97", after := #[{ on := 0, ground := Ground.data }, { on := 1, ground := Ground.data }, { on := 2, ground := Ground.data }, { on := 2, ground := Ground.chain }], guard := none }) rfl (fun K hK => ?_) AllReadyH.nil
          go_simp
          refine (ostrong_any z166 _ sa n _ M.lnull (Qa.out.bel B166.out) Ka.out Fnl166.out (by decide)).mono ?_
          rintro e z167 ⟨vm, rfl, hsh, hb⟩
          have B167 := hid (B166.out.trans (hb.mono B166.out.size))
          have Fnl167 := hid (Fnl166.out.bel hb)
          have Fbu167 := hid (bx_bel Nbu.out hb)
          clear B166 Fnl166 Nbu
          rw [Z.out.en] at hsh
          have Fm167 := hid hsh.at
          obtain ⟨ma, mc, mb, md, hfm⟩ := hsh.at.form
          clear hsh
          subst hfm
          clear hb
          refine hK.out _ _ (KH.out _ B167.out) (fun hHeld => ?_)
          clear hK
          refine wpAnyH_ready (rs := [6]) (by kernel_rfl) (by simp) ?_
          refine AllReadyH.cons (o := { dst := some 181, op := Op.call { callee := Callee.value (Operand.func 21), args := #[Operand.tmp 178, Operand.tmp 179, Operand.tmp 180], argTypes := #[25, 9, 23] }, type := 25, pos := "law.go:97", after := #[{ on := 3, ground := Ground.data }, { on := 4, ground := Ground.data }, { on := 5, ground := Ground.data }, { on := 3, ground := Ground.chain }], guard := none }) rfl (fun K hK => ?_) AllReadyH.nil
          go_simp
          refine (ostrong_any z167 _ sN n _ l Fm167.out Z.out.Kn (Qv.out.bel B167.out) HL2.out).mono ?_
          rintro e z168 ⟨vu, rfl, hsh, hb⟩
          have B168 := hid (B167.out.trans (hb.mono B167.out.size))
          have Fnl168 := hid (Fnl167.out.bel hb)
          have Fbu168 := hid (bx_bel Fbu167.out hb)
          have Fm168 := hid (Fm167.out.bel hb)
          clear B167 Fnl167 Fbu167 Fm167
          rw [Z.out.ey] at hsh
          have Fu168 := hid hsh.at
          obtain ⟨ua, uc, ub, ud, hfu⟩ := hsh.at.form
          clear hsh
          subst hfu
          clear hb
          refine hK.out _ _ (KH.out _ B168.out) (fun hHeld => ?_)
          clear hK
          refine wpAnyH_ready (rs := [8]) (by kernel_rfl) (by simp) ?_
          refine AllReadyH.cons (o := { dst := none, op := Op.store 25 (Operand.tmp 16) (Operand.tmp 181), type := 0, pos := "law.go:97", after := #[{ on := 7, ground := Ground.data }, { on := 6, ground := Ground.data }, { on := 6, ground := Ground.chain }, { on := 0, ground := Ground.phase }, { on := 1, ground := Ground.phase }, { on := 2, ground := Ground.phase }, { on := 3, ground := Ground.phase }, { on := 4, ground := Ground.phase }, { on := 5, ground := Ground.phase }, { on := 6, ground := Ground.phase }, { on := 7, ground := Ground.phase }], guard := none }) rfl (fun K hK => ?_) AllReadyH.nil
          obtain ⟨y0, y1, yf⟩ := cells2 Fbu168.out
          go_simp
          obtain ⟨z169, hzz169⟩ : ∃ W, ((z168.setCell ⟨z165.heap.size, 0, none⟩ (.slice ua sX.fs.length uc)).setCell ⟨z165.heap.size, 1, none⟩ (.slice ub sX.pr.length ud)) = W := ⟨_, rfl⟩
          have B169 : Hid (Below wr.heap.size wr z169) := by unfold Hid; rw [← hzz169]; exact set2b B168.out Gbu.out _ _
          have Fu169 : Hid (ShAt z169 (.agg #[.slice ua sX.fs.length uc, .slice ub sX.pr.length ud]) sX) := by unfold Hid; rw [← hzz169]; exact Fu168.out.off2 Fbu168.out _ _
          have Fbu169 : Hid (z169.heap[z165.heap.size]? = some (.cells #[.slice ua sX.fs.length uc, .slice ub sX.pr.length ud] 25 (0, 0))) := by unfold Hid; rw [← hzz169]; exact box_set2 Fbu168.out _ _
          clear y0 y1 yf
          clear B168 Fu168 Fbu168
          try rw [hzz169]
          clear hzz169
          refine hK.out _ _ (KH.out _ B169.out) (fun hHeld => ?_)
          clear hK
          refine wpAnyH_done (by kernel_rfl) ?_ _
          show K14 _ _
          exact tail.out _ _ _ _ _ _ _ _ _ _ _ _ (Bq.out.trans (B169.out.mono Bq.out.size)) (Qa.out.bel B169.out) (Qv.out.bel B169.out) (bx_bel Qba.out B169.out) (Qw.out.bel B169.out) (Qx.out.bel B169.out) (bx_bel Qbw.out B169.out) (bx_bel Qbx.out B169.out) (Qlb.out.bel B169.out) Fu169.out Fbu169.out
        ·obtain ⟨z165, hzz165⟩ : ∃ W, wr.drew.alloc (.cells #[.slice none 0 0, .slice none 0 0] 25) = W := ⟨_, rfl⟩
         go_simp
         have hb : Below wr.drew.heap.size wr.drew z165 := by rw [← hzz165]; exact (gr_new _ _).below
         have Nbu : Hid (z165.heap[wr.heap.size]? = some (.cells #[.slice none 0 0, .slice none 0 0] 25 (0, 0))) := by unfold Hid; rw [← hzz165]; exact new_at _ _
         have Gbu : Hid (wr.heap.size ≤ wr.heap.size) := RB0.out.size
         have B165 := hid (RB0.out.trans (hb.mono RB0.out.size))
         clear RB0
         clear hb hzz165
         refine hK.out _ _ (KH.out _ B165.out) (fun hHeld => ?_)
         clear hK
         refine wpAnyH_ready (rs := [2]) (by kernel_rfl) (by simp) ?_
         refine AllReadyH.cons (o := { dst := some 177, op := Op.call { callee := Callee.value (Operand.func 29), args := #[], argTypes := #[] }, type := 23, pos := "law.go:97", after := #[], guard := none }) rfl (fun K hK => ?_) AllReadyH.nil
         go_simp
         refine (null_any z165).mono ?_
         rintro e z166 ⟨qn, mn, rfl, hA, hb⟩
         have B166 := hid (B165.out.trans (hb.mono B165.out.size))
         have Fbu166 := hid (bx_bel Nbu.out hb)
         clear B165 Nbu
         have Fnl166 := hid hA
         clear hA
         clear hb
         refine hK.out _ _ (KH.out _ B166.out) (fun hHeld => ?_)
         clear hK
         refine wpAnyH_ready (rs := [3]) (by kernel_rfl) (by simp) ?_
         refine AllReadyH.cons (o := { dst := some 178, op := Op.call { callee := Callee.value (Operand.func 21), args := #[Operand.tmp 175, Operand.tmp 176, Operand.tmp 177], argTypes := #[25, 9, 23] }, type := 25, pos := "law.go:97", after := #[{ on := 0, ground := Ground.data }, { on := 1, ground := Ground.data }, { on := 2, ground := Ground.data }, { on := 2, ground := Ground.chain }], guard := none }) rfl (fun K hK => ?_) AllReadyH.nil
         go_simp
         refine (ostrong_any z166 _ sa n _ M.lnull (Qa.out.bel B166.out) Ka.out Fnl166.out (by decide)).mono ?_
         rintro e z167 ⟨vm, rfl, hsh, hb⟩
         have B167 := hid (B166.out.trans (hb.mono B166.out.size))
         have Fbu167 := hid (bx_bel Fbu166.out hb)
         have Fnl167 := hid (Fnl166.out.bel hb)
         clear B166 Fbu166 Fnl166
         rw [Z.out.en] at hsh
         have Fm167 := hid hsh.at
         obtain ⟨ma, mc, mb, md, hfm⟩ := hsh.at.form
         clear hsh
         subst hfm
         clear hb
         refine hK.out _ _ (KH.out _ B167.out) (fun hHeld => ?_)
         clear hK
         refine wpAnyH_ready (rs := [6]) (by kernel_rfl) (by simp) ?_
         refine AllReadyH.cons (o := { dst := some 181, op := Op.call { callee := Callee.value (Operand.func 21), args := #[Operand.tmp 178, Operand.tmp 179, Operand.tmp 180], argTypes := #[25, 9, 23] }, type := 25, pos := "law.go:97", after := #[{ on := 3, ground := Ground.data }, { on := 4, ground := Ground.data }, { on := 5, ground := Ground.data }, { on := 3, ground := Ground.chain }], guard := none }) rfl (fun K hK => ?_) AllReadyH.nil
         go_simp
         refine (ostrong_any z167 _ sN n _ l Fm167.out Z.out.Kn (Qv.out.bel B167.out) HL2.out).mono ?_
         rintro e z168 ⟨vu, rfl, hsh, hb⟩
         have B168 := hid (B167.out.trans (hb.mono B167.out.size))
         have Fbu168 := hid (bx_bel Fbu167.out hb)
         have Fnl168 := hid (Fnl167.out.bel hb)
         have Fm168 := hid (Fm167.out.bel hb)
         clear B167 Fbu167 Fnl167 Fm167
         rw [Z.out.ey] at hsh
         have Fu168 := hid hsh.at
         obtain ⟨ua, uc, ub, ud, hfu⟩ := hsh.at.form
         clear hsh
         subst hfu
         clear hb
         refine hK.out _ _ (KH.out _ B168.out) (fun hHeld => ?_)
         clear hK
         refine wpAnyH_ready (rs := [8]) (by kernel_rfl) (by simp) ?_
         refine AllReadyH.cons (o := { dst := none, op := Op.store 25 (Operand.tmp 16) (Operand.tmp 181), type := 0, pos := "law.go:97", after := #[{ on := 7, ground := Ground.data }, { on := 6, ground := Ground.data }, { on := 6, ground := Ground.chain }, { on := 0, ground := Ground.phase }, { on := 1, ground := Ground.phase }, { on := 2, ground := Ground.phase }, { on := 3, ground := Ground.phase }, { on := 4, ground := Ground.phase }, { on := 5, ground := Ground.phase }, { on := 6, ground := Ground.phase }, { on := 7, ground := Ground.phase }], guard := none }) rfl (fun K hK => ?_) AllReadyH.nil
         obtain ⟨y0, y1, yf⟩ := cells2 Fbu168.out
         go_simp
         obtain ⟨z169, hzz169⟩ : ∃ W, ((z168.setCell ⟨wr.heap.size, 0, none⟩ (.slice ua sX.fs.length uc)).setCell ⟨wr.heap.size, 1, none⟩ (.slice ub sX.pr.length ud)) = W := ⟨_, rfl⟩
         have B169 : Hid (Below wr.heap.size wr z169) := by unfold Hid; rw [← hzz169]; exact set2b B168.out Gbu.out _ _
         have Fu169 : Hid (ShAt z169 (.agg #[.slice ua sX.fs.length uc, .slice ub sX.pr.length ud]) sX) := by unfold Hid; rw [← hzz169]; exact Fu168.out.off2 Fbu168.out _ _
         have Fbu169 : Hid (z169.heap[wr.heap.size]? = some (.cells #[.slice ua sX.fs.length uc, .slice ub sX.pr.length ud] 25 (0, 0))) := by unfold Hid; rw [← hzz169]; exact box_set2 Fbu168.out _ _
         clear y0 y1 yf
         clear B168 Fu168 Fbu168
         try rw [hzz169]
         clear hzz169
         refine hK.out _ _ (KH.out _ B169.out) (fun hHeld => ?_)
         clear hK
         refine wpAnyH_done (by kernel_rfl) ?_ _
         show K14 _ _
         exact tail.out _ _ _ _ _ _ _ _ _ _ _ _ (Bq.out.trans (B169.out.mono Bq.out.size)) (Qa.out.bel B169.out) (Qv.out.bel B169.out) (bx_bel Qba.out B169.out) (Qw.out.bel B169.out) (Qx.out.bel B169.out) (bx_bel Qbw.out B169.out) (bx_bel Qbx.out B169.out) (Qlb.out.bel B169.out) Fu169.out Fbu169.out
  as_aux_lemma =>
   refine wp_region_held_drew (S := fun W => W.cell? ⟨w.heap.size, 0, none⟩ = some (.slice aa R.length ca) ∧ W.cell? ⟨w.heap.size, 1, none⟩ = some (.slice ba sa.pr.length da)) (by kernel_rfl) (KH.out _ (Below.refl _ _).drew) (fun hHeld => ?_)
   have hbd : Below w6.heap.size w6 w6.drew := (Gr.refl _).drew.below
   have RB0 := hid hbd
   clear hbd
   refine wpAnyH_take (i := 0) (oi := { dst := some 40, op := Op.load 25 (Operand.tmp 3), type := 25, pos := "law.go:85", after := #[], guard := none }) (v := ?_) rfl (by kernel_rfl) (by kernel_rfl) (by kernel_rfl) (fun _ _ _ h => h) (Or.inl ⟨by rfl, ?_⟩) hHeld ?_
   rotate_left
   ·intro w hSw; (try dsimp only at hSw); go_simp; (try with_reducible rfl)
   simp only [Act.put, List.setIfInBounds_toArray, List.set_cons_zero, List.set_cons_succ]
   refine wpAnyH_take (i := 1) (oi := { dst := some 41, op := Op.move (Operand.tmp 1), type := 9, pos := "law.go:85", after := #[], guard := none }) (v := ?_) rfl (by kernel_rfl) (by kernel_rfl) (by kernel_rfl) (fun _ _ _ h => h) (Or.inl ⟨by rfl, ?_⟩) hHeld ?_
   rotate_left
   ·intro w hSw; (try dsimp only at hSw); go_simp; (try with_reducible rfl)
   simp only [Act.put, List.setIfInBounds_toArray, List.set_cons_zero, List.set_cons_succ]
   refine wpAnyH_take (i := 2) (oi := { dst := some 42, op := Op.move (Operand.tmp 2), type := 23, pos := "law.go:85", after := #[], guard := none }) (v := ?_) rfl (by kernel_rfl) (by kernel_rfl) (by kernel_rfl) (fun _ _ _ h => h) (Or.inl ⟨by rfl, ?_⟩) hHeld ?_
   rotate_left
   ·intro w hSw; (try dsimp only at hSw); go_simp; (try with_reducible rfl)
   simp only [Act.put, List.setIfInBounds_toArray, List.set_cons_zero, List.set_cons_succ]
   refine wpAnyH_take (i := 4) (oi := { dst := some 44, op := Op.load 25 (Operand.tmp 3), type := 25, pos := "law.go:85", after := #[], guard := none }) (v := ?_) rfl (by kernel_rfl) (by kernel_rfl) (by kernel_rfl) (fun _ _ _ h => h) (Or.inl ⟨by rfl, ?_⟩) hHeld ?_
   rotate_left
   ·intro w hSw; (try dsimp only at hSw); go_simp; (try with_reducible rfl)
   simp only [Act.put, List.setIfInBounds_toArray, List.set_cons_zero, List.set_cons_succ]
   refine wpAnyH_take (i := 5) (oi := { dst := some 45, op := Op.move (Operand.tmp 1), type := 9, pos := "law.go:85", after := #[], guard := none }) (v := ?_) rfl (by kernel_rfl) (by kernel_rfl) (by kernel_rfl) (fun _ _ _ h => h) (Or.inl ⟨by rfl, ?_⟩) hHeld ?_
   rotate_left
   ·intro w hSw; (try dsimp only at hSw); go_simp; (try with_reducible rfl)
   simp only [Act.put, List.setIfInBounds_toArray, List.set_cons_zero, List.set_cons_succ]
   refine wpAnyH_take (i := 6) (oi := { dst := some 46, op := Op.move (Operand.tmp 2), type := 23, pos := "law.go:85", after := #[], guard := none }) (v := ?_) rfl (by kernel_rfl) (by kernel_rfl) (by kernel_rfl) (fun _ _ _ h => h) (Or.inl ⟨by rfl, ?_⟩) hHeld ?_
   rotate_left
   ·intro w hSw; (try dsimp only at hSw); go_simp; (try with_reducible rfl)
   simp only [Act.put, List.setIfInBounds_toArray, List.set_cons_zero, List.set_cons_succ]
   refine wpAnyH_ready (rs := [3, 8, 9]) (by kernel_rfl) (by simp) ?_
   refine AllReadyH.cons (o := { dst := some 43, op := Op.call { callee := Callee.value (Operand.func 23), args := #[Operand.tmp 40, Operand.tmp 41, Operand.tmp 42], argTypes := #[25, 9, 23] }, type := 25, pos := "law.go:85", after := #[{ on := 0, ground := Ground.data }, { on := 1, ground := Ground.data }, { on := 2, ground := Ground.data }], guard := none }) rfl (fun K hK => ?_) (AllReadyH.cons (o := { dst := some 7, op := Op.alloc 25, type := 0, pos := "law.go:85", after := #[], guard := none }) rfl (fun K hK => ?_) (AllReadyH.cons (o := { dst := some 8, op := Op.alloc 25, type := 0, pos := "law.go:85", after := #[], guard := none }) rfl (fun K hK => ?_) AllReadyH.nil))
   ·go_simp
    refine (oweak_any w6.drew _ sa n _ l (Fa6.out.bel RB0.out) Ka.out (Fv6.out.bel RB0.out) HL2.out).mono ?_
    rintro e z57 ⟨vw, rfl, hsh, hb⟩
    have B57 := hid (RB0.out.trans (hb.mono RB0.out.size))
    clear RB0
    rw [Z.out.ew] at hsh
    have Fw57 := hid hsh.at
    obtain ⟨wa, wc, wb, wd, hfw⟩ := hsh.at.form
    clear hsh
    subst hfw
    clear hb
    refine hK.out _ _ (KH.out _ B57.out) (fun hHeld => ?_)
    clear hK
    refine wpAnyH_ready (rs := [7, 8, 9]) (by kernel_rfl) (by simp) ?_
    refine AllReadyH.cons (o := { dst := some 47, op := Op.call { callee := Callee.value (Operand.func 21), args := #[Operand.tmp 44, Operand.tmp 45, Operand.tmp 46], argTypes := #[25, 9, 23] }, type := 25, pos := "law.go:85", after := #[{ on := 4, ground := Ground.data }, { on := 5, ground := Ground.data }, { on := 6, ground := Ground.data }, { on := 3, ground := Ground.chain }], guard := none }) rfl (fun K hK => ?_) (AllReadyH.cons (o := { dst := some 7, op := Op.alloc 25, type := 0, pos := "law.go:85", after := #[], guard := none }) rfl (fun K hK => ?_) (AllReadyH.cons (o := { dst := some 8, op := Op.alloc 25, type := 0, pos := "law.go:85", after := #[], guard := none }) rfl (fun K hK => ?_) AllReadyH.nil))
    ·go_simp
     refine (ostrong_any z57 _ sa n _ l (Fa6.out.bel B57.out) Ka.out (Fv6.out.bel B57.out) HL2.out).mono ?_
     rintro e z58 ⟨vx, rfl, hsh, hb⟩
     have B58 := hid (B57.out.trans (hb.mono B57.out.size))
     have Fw58 := hid (Fw57.out.bel hb)
     clear B57 Fw57
     rw [Z.out.ex] at hsh
     have Fx58 := hid hsh.at
     obtain ⟨xa, xc, xb, xd, hfx⟩ := hsh.at.form
     clear hsh
     subst hfx
     clear hb
     refine hK.out _ _ (KH.out _ B58.out) (fun hHeld => ?_)
     clear hK
     refine wpAnyH_ready (rs := [8, 9]) (by kernel_rfl) (by simp) ?_
     refine AllReadyH.cons (o := { dst := some 7, op := Op.alloc 25, type := 0, pos := "law.go:85", after := #[], guard := none }) rfl (fun K hK => ?_) (AllReadyH.cons (o := { dst := some 8, op := Op.alloc 25, type := 0, pos := "law.go:85", after := #[], guard := none }) rfl (fun K hK => ?_) AllReadyH.nil)
     ·obtain ⟨z59, hzz59⟩ : ∃ W, z58.alloc (.cells #[.slice none 0 0, .slice none 0 0] 25) = W := ⟨_, rfl⟩
      go_simp
      have hb : Below z58.heap.size z58 z59 := by rw [← hzz59]; exact (gr_new _ _).below
      have Nbw : Hid (z59.heap[z58.heap.size]? = some (.cells #[.slice none 0 0, .slice none 0 0] 25 (0, 0))) := by unfold Hid; rw [← hzz59]; exact new_at _ _
      have Gbw : Hid (w6.heap.size ≤ z58.heap.size) := B58.out.size
      have B59 := hid (B58.out.trans (hb.mono B58.out.size))
      have Fw59 := hid (Fw58.out.bel hb)
      have Fx59 := hid (Fx58.out.bel hb)
      clear B58 Fw58 Fx58
      clear hb hzz59
      refine hK.out _ _ (KH.out _ B59.out) (fun hHeld => ?_)
      clear hK
      refine wpAnyH_ready (rs := [9]) (by kernel_rfl) (by simp) ?_
      refine AllReadyH.cons (o := { dst := some 8, op := Op.alloc 25, type := 0, pos := "law.go:85", after := #[], guard := none }) rfl (fun K hK => ?_) AllReadyH.nil
      obtain ⟨z60, hzz60⟩ : ∃ W, z59.alloc (.cells #[.slice none 0 0, .slice none 0 0] 25) = W := ⟨_, rfl⟩
      go_simp
      have hb : Below z59.heap.size z59 z60 := by rw [← hzz60]; exact (gr_new _ _).below
      have Nbx : Hid (z60.heap[z59.heap.size]? = some (.cells #[.slice none 0 0, .slice none 0 0] 25 (0, 0))) := by unfold Hid; rw [← hzz60]; exact new_at _ _
      have Gbx : Hid (w6.heap.size ≤ z59.heap.size) := B59.out.size
      have GD : Hid (z58.heap.size < z59.heap.size) := (Array.getElem?_eq_some_iff.1 Nbw.out).1
      have B60 := hid (B59.out.trans (hb.mono B59.out.size))
      have Fw60 := hid (Fw59.out.bel hb)
      have Fx60 := hid (Fx59.out.bel hb)
      have Fbw60 := hid (bx_bel Nbw.out hb)
      clear B59 Fw59 Fx59 Nbw
      clear hb hzz60
      refine hK.out _ _ (KH.out _ B60.out) (fun hHeld => ?_)
      clear hK
      refine wpAnyH_ready (rs := [10]) (by kernel_rfl) (by simp) ?_
      refine AllReadyH.cons (o := { dst := none, op := Op.store 25 (Operand.tmp 7) (Operand.tmp 43), type := 0, pos := "law.go:85", after := #[{ on := 8, ground := Ground.data }, { on := 3, ground := Ground.data }, { on := 7, ground := Ground.chain }, { on := 0, ground := Ground.phase }, { on := 1, ground := Ground.phase }, { on := 2, ground := Ground.phase }, { on := 3, ground := Ground.phase }, { on := 4, ground := Ground.textOnly Departure.lateStores }, { on := 5, ground := Ground.textOnly Departure.lateStores }, { on := 6, ground := Ground.textOnly Departure.lateStores }, { on := 7, ground := Ground.textOnly Departure.lateStoresUnsure }, { on := 8, ground := Ground.phase }, { on := 9, ground := Ground.phase }], guard := none }) rfl (fun K hK => ?_) AllReadyH.nil
      obtain ⟨y0, y1, yf⟩ := cells2 Fbw60.out
      go_simp
      obtain ⟨z61, hzz61⟩ : ∃ W, ((z60.setCell ⟨z58.heap.size, 0, none⟩ (.slice wa sW.fs.length wc)).setCell ⟨z58.heap.size, 1, none⟩ (.slice wb sW.pr.length wd)) = W := ⟨_, rfl⟩
      have B61 : Hid (Below w6.heap.size w6 z61) := by unfold Hid; rw [← hzz61]; exact set2b B60.out Gbw.out _ _
      have Fw61 : Hid (ShAt z61 (.agg #[.slice wa sW.fs.length wc, .slice wb sW.pr.length wd]) sW) := by unfold Hid; rw [← hzz61]; exact Fw60.out.off2 Fbw60.out _ _
      have Fx61 : Hid (ShAt z61 (.agg #[.slice xa sX.fs.length xc, .slice xb sX.pr.length xd]) sX) := by unfold Hid; rw [← hzz61]; exact Fx60.out.off2 Fbw60.out _ _
      have Fbx61 : Hid (z61.heap[z59.heap.size]? = some (.cells #[.slice none 0 0, .slice none 0 0] 25 (0, 0))) := by unfold Hid; rw [← hzz61]; exact (box_off (Nat.ne_of_gt GD.out) _ _).trans Nbx.out
      have Fbw61 : Hid (z61.heap[z58.heap.size]? = some (.cells #[.slice wa sW.fs.length wc, .slice wb sW.pr.length wd] 25 (0, 0))) := by unfold Hid; rw [← hzz61]; exact box_set2 Fbw60.out _ _
      clear y0 y1 yf
      clear B60 Fw60 Fx60 Nbx Fbw60
      try rw [hzz61]
      clear hzz61
      refine hK.out _ _ (KH.out _ B61.out) (fun hHeld => ?_)
      clear hK
      refine wpAnyH_ready (rs := [11]) (by kernel_rfl) (by simp) ?_
      refine AllReadyH.cons (o := { dst := none, op := Op.store 25 (Operand.tmp 8) (Operand.tmp 47), type := 0, pos := "law.go:85", after := #[{ on := 9, ground := Ground.data }, { on := 7, ground := Ground.data }, { on := 10, ground := Ground.chain }, { on := 0, ground := Ground.phase }, { on := 1, ground := Ground.phase }, { on := 2, ground := Ground.phase }, { on := 3, ground := Ground.phase }, { on := 4, ground := Ground.phase }, { on := 5, ground := Ground.phase }, { on := 6, ground := Ground.phase }, { on := 7, ground := Ground.phase }, { on := 8, ground := Ground.phase }, { on := 9, ground := Ground.phase }, { on := 10, ground := Ground.phase }], guard := none }) rfl (fun K hK => ?_) AllReadyH.nil
      obtain ⟨y0, y1, yf⟩ := cells2 Fbx61.out
      go_simp
      obtain ⟨z62, hzz62⟩ : ∃ W, ((z61.setCell ⟨z59.heap.size, 0, none⟩ (.slice xa sX.fs.length xc)).setCell ⟨z59.heap.size, 1, none⟩ (.slice xb sX.pr.length xd)) = W := ⟨_, rfl⟩
      have B62 : Hid (Below w6.heap.size w6 z62) := by unfold Hid; rw [← hzz62]; exact set2b B61.out Gbx.out _ _
      have Fw62 : Hid (ShAt z62 (.agg #[.slice wa sW.fs.length wc, .slice wb sW.pr.length wd]) sW) := by unfold Hid; rw [← hzz62]; exact Fw61.out.off2 Fbx61.out _ _
      have Fx62 : Hid (ShAt z62 (.agg #[.slice xa sX.fs.length xc, .slice xb sX.pr.length xd]) sX) := by unfold Hid; rw [← hzz62]; exact Fx61.out.off2 Fbx61.out _ _
      have Fbw62 : Hid (z62.heap[z58.heap.size]? = some (.cells #[.slice wa sW.fs.length wc, .slice wb sW.pr.length wd] 25 (0, 0))) := by unfold Hid; rw [← hzz62]; exact (box_off (Nat.ne_of_lt GD.out) _ _).trans Fbw61.out
      have Fbx62 : Hid (z62.heap[z59.heap.size]? = some (.cells #[.slice xa sX.fs.length xc, .slice xb sX.pr.length xd] 25 (0, 0))) := by unfold Hid; rw [← hzz62]; exact box_set2 Fbx61.out _ _
      clear y0 y1 yf
      clear B61 Fw61 Fx61 Fbw61 Fbx61
      try rw [hzz62]
      clear hzz62
      refine hK.out _ _ (KH.out _ B62.out) (fun hHeld => ?_)
      clear hK
      refine wpAnyH_done (by kernel_rfl) ?_ _
      show K3 _ _
      exact tail.out _ _ _ _ _ _ _ _ _ _ _ (B6.out.trans (B62.out.mono B6.out.size)) (Fa6.out.bel B62.out) (Fv6.out.bel B62.out) (bx_bel Fba6.out B62.out) Fw62.out Fx62.out Fbw62.out Fbx62.out
     ·obtain ⟨z59, hzz59⟩ : ∃ W, z58.alloc (.cells #[.slice none 0 0, .slice none 0 0] 25) = W := ⟨_, rfl⟩
      go_simp
      have hb : Below z58.heap.size z58 z59 := by rw [← hzz59]; exact (gr_new _ _).below
      have Nbx : Hid (z59.heap[z58.heap.size]? = some (.cells #[.slice none 0 0, .slice none 0 0] 25 (0, 0))) := by unfold Hid; rw [← hzz59]; exact new_at _ _
      have Gbx : Hid (w6.heap.size ≤ z58.heap.size) := B58.out.size
      have B59 := hid (B58.out.trans (hb.mono B58.out.size))
      have Fw59 := hid (Fw58.out.bel hb)
      have Fx59 := hid (Fx58.out.bel hb)
      clear B58 Fw58 Fx58
      clear hb hzz59
      refine hK.out _ _ (KH.out _ B59.out) (fun hHeld => ?_)
      clear hK
      refine wpAnyH_ready (rs := [8]) (by kernel_rfl) (by simp) ?_
      refine AllReadyH.cons (o := { dst := some 7, op := Op.alloc 25, type := 0, pos := "law.go:85", after := #[], guard := none }) rfl (fun K hK => ?_) AllReadyH.nil
      obtain ⟨z60, hzz60⟩ : ∃ W, z59.alloc (.cells #[.slice none 0 0, .slice none 0 0] 25) = W := ⟨_, rfl⟩
      go_simp
      have hb : Below z59.heap.size z59 z60 := by rw [← hzz60]; exact (gr_new _ _).below
      have Nbw : Hid (z60.heap[z59.heap.size]? = some (.cells #[.slice none 0 0, .slice none 0 0] 25 (0, 0))) := by unfold Hid; rw [← hzz60]; exact new_at _ _
      have Gbw : Hid (w6.heap.size ≤ z59.heap.size) := B59.out.size
      have GD : Hid (z58.heap.size < z59.heap.size) := (Array.getElem?_eq_some_iff.1 Nbx.out).1
      have B60 := hid (B59.out.trans (hb.mono B59.out.size))
      have Fw60 := hid (Fw59.out.bel hb)
      have Fx60 := hid (Fx59.out.bel hb)
      have Fbx60 := hid (bx_bel Nbx.out hb)
      clear B59 Fw59 Fx59 Nbx
      clear hb hzz60
      refine hK.out _ _ (KH.out _ B60.out) (fun hHeld => ?_)
      clear hK
      refine wpAnyH_ready (rs := [10]) (by kernel_rfl) (by simp) ?_
      refine AllReadyH.cons (o := { dst := none, op := Op.store 25 (Operand.tmp 7) (Operand.tmp 43), type := 0, pos := "law.go:85", after := #[{ on := 8, ground := Ground.data }, { on := 3, ground := Ground.data }, { on := 7, ground := Ground.chain }, { on := 0, ground := Ground.phase }, { on := 1, ground := Ground.phase }, { on := 2, ground := Ground.phase }, { on := 3, ground := Ground.phase }, { on := 4, ground := Ground.textOnly Departure.lateStores }, { on := 5, ground := Ground.textOnly Departure.lateStores }, { on := 6, ground := Ground.textOnly Departure.lateStores }, { on := 7, ground := Ground.textOnly Departure.lateStoresUnsure }, { on := 8, ground := Ground.phase }, { on := 9, ground := Ground.phase }], guard := none }) rfl (fun K hK => ?_) AllReadyH.nil
      obtain ⟨y0, y1, yf⟩ := cells2 Nbw.out
      go_simp
      obtain ⟨z61, hzz61⟩ : ∃ W, ((z60.setCell ⟨z59.heap.size, 0, none⟩ (.slice wa sW.fs.length wc)).setCell ⟨z59.heap.size, 1, none⟩ (.slice wb sW.pr.length wd)) = W := ⟨_, rfl⟩
      have B61 : Hid (Below w6.heap.size w6 z61) := by unfold Hid; rw [← hzz61]; exact set2b B60.out Gbw.out _ _
      have Fw61 : Hid (ShAt z61 (.agg #[.slice wa sW.fs.length wc, .slice wb sW.pr.length wd]) sW) := by unfold Hid; rw [← hzz61]; exact Fw60.out.off2 Nbw.out _ _
      have Fx61 : Hid (ShAt z61 (.agg #[.slice xa sX.fs.length xc, .slice xb sX.pr.length xd]) sX) := by unfold Hid; rw [← hzz61]; exact Fx60.out.off2 Nbw.out _ _
      have Fbx61 : Hid (z61.heap[z58.heap.size]? = some (.cells #[.slice none 0 0, .slice none 0 0] 25 (0, 0))) := by unfold Hid; rw [← hzz61]; exact (box_off (Nat.ne_of_lt GD.out) _ _).trans Fbx60.out
      have Fbw61 : Hid (z61.heap[z59.heap.size]? = some (.cells #[.slice wa sW.fs.length wc, .slice wb sW.pr.length wd] 25 (0, 0))) := by unfold Hid; rw [← hzz61]; exact box_set2 Nbw.out _ _
      clear y0 y1 yf
      clear B60 Fw60 Fx60 Fbx60 Nbw
      try rw [hzz61]
      clear hzz61
      refine hK.out _ _ (KH.out _ B61.out) (fun hHeld => ?_)
      clear hK
      refine wpAnyH_ready (rs := [11]) (by kernel_rfl) (by simp) ?_
      refine AllReadyH.cons (o := { dst := none, op := Op.store 25 (Operand.tmp 8) (Operand.tmp 47), type := 0, pos := "law.go:85", after := #[{ on := 9, ground := Ground.data }, { on := 7, ground := Ground.data }, { on := 10, ground := Ground.chain }, { on := 0, ground := Ground.phase }, { on := 1, ground := Ground.phase }, { on := 2, ground := Ground.phase }, { on := 3, ground := Ground.phase }, { on := 4, ground := Ground.phase }, { on := 5, ground := Ground.phase }, { on := 6, ground := Ground.phase }, { on := 7, ground := Ground.phase }, { on := 8, ground := Ground.phase }, { on := 9, ground := Ground.phase }, { on := 10, ground := Ground.phase }], guard := none }) rfl (fun K hK => ?_) AllReadyH.nil
      obtain ⟨y0, y1, yf⟩ := cells2 Fbx61.out
      go_simp
      obtain ⟨z62, hzz62⟩ : ∃ W, ((z61.setCell ⟨z58.heap.size, 0, none⟩ (.slice xa sX.fs.length xc)).setCell ⟨z58.heap.size, 1, none⟩ (.slice xb sX.pr.length xd)) = W := ⟨_, rfl⟩
      have B62 : Hid (Below w6.heap.size w6 z62) := by unfold Hid; rw [← hzz62]; exact set2b B61.out Gbx.out _ _
      have Fw62 : Hid (ShAt z62 (.agg #[.slice wa sW.fs.length wc, .slice wb sW.pr.length wd]) sW) := by unfold Hid; rw [← hzz62]; exact Fw61.out.off2 Fbx61.out _ _
      have Fx62 : Hid (ShAt z62 (.agg #[.slice xa sX.fs.length xc, .slice xb sX.pr.length xd]) sX) := by unfold Hid; rw [← hzz62]; exact Fx61.out.off2 Fbx61.out _ _
      have Fbw62 : Hid (z62.heap[z59.heap.size]? = some (.cells #[.slice wa sW.fs.length wc, .slice wb sW.pr.length wd] 25 (0, 0))) := by unfold Hid; rw [← hzz62]; exact (box_off (Nat.ne_of_gt GD.out) _ _).trans Fbw61.out
      have Fbx62 : Hid (z62.heap[z58.heap.size]? = some (.cells #[.slice xa sX.fs.length xc, .slice xb sX.pr.length xd] 25 (0, 0))) := by unfold Hid; rw [← hzz62]; exact box_set2 Fbx61.out _ _
      clear y0 y1 yf
      clear B61 Fw61 Fx61 Fbw61 Fbx61
      try rw [hzz62]
      clear hzz62
      refine hK.out _ _ (KH.out _ B62.out) (fun hHeld => ?_)
      clear hK
      refine wpAnyH_done (by kernel_rfl) ?_ _
      show K3 _ _
      exact tail.out _ _ _ _ _ _ _ _ _ _ _ (B6.out.trans (B62.out.mono B6.out.size)) (Fa6.out.bel B62.out) (Fv6.out.bel B62.out) (bx_bel Fba6.out B62.out) Fw62.out Fx62.out Fbw62.out Fbx62.out
    ·obtain ⟨z58, hzz58⟩ : ∃ W, z57.alloc (.cells #[.slice none 0 0, .slice none 0 0] 25) = W := ⟨_, rfl⟩
     go_simp
     have hb : Below z57.heap.size z57 z58 := by rw [← hzz58]; exact (gr_new _ _).below
     have Nbw : Hid (z58.heap[z57.heap.size]? = some (.cells #[.slice none 0 0, .slice none 0 0] 25 (0, 0))) := by unfold Hid; rw [← hzz58]; exact new_at _ _
     have Gbw : Hid (w6.heap.size ≤ z57.heap.size) := B57.out.size
     have B58 := hid (B57.out.trans (hb.mono B57.out.size))
     have Fw58 := hid (Fw57.out.bel hb)
     clear B57 Fw57
     clear hb hzz58
     refine hK.out _ _ (KH.out _ B58.out) (fun hHeld => ?_)
     clear hK
     refine wpAnyH_ready (rs := [7, 9]) (by kernel_rfl) (by simp) ?_
     refine AllReadyH.cons (o := { dst := some 47, op := Op.call { callee := Callee.value (Operand.func 21), args := #[Operand.tmp 44, Operand.tmp 45, Operand.tmp 46], argTypes := #[25, 9, 23] }, type := 25, pos := "law.go:85", after := #[{ on := 4, ground := Ground.data }, { on := 5, ground := Ground.data }, { on := 6, ground := Ground.data }, { on := 3, ground := Ground.chain }], guard := none }) rfl (fun K hK => ?_) (AllReadyH.cons (o := { dst := some 8, op := Op.alloc 25, type := 0, pos := "law.go:85", after := #[], guard := none }) rfl (fun K hK => ?_) AllReadyH.nil)
     ·go_simp
      refine (ostrong_any z58 _ sa n _ l (Fa6.out.bel B58.out) Ka.out (Fv6.out.bel B58.out) HL2.out).mono ?_
      rintro e z59 ⟨vx, rfl, hsh, hb⟩
      have B59 := hid (B58.out.trans (hb.mono B58.out.size))
      have Fw59 := hid (Fw58.out.bel hb)
      have Fbw59 := hid (bx_bel Nbw.out hb)
      clear B58 Fw58 Nbw
      rw [Z.out.ex] at hsh
      have Fx59 := hid hsh.at
      obtain ⟨xa, xc, xb, xd, hfx⟩ := hsh.at.form
      clear hsh
      subst hfx
      clear hb
      refine hK.out _ _ (KH.out _ B59.out) (fun hHeld => ?_)
      clear hK
      refine wpAnyH_ready (rs := [9]) (by kernel_rfl) (by simp) ?_
      refine AllReadyH.cons (o := { dst := some 8, op := Op.alloc 25, type := 0, pos := "law.go:85", after := #[], guard := none }) rfl (fun K hK => ?_) AllReadyH.nil
      obtain ⟨z60, hzz60⟩ : ∃ W, z59.alloc (.cells #[.slice none 0 0, .slice none 0 0] 25) = W := ⟨_, rfl⟩
      go_simp
      have hb : Below z59.heap.size z59 z60 := by rw [← hzz60]; exact (gr_new _ _).below
      have Nbx : Hid (z60.heap[z59.heap.size]? = some (.cells #[.slice none 0 0, .slice none 0 0] 25 (0, 0))) := by unfold Hid; rw [← hzz60]; exact new_at _ _
      have Gbx : Hid (w6.heap.size ≤ z59.heap.size) := B59.out.size
      have GD : Hid (z57.heap.size < z59.heap.size) := (Array.getElem?_eq_some_iff.1 Fbw59.out).1
      have B60 := hid (B59.out.trans (hb.mono B59.out.size))
      have Fw60 := hid (Fw59.out.bel hb)
      have Fbw60 := hid (bx_bel Fbw59.out hb)
      have Fx60 := hid (Fx59.out.bel hb)
      clear B59 Fw59 Fbw59 Fx59
      clear hb hzz60
      refine hK.out _ _ (KH.out _ B60.out) (fun hHeld => ?_)
      clear hK
      refine wpAnyH_ready (rs := [10]) (by kernel_rfl) (by simp) ?_
      refine AllReadyH.cons (o := { dst := none, op := Op.store 25 (Operand.tmp 7) (Operand.tmp 43), type := 0, pos := "law.go:85", after := #[{ on := 8, ground := Ground.data }, { on := 3, ground := Ground.data }, { on := 7, ground := Ground.chain }, { on := 0, ground := Ground.phase }, { on := 1, ground := Ground.phase }, { on := 2, ground := Ground.phase }, { on := 3, ground := Ground.phase }, { on := 4, ground := Ground.textOnly Departure.lateStores }, { on := 5, ground := Ground.textOnly Departure.lateStores }, { on := 6, ground := Ground.textOnly Departure.lateStores }, { on := 7, ground := Ground.textOnly Departure.lateStoresUnsure }, { on := 8, ground := Ground.phase }, { on := 9, ground := Ground.phase }], guard := none }) rfl (fun K hK => ?_) AllReadyH.nil
      obtain ⟨y0, y1, yf⟩ := cells2 Fbw60.out
      go_simp
      obtain ⟨z61, hzz61⟩ : ∃ W, ((z60.setCell ⟨z57.heap.size, 0, none⟩ (.slice wa sW.fs.length wc)).setCell ⟨z57.heap.size, 1, none⟩ (.slice wb sW.pr.length wd)) = W := ⟨_, rfl⟩
      have B61 : Hid (Below w6.heap.size w6 z61) := by unfold Hid; rw [← hzz61]; exact set2b B60.out Gbw.out _ _
      have Fw61 : Hid (ShAt z61 (.agg #[.slice wa sW.fs.length wc, .slice wb sW.pr.length wd]) sW) := by unfold Hid; rw [← hzz61]; exact Fw60.out.off2 Fbw60.out _ _
      have Fx61 : Hid (ShAt z61 (.agg #[.slice xa sX.fs.length xc, .slice xb sX.pr.length xd]) sX) := by unfold Hid; rw [← hzz61]; exact Fx60.out.off2 Fbw60.out _ _
      have Fbx61 : Hid (z61.heap[z59.heap.size]? = some (.cells #[.slice none 0 0, .slice none 0 0] 25 (0, 0))) := by unfold Hid; rw [← hzz61]; exact (box_off (Nat.ne_of_gt GD.out) _ _).trans Nbx.out
      have Fbw61 : Hid (z61.heap[z57.heap.size]? = some (.cells #[.slice wa sW.fs.length wc, .slice wb sW.pr.length wd] 25 (0, 0))) := by unfold Hid; rw [← hzz61]; exact box_set2 Fbw60.out _ _
      clear y0 y1 yf
      clear B60 Fw60 Fx60 Nbx Fbw60
      try rw [hzz61]
      clear hzz61
      refine hK.out _ _ (KH.out _ B61.out) (fun hHeld => ?_)
      clear hK
      refine wpAnyH_ready (rs := [11]) (by kernel_rfl) (by simp) ?_
      refine AllReadyH.cons (o := { dst := none, op := Op.store 25 (Operand.tmp 8) (Operand.tmp 47), type := 0, pos := "law.go:85", after := #[{ on := 9, ground := Ground.data }, { on := 7, ground := Ground.data }, { on := 10, ground := Ground.chain }, { on := 0, ground := Ground.phase }, { on := 1, ground := Ground.phase }, { on := 2, ground := Ground.phase }, { on := 3, ground := Ground.phase }, { on := 4, ground := Ground.phase }, { on := 5, ground := Ground.phase }, { on := 6, ground := Ground.phase }, { on := 7, ground := Ground.phase }, { on := 8, ground := Ground.phase }, { on := 9, ground := Ground.phase }, { on := 10, ground := Ground.phase }], guard := none }) rfl (fun K hK => ?_) AllReadyH.nil
      obtain ⟨y0, y1, yf⟩ := cells2 Fbx61.out
      go_simp
      obtain ⟨z62, hzz62⟩ : ∃ W, ((z61.setCell ⟨z59.heap.size, 0, none⟩ (.slice xa sX.fs.length xc)).setCell ⟨z59.heap.size, 1, none⟩ (.slice xb sX.pr.length xd)) = W := ⟨_, rfl⟩
      have B62 : Hid (Below w6.heap.size w6 z62) := by unfold Hid; rw [← hzz62]; exact set2b B61.out Gbx.out _ _
      have Fw62 : Hid (ShAt z62 (.agg #[.slice wa sW.fs.length wc, .slice wb sW.pr.length wd]) sW) := by unfold Hid; rw [← hzz62]; exact Fw61.out.off2 Fbx61.out _ _
      have Fx62 : Hid (ShAt z62 (.agg #[.slice xa sX.fs.length xc, .slice xb sX.pr.length xd]) sX) := by unfold Hid; rw [← hzz62]; exact Fx61.out.off2 Fbx61.out _ _
      have Fbw62 : Hid (z62.heap[z57.heap.size]? = some (.cells #[.slice wa sW.fs.length wc, .slice wb sW.pr.length wd] 25 (0, 0))) := by unfold Hid; rw [← hzz62]; exact (box_off (Nat.ne_of_lt GD.out) _ _).trans Fbw61.out
      have Fbx62 : Hid (z62.heap[z59.heap.size]? = some (.cells #[.slice xa sX.fs.length xc, .slice xb sX.pr.length xd] 25 (0, 0))) := by unfold Hid; rw [← hzz62]; exact box_set2 Fbx61.out _ _
      clear y0 y1 yf
      clear B61 Fw61 Fx61 Fbw61 Fbx61
      try rw [hzz62]
      clear hzz62
      refine hK.out _ _ (KH.out _ B62.out) (fun hHeld => ?_)
      clear hK
      refine wpAnyH_done (by kernel_rfl) ?_ _
      show K3 _ _
      exact tail.out _ _ _ _ _ _ _ _ _ _ _ (B6.out.trans (B62.out.mono B6.out.size)) (Fa6.out.bel B62.out) (Fv6.out.bel B62.out) (bx_bel Fba6.out B62.out) Fw62.out Fx62.out Fbw62.out Fbx62.out
     ·obtain ⟨z59, hzz59⟩ : ∃ W, z58.alloc (.cells #[.slice none 0 0, .slice none 0 0] 25) = W := ⟨_, rfl⟩
      go_simp
      have hb : Below z58.heap.size z58 z59 := by rw [← hzz59]; exact (gr_new _ _).below
      have Nbx : Hid (z59.heap[z58.heap.size]? = some (.cells #[.slice none 0 0, .slice none 0 0] 25 (0, 0))) := by unfold Hid; rw [← hzz59]; exact new_at _ _
      have Gbx : Hid (w6.heap.size ≤ z58.heap.size) := B58.out.size
      have GD : Hid (z57.heap.size < z58.heap.size) := (Array.getElem?_eq_some_iff.1 Nbw.out).1
      have B59 := hid (B58.out.trans (hb.mono B58.out.size))
      have Fw59 := hid (Fw58.out.bel hb)
      have Fbw59 := hid (bx_bel Nbw.out hb)
      clear B58 Fw58 Nbw
      clear hb hzz59
      refine hK.out _ _ (KH.out _ B59.out) (fun hHeld => ?_)
      clear hK
      refine wpAnyH_ready (rs := [7]) (by kernel_rfl) (by simp) ?_
      refine AllReadyH.cons (o := { dst := some 47, op := Op.call { callee := Callee.value (Operand.func 21), args := #[Operand.tmp 44, Operand.tmp 45, Operand.tmp 46], argTypes := #[25, 9, 23] }, type := 25, pos := "law.go:85", after := #[{ on := 4, ground := Ground.data }, { on := 5, ground := Ground.data }, { on := 6, ground := Ground.data }, { on := 3, ground := Ground.chain }], guard := none }) rfl (fun K hK => ?_) AllReadyH.nil
      go_simp
      refine (ostrong_any z59 _ sa n _ l (Fa6.out.bel B59.out) Ka.out (Fv6.out.bel B59.out) HL2.out).mono ?_
      rintro e z60 ⟨vx, rfl, hsh, hb⟩
      have B60 := hid (B59.out.trans (hb.mono B59.out.size))
      have Fw60 := hid (Fw59.out.bel hb)
      have Fbw60 := hid (bx_bel Fbw59.out hb)
      have Fbx60 := hid (bx_bel Nbx.out hb)
      clear B59 Fw59 Fbw59 Nbx
      rw [Z.out.ex] at hsh
      have Fx60 := hid hsh.at
      obtain ⟨xa, xc, xb, xd, hfx⟩ := hsh.at.form
      clear hsh
      subst hfx
      clear hb
      refine hK.out _ _ (KH.out _ B60.out) (fun hHeld => ?_)
      clear hK
      refine wpAnyH_ready (rs := [10]) (by kernel_rfl) (by simp) ?_
      refine AllReadyH.cons (o := { dst := none, op := Op.store 25 (Operand.tmp 7) (Operand.tmp 43), type := 0, pos := "law.go:85", after := #[{ on := 8, ground := Ground.data }, { on := 3, ground := Ground.data }, { on := 7, ground := Ground.chain }, { on := 0, ground := Ground.phase }, { on := 1, ground := Ground.phase }, { on := 2, ground := Ground.phase }, { on := 3, ground := Ground.phase }, { on := 4, ground := Ground.textOnly Departure.lateStores }, { on := 5, ground := Ground.textOnly Departure.lateStores }, { on := 6, ground := Ground.textOnly Departure.lateStores }, { on := 7, ground := Ground.textOnly Departure.lateStoresUnsure }, { on := 8, ground := Ground.phase }, { on := 9, ground := Ground.phase }], guard := none }) rfl (fun K hK => ?_) AllReadyH.nil
      obtain ⟨y0, y1, yf⟩ := cells2 Fbw60.out
      go_simp
      obtain ⟨z61, hzz61⟩ : ∃ W, ((z60.setCell ⟨z57.heap.size, 0, none⟩ (.slice wa sW.fs.length wc)).setCell ⟨z57.heap.size, 1, none⟩ (.slice wb sW.pr.length wd)) = W := ⟨_, rfl⟩
      have B61 : Hid (Below w6.heap.size w6 z61) := by unfold Hid; rw [← hzz61]; exact set2b B60.out Gbw.out _ _
      have Fw61 : Hid (ShAt z61 (.agg #[.slice wa sW.fs.length wc, .slice wb sW.pr.length wd]) sW) := by unfold Hid; rw [← hzz61]; exact Fw60.out.off2 Fbw60.out _ _
      have Fx61 : Hid (ShAt z61 (.agg #[.slice xa sX.fs.length xc, .slice xb sX.pr.length xd]) sX) := by unfold Hid; rw [← hzz61]; exact Fx60.out.off2 Fbw60.out _ _
      have Fbx61 : Hid (z61.heap[z58.heap.size]? = some (.cells #[.slice none 0 0, .slice none 0 0] 25 (0, 0))) := by unfold Hid; rw [← hzz61]; exact (box_off (Nat.ne_of_gt GD.out) _ _).trans Fbx60.out
      have Fbw61 : Hid (z61.heap[z57.heap.size]? = some (.cells #[.slice wa sW.fs.length wc, .slice wb sW.pr.length wd] 25 (0, 0))) := by unfold Hid; rw [← hzz61]; exact box_set2 Fbw60.out _ _
      clear y0 y1 yf
      clear B60 Fw60 Fx60 Fbx60 Fbw60
      try rw [hzz61]
      clear hzz61
      refine hK.out _ _ (KH.out _ B61.out) (fun hHeld => ?_)
      clear hK
      refine wpAnyH_ready (rs := [11]) (by kernel_rfl) (by simp) ?_
      refine AllReadyH.cons (o := { dst := none, op := Op.store 25 (Operand.tmp 8) (Operand.tmp 47), type := 0, pos := "law.go:85", after := #[{ on := 9, ground := Ground.data }, { on := 7, ground := Ground.data }, { on := 10, ground := Ground.chain }, { on := 0, ground := Ground.phase }, { on := 1, ground := Ground.phase }, { on := 2, ground := Ground.phase }, { on := 3, ground := Ground.phase }, { on := 4, ground := Ground.phase }, { on := 5, ground := Ground.phase }, { on := 6, ground := Ground.phase }, { on := 7, ground := Ground.phase }, { on := 8, ground := Ground.phase }, { on := 9, ground := Ground.phase }, { on := 10, ground := Ground.phase }], guard := none }) rfl (fun K hK => ?_) AllReadyH.nil
      obtain ⟨y0, y1, yf⟩ := cells2 Fbx61.out
      go_simp
      obtain ⟨z62, hzz62⟩ : ∃ W, ((z61.setCell ⟨z58.heap.size, 0, none⟩ (.slice xa sX.fs.length xc)).setCell ⟨z58.heap.size, 1, none⟩ (.slice xb sX.pr.length xd)) = W := ⟨_, rfl⟩
      have B62 : Hid (Below w6.heap.size w6 z62) := by unfold Hid; rw [← hzz62]; exact set2b B61.out Gbx.out _ _
      have Fw62 : Hid (ShAt z62 (.agg #[.slice wa sW.fs.length wc, .slice wb sW.pr.length wd]) sW) := by unfold Hid; rw [← hzz62]; exact Fw61.out.off2 Fbx61.out _ _
      have Fx62 : Hid (ShAt z62 (.agg #[.slice xa sX.fs.length xc, .slice xb sX.pr.length xd]) sX) := by unfold Hid; rw [← hzz62]; exact Fx61.out.off2 Fbx61.out _ _
      have Fbw62 : Hid (z62.heap[z57.heap.size]? = some (.cells #[.slice wa sW.fs.length wc, .slice wb sW.pr.length wd] 25 (0, 0))) := by unfold Hid; rw [← hzz62]; exact (box_off (Nat.ne_of_lt GD.out) _ _).trans Fbw61.out
      have Fbx62 : Hid (z62.heap[z58.heap.size]? = some (.cells #[.slice xa sX.fs.length xc, .slice xb sX.pr.length xd] 25 (0, 0))) := by unfold Hid; rw [← hzz62]; exact box_set2 Fbx61.out _ _
      clear y0 y1 yf
      clear B61 Fw61 Fx61 Fbw61 Fbx61
      try rw [hzz62]
      clear hzz62
      refine hK.out _ _ (KH.out _ B62.out) (fun hHeld => ?_)
      clear hK
      refine wpAnyH_done (by kernel_rfl) ?_ _
      show K3 _ _
      exact tail.out _ _ _ _ _ _ _ _ _ _ _ (B6.out.trans (B62.out.mono B6.out.size)) (Fa6.out.bel B62.out) (Fv6.out.bel B62.out) (bx_bel Fba6.out B62.out) Fw62.out Fx62.out Fbw62.out Fbx62.out
    ·obtain ⟨z58, hzz58⟩ : ∃ W, z57.alloc (.cells #[.slice none 0 0, .slice none 0 0] 25) = W := ⟨_, rfl⟩
     go_simp
     have hb : Below z57.heap.size z57 z58 := by rw [← hzz58]; exact (gr_new _ _).below
     have Nbx : Hid (z58.heap[z57.heap.size]? = some (.cells #[.slice none 0 0, .slice none 0 0] 25 (0, 0))) := by unfold Hid; rw [← hzz58]; exact new_at _ _
     have Gbx : Hid (w6.heap.size ≤ z57.heap.size) := B57.out.size
     have B58 := hid (B57.out.trans (hb.mono B57.out.size))
     have Fw58 := hid (Fw57.out.bel hb)
     clear B57 Fw57
     clear hb hzz58
     refine hK.out _ _ (KH.out _ B58.out) (fun hHeld => ?_)
     clear hK
     refine wpAnyH_ready (rs := [7, 8]) (by kernel_rfl) (by simp) ?_
     refine AllReadyH.cons (o := { dst := some 47, op := Op.call { callee := Callee.value (Operand.func 21), args := #[Operand.tmp 44, Operand.tmp 45, Operand.tmp 46], argTypes := #[25, 9, 23] }, type := 25, pos := "law.go:85", after := #[{ on := 4, ground := Ground.data }, { on := 5, ground := Ground.data }, { on := 6, ground := Ground.data }, { on := 3, ground := Ground.chain }], guard := none }) rfl (fun K hK => ?_) (AllReadyH.cons (o := { dst := some 7, op := Op.alloc 25, type := 0, pos := "law.go:85", after := #[], guard := none }) rfl (fun K hK => ?_) AllReadyH.nil)
     ·go_simp
      refine (ostrong_any z58 _ sa n _ l (Fa6.out.bel B58.out) Ka.out (Fv6.out.bel B58.out) HL2.out).mono ?_
      rintro e z59 ⟨vx, rfl, hsh, hb⟩
      have B59 := hid (B58.out.trans (hb.mono B58.out.size))
      have Fw59 := hid (Fw58.out.bel hb)
      have Fbx59 := hid (bx_bel Nbx.out hb)
      clear B58 Fw58 Nbx
      rw [Z.out.ex] at hsh
      have Fx59 := hid hsh.at
      obtain ⟨xa, xc, xb, xd, hfx⟩ := hsh.at.form
      clear hsh
      subst hfx
      clear hb
      refine hK.out _ _ (KH.out _ B59.out) (fun hHeld => ?_)
      clear hK
      refine wpAnyH_ready (rs := [8]) (by kernel_rfl) (by simp) ?_
      refine AllReadyH.cons (o := { dst := some 7, op := Op.alloc 25, type := 0, pos := "law.go:85", after := #[], guard := none }) rfl (fun K hK => ?_) AllReadyH.nil
      obtain ⟨z60, hzz60⟩ : ∃ W, z59.alloc (.cells #[.slice none 0 0, .slice none 0 0] 25) = W := ⟨_, rfl⟩
      go_simp
      have hb : Below z59.heap.size z59 z60 := by rw [← hzz60]; exact (gr_new _ _).below
      have Nbw : Hid (z60.heap[z59.heap.size]? = some (.cells #[.slice none 0 0, .slice none 0 0] 25 (0, 0))) := by unfold Hid; rw [← hzz60]; exact new_at _ _
      have Gbw : Hid (w6.heap.size ≤ z59.heap.size) := B59.out.size
      have GD : Hid (z57.heap.size < z59.heap.size) := (Array.getElem?_eq_some_iff.1 Fbx59.out).1
      have B60 := hid (B59.out.trans (hb.mono B59.out.size))
      have Fw60 := hid (Fw59.out.bel hb)
      have Fbx60 := hid (bx_bel Fbx59.out hb)
      have Fx60 := hid (Fx59.out.bel hb)
      clear B59 Fw59 Fbx59 Fx59
      clear hb hzz60
      refine hK.out _ _ (KH.out _ B60.out) (fun hHeld => ?_)
      clear hK
      refine wpAnyH_ready (rs := [10]) (by kernel_rfl) (by simp) ?_
      refine AllReadyH.cons (o := { dst := none, op := Op.store 25 (Operand.tmp 7) (Operand.tmp 43), type := 0, pos := "law.go:85", after := #[{ on := 8, ground := Ground.data }, { on := 3, ground := Ground.data }, { on := 7, ground := Ground.chain }, { on := 0, ground := Ground.phase }, { on := 1, ground := Ground.phase }, { on := 2, ground := Ground.phase }, { on := 3, ground := Ground.phase }, { on := 4, ground := Ground.textOnly Departure.lateStores }, { on := 5, ground := Ground.textOnly Departure.lateStores }, { on := 6, ground := Ground.textOnly Departure.lateStores }, { on := 7, ground := Ground.textOnly Departure.lateStoresUnsure }, { on := 8, ground := Ground.phase }, { on := 9, ground := Ground.phase }], guard := none }) rfl (fun K hK => ?_) AllReadyH.nil
      obtain ⟨y0, y1, yf⟩ := cells2 Nbw.out
      go_simp
      obtain ⟨z61, hzz61⟩ : ∃ W, ((z60.setCell ⟨z59.heap.size, 0, none⟩ (.slice wa sW.fs.length wc)).setCell ⟨z59.heap.size, 1, none⟩ (.slice wb sW.pr.length wd)) = W := ⟨_, rfl⟩
      have B61 : Hid (Below w6.heap.size w6 z61) := by unfold Hid; rw [← hzz61]; exact set2b B60.out Gbw.out _ _
      have Fw61 : Hid (ShAt z61 (.agg #[.slice wa sW.fs.length wc, .slice wb sW.pr.length wd]) sW) := by unfold Hid; rw [← hzz61]; exact Fw60.out.off2 Nbw.out _ _
      have Fx61 : Hid (ShAt z61 (.agg #[.slice xa sX.fs.length xc, .slice xb sX.pr.length xd]) sX) := by unfold Hid; rw [← hzz61]; exact Fx60.out.off2 Nbw.out _ _
      have Fbx61 : Hid (z61.heap[z57.heap.size]? = some (.cells #[.slice none 0 0, .slice none 0 0] 25 (0, 0))) := by unfold Hid; rw [← hzz61]; exact (box_off (Nat.ne_of_lt GD.out) _ _).trans Fbx60.out
      have Fbw61 : Hid (z61.heap[z59.heap.size]? = some (.cells #[.slice wa sW.fs.length wc, .slice wb sW.pr.length wd] 25 (0, 0))) := by unfold Hid; rw [← hzz61]; exact box_set2 Nbw.out _ _
      clear y0 y1 yf
      clear B60 Fw60 Fx60 Fbx60 Nbw
      try rw [hzz61]
      clear hzz61
      refine hK.out _ _ (KH.out _ B61.out) (fun hHeld => ?_)
      clear hK
      refine wpAnyH_ready (rs := [11]) (by kernel_rfl) (by simp) ?_
      refine AllReadyH.cons (o := { dst := none, op := Op.store 25 (Operand.tmp 8) (Operand.tmp 47), type := 0, pos := "law.go:85", after := #[{ on := 9, ground := Ground.data }, { on := 7, ground := Ground.data }, { on := 10, ground := Ground.chain }, { on := 0, ground := Ground.phase }, { on := 1, ground := Ground.phase }, { on := 2, ground := Ground.phase }, { on := 3, ground := Ground.phase }, { on := 4, ground := Ground.phase }, { on := 5, ground := Ground.phase }, { on := 6, ground := Ground.phase }, { on := 7, ground := Ground.phase }, { on := 8, ground := Ground.phase }, { on := 9, ground := Ground.phase }, { on := 10, ground := Ground.phase }], guard := none }) rfl (fun K hK => ?_) AllReadyH.nil
      obtain ⟨y0, y1, yf⟩ := cells2 Fbx61.out
      go_simp
      obtain ⟨z62, hzz62⟩ : ∃ W, ((z61.setCell ⟨z57.heap.size, 0, none⟩ (.slice xa sX.fs.length xc)).setCell ⟨z57.heap.size, 1, none⟩ (.slice xb sX.pr.length xd)) = W := ⟨_, rfl⟩
      have B62 : Hid (Below w6.heap.size w6 z62) := by unfold Hid; rw [← hzz62]; exact set2b B61.out Gbx.out _ _
      have Fw62 : Hid (ShAt z62 (.agg #[.slice wa sW.fs.length wc, .slice wb sW.pr.length wd]) sW) := by unfold Hid; rw [← hzz62]; exact Fw61.out.off2 Fbx61.out _ _
      have Fx62 : Hid (ShAt z62 (.agg #[.slice xa sX.fs.length xc, .slice xb sX.pr.length xd]) sX) := by unfold Hid; rw [← hzz62]; exact Fx61.out.off2 Fbx61.out _ _
      have Fbw62 : Hid (z62.heap[z59.heap.size]? = some (.cells #[.slice wa sW.fs.length wc, .slice wb sW.pr.length wd] 25 (0, 0))) := by unfold Hid; rw [← hzz62]; exact (box_off (Nat.ne_of_gt GD.out) _ _).trans Fbw61.out
      have Fbx62 : Hid (z62.heap[z57.heap.size]? = some (.cells #[.slice xa sX.fs.length xc, .slice xb sX.pr.length xd] 25 (0, 0))) := by unfold Hid; rw [← hzz62]; exact box_set2 Fbx61.out _ _
      clear y0 y1 yf
      clear B61 Fw61 Fx61 Fbw61 Fbx61
      try rw [hzz62]
      clear hzz62
      refine hK.out _ _ (KH.out _ B62.out) (fun hHeld => ?_)
      clear hK
      refine wpAnyH_done (by kernel_rfl) ?_ _
      show K3 _ _
      exact tail.out _ _ _ _ _ _ _ _ _ _ _ (B6.out.trans (B62.out.mono B6.out.size)) (Fa6.out.bel B62.out) (Fv6.out.bel B62.out) (bx_bel Fba6.out B62.out) Fw62.out Fx62.out Fbw62.out Fbx62.out
     ·obtain ⟨z59, hzz59⟩ : ∃ W, z58.alloc (.cells #[.slice none 0 0, .slice none 0 0] 25) = W := ⟨_, rfl⟩
      go_simp
      have hb : Below z58.heap.size z58 z59 := by rw [← hzz59]; exact (gr_new _ _).below
      have Nbw : Hid (z59.heap[z58.heap.size]? = some (.cells #[.slice none 0 0, .slice none 0 0] 25 (0, 0))) := by unfold Hid; rw [← hzz59]; exact new_at _ _
      have Gbw : Hid (w6.heap.size ≤ z58.heap.size) := B58.out.size
      have GD : Hid (z57.heap.size < z58.heap.size) := (Array.getElem?_eq_some_iff.1 Nbx.out).1
      have B59 := hid (B58.out.trans (hb.mono B58.out.size))
      have Fw59 := hid (Fw58.out.bel hb)
      have Fbx59 := hid (bx_bel Nbx.out hb)
      clear B58 Fw58 Nbx
      clear hb hzz59
      refine hK.out _ _ (KH.out _ B59.out) (fun hHeld => ?_)
      clear hK
      refine wpAnyH_ready (rs := [7]) (by kernel_rfl) (by simp) ?_
      refine AllReadyH.cons (o := { dst := some 47, op := Op.call { callee := Callee.value (Operand.func 21), args := #[Operand.tmp 44, Operand.tmp 45, Operand.tmp 46], argTypes := #[25, 9, 23] }, type := 25, pos := "law.go:85", after := #[{ on := 4, ground := Ground.data }, { on := 5, ground := Ground.data }, { on := 6, ground := Ground.data }, { on := 3, ground := Ground.chain }], guard := none }) rfl (fun K hK => ?_) AllReadyH.nil
      go_simp
      refine (ostrong_any z59 _ sa n _ l (Fa6.out.bel B59.out) Ka.out (Fv6.out.bel B59.out) HL2.out).mono ?_
      rintro e z60 ⟨vx, rfl, hsh, hb⟩
      have B60 := hid (B59.out.trans (hb.mono B59.out.size))
      have Fw60 := hid (Fw59.out.bel hb)
      have Fbx60 := hid (bx_bel Fbx59.out hb)
      have Fbw60 := hid (bx_bel Nbw.out hb)
      clear B59 Fw59 Fbx59 Nbw
      rw [Z.out.ex] at hsh
      have Fx60 := hid hsh.at
      obtain ⟨xa, xc, xb, xd, hfx⟩ := hsh.at.form
      clear hsh
      subst hfx
      clear hb
      refine hK.out _ _ (KH.out _ B60.out) (fun hHeld => ?_)
      clear hK
      refine wpAnyH_ready (rs := [10]) (by kernel_rfl) (by simp) ?_
      refine AllReadyH.cons (o := { dst := none, op := Op.store 25 (Operand.tmp 7) (Operand.tmp 43), type := 0, pos := "law.go:85", after := #[{ on := 8, ground := Ground.data }, { on := 3, ground := Ground.data }, { on := 7, ground := Ground.chain }, { on := 0, ground := Ground.phase }, { on := 1, ground := Ground.phase }, { on := 2, ground := Ground.phase }, { on := 3, ground := Ground.phase }, { on := 4, ground := Ground.textOnly Departure.lateStores }, { on := 5, ground := Ground.textOnly Departure.lateStores }, { on := 6, ground := Ground.textOnly Departure.lateStores }, { on := 7, ground := Ground.textOnly Departure.lateStoresUnsure }, { on := 8, ground := Ground.phase }, { on := 9, ground := Ground.phase }], guard := none }) rfl (fun K hK => ?_) AllReadyH.nil
      obtain ⟨y0, y1, yf⟩ := cells2 Fbw60.out
      go_simp
      obtain ⟨z61, hzz61⟩ : ∃ W, ((z60.setCell ⟨z58.heap.size, 0, none⟩ (.slice wa sW.fs.length wc)).setCell ⟨z58.heap.size, 1, none⟩ (.slice wb sW.pr.length wd)) = W := ⟨_, rfl⟩
      have B61 : Hid (Below w6.heap.size w6 z61) := by unfold Hid; rw [← hzz61]; exact set2b B60.out Gbw.out _ _
      have Fw61 : Hid (ShAt z61 (.agg #[.slice wa sW.fs.length wc, .slice wb sW.pr.length wd]) sW) := by unfold Hid; rw [← hzz61]; exact Fw60.out.off2 Fbw60.out _ _
      have Fx61 : Hid (ShAt z61 (.agg #[.slice xa sX.fs.length xc, .slice xb sX.pr.length xd]) sX) := by unfold Hid; rw [← hzz61]; exact Fx60.out.off2 Fbw60.out _ _
      have Fbx61 : Hid (z61.heap[z57.heap.size]? = some (.cells #[.slice none 0 0, .slice none 0 0] 25 (0, 0))) := by unfold Hid; rw [← hzz61]; exact (box_off (Nat.ne_of_lt GD.out) _ _).trans Fbx60.out
      have Fbw61 : Hid (z61.heap[z58.heap.size]? = some (.cells #[.slice wa sW.fs.length wc, .slice wb sW.pr.length wd] 25 (0, 0))) := by unfold Hid; rw [← hzz61]; exact box_set2 Fbw60.out _ _
      clear y0 y1 yf
      clear B60 Fw60 Fx60 Fbx60 Fbw60
      try rw [hzz61]
      clear hzz61
      refine hK.out _ _ (KH.out _ B61.out) (fun hHeld => ?_)
      clear hK
      refine wpAnyH_ready (rs := [11]) (by kernel_rfl) (by simp) ?_
      refine AllReadyH.cons (o := { dst := none, op := Op.store 25 (Operand.tmp 8) (Operand.tmp 47), type := 0, pos := "law.go:85", after := #[{ on := 9, ground := Ground.data }, { on := 7, ground := Ground.data }, { on := 10, ground := Ground.chain }, { on := 0, ground := Ground.phase }, { on := 1, ground := Ground.phase }, { on := 2, ground := Ground.phase }, { on := 3, ground := Ground.phase }, { on := 4, ground := Ground.phase }, { on := 5, ground := Ground.phase }, { on := 6, ground := Ground.phase }, { on := 7, ground := Ground.phase }, { on := 8, ground := Ground.phase }, { on := 9, ground := Ground.phase }, { on := 10, ground := Ground.phase }], guard := none }) rfl (fun K hK => ?_) AllReadyH.nil
      obtain ⟨y0, y1, yf⟩ := cells2 Fbx61.out
      go_simp
      obtain ⟨z62, hzz62⟩ : ∃ W, ((z61.setCell ⟨z57.heap.size, 0, none⟩ (.slice xa sX.fs.length xc)).setCell ⟨z57.heap.size, 1, none⟩ (.slice xb sX.pr.length xd)) = W := ⟨_, rfl⟩
      have B62 : Hid (Below w6.heap.size w6 z62) := by unfold Hid; rw [← hzz62]; exact set2b B61.out Gbx.out _ _
      have Fw62 : Hid (ShAt z62 (.agg #[.slice wa sW.fs.length wc, .slice wb sW.pr.length wd]) sW) := by unfold Hid; rw [← hzz62]; exact Fw61.out.off2 Fbx61.out _ _
      have Fx62 : Hid (ShAt z62 (.agg #[.slice xa sX.fs.length xc, .slice xb sX.pr.length xd]) sX) := by unfold Hid; rw [← hzz62]; exact Fx61.out.off2 Fbx61.out _ _
      have Fbw62 : Hid (z62.heap[z58.heap.size]? = some (.cells #[.slice wa sW.fs.length wc, .slice wb sW.pr.length wd] 25 (0, 0))) := by unfold Hid; rw [← hzz62]; exact (box_off (Nat.ne_of_gt GD.out) _ _).trans Fbw61.out
      have Fbx62 : Hid (z62.heap[z57.heap.size]? = some (.cells #[.slice xa sX.fs.length xc, .slice xb sX.pr.length xd] 25 (0, 0))) := by unfold Hid; rw [← hzz62]; exact box_set2 Fbx61.out _ _
      clear y0 y1 yf
      clear B61 Fw61 Fx61 Fbw61 Fbx61
      try rw [hzz62]
      clear hzz62
      refine hK.out _ _ (KH.out _ B62.out) (fun hHeld => ?_)
      clear hK
      refine wpAnyH_done (by kernel_rfl) ?_ _
      show K3 _ _
      exact tail.out _ _ _ _ _ _ _ _ _ _ _ (B6.out.trans (B62.out.mono B6.out.size)) (Fa6.out.bel B62.out) (Fv6.out.bel B62.out) (bx_bel Fba6.out B62.out) Fw62.out Fx62.out Fbw62.out Fbx62.out
   ·obtain ⟨z57, hzz57⟩ : ∃ W, w6.drew.alloc (.cells #[.slice none 0 0, .slice none 0 0] 25) = W := ⟨_, rfl⟩
    go_simp
    have hb : Below w6.drew.heap.size w6.drew z57 := by rw [← hzz57]; exact (gr_new _ _).below
    have Nbw : Hid (z57.heap[w6.heap.size]? = some (.cells #[.slice none 0 0, .slice none 0 0] 25 (0, 0))) := by unfold Hid; rw [← hzz57]; exact new_at _ _
    have Gbw : Hid (w6.heap.size ≤ w6.heap.size) := RB0.out.size
    have B57 := hid (RB0.out.trans (hb.mono RB0.out.size))
    clear RB0
    clear hb hzz57
    refine hK.out _ _ (KH.out _ B57.out) (fun hHeld => ?_)
    clear hK
    refine wpAnyH_ready (rs := [3, 9]) (by kernel_rfl) (by simp) ?_
    refine AllReadyH.cons (o := { dst := some 43, op := Op.call { callee := Callee.value (Operand.func 23), args := #[Operand.tmp 40, Operand.tmp 41, Operand.tmp 42], argTypes := #[25, 9, 23] }, type := 25, pos := "law.go:85", after := #[{ on := 0, ground := Ground.data }, { on := 1, ground := Ground.data }, { on := 2, ground := Ground.data }], guard := none }) rfl (fun K hK => ?_) (AllReadyH.cons (o := { dst := some 8, op := Op.alloc 25, type := 0, pos := "law.go:85", after := #[], guard := none }) rfl (fun K hK => ?_) AllReadyH.nil)
    ·go_simp
     refine (oweak_any z57 _ sa n _ l (Fa6.out.bel B57.out) Ka.out (Fv6.out.bel B57.out) HL2.out).mono ?_
     rintro e z58 ⟨vw, rfl, hsh, hb⟩
     have B58 := hid (B57.out.trans (hb.mono B57.out.size))
     have Fbw58 := hid (bx_bel Nbw.out hb)
     clear B57 Nbw
     rw [Z.out.ew] at hsh
     have Fw58 := hid hsh.at
     obtain ⟨wa, wc, wb, wd, hfw⟩ := hsh.at.form
     clear hsh
     subst hfw
     clear hb
     refine hK.out _ _ (KH.out _ B58.out) (fun hHeld => ?_)
     clear hK
     refine wpAnyH_ready (rs := [7, 9]) (by kernel_rfl) (by simp) ?_
     refine AllReadyH.cons (o := { dst := some 47, op := Op.call { callee := Callee.value (Operand.func 21), args := #[Operand.tmp 44, Operand.tmp 45, Operand.tmp 46], argTypes := #[25, 9, 23] }, type := 25, pos := "law.go:85", after := #[{ on := 4, ground := Ground.data }, { on := 5, ground := Ground.data }, { on := 6, ground := Ground.data }, { on := 3, ground := Ground.chain }], guard := none }) rfl (fun K hK => ?_) (AllReadyH.cons (o := { dst := some 8, op := Op.alloc 25, type := 0, pos := "law.go:85", after := #[], guard := none }) rfl (fun K hK => ?_) AllReadyH.nil)
     ·go_simp
      refine (ostrong_any z58 _ sa n _ l (Fa6.out.bel B58.out) Ka.out (Fv6.out.bel B58.out) HL2.out).mono ?_
      rintro e z59 ⟨vx, rfl, hsh, hb⟩
      have B59 := hid (B58.out.trans (hb.mono B58.out.size))
      have Fbw59 := hid (bx_bel Fbw58.out hb)
      have Fw59 := hid (Fw58.out.bel hb)
      clear B58 Fbw58 Fw58
      rw [Z.out.ex] at hsh
      have Fx59 := hid hsh.at
      obtain ⟨xa, xc, xb, xd, hfx⟩ := hsh.at.form
      clear hsh
      subst hfx
      clear hb
      refine hK.out _ _ (KH.out _ B59.out) (fun hHeld => ?_)
      clear hK
      refine wpAnyH_ready (rs := [9]) (by kernel_rfl) (by simp) ?_
      refine AllReadyH.cons (o := { dst := some 8, op := Op.alloc 25, type := 0, pos := "law.go:85", after := #[], guard := none }) rfl (fun K hK => ?_) AllReadyH.nil
      obtain ⟨z60, hzz60⟩ : ∃ W, z59.alloc (.cells #[.slice none 0 0, .slice none 0 0] 25) = W := ⟨_, rfl⟩
      go_simp
      have hb : Below z59.heap.size z59 z60 := by rw [← hzz60]; exact (gr_new _ _).below
      have Nbx : Hid (z60.heap[z59.heap.size]? = some (.cells #[.slice none 0 0, .slice none 0 0] 25 (0, 0))) := by unfold Hid; rw [← hzz60]; exact new_at _ _
      have Gbx : Hid (w6.heap.size ≤ z59.heap.size) := B59.out.size
      have GD : Hid (w6.heap.size < z59.heap.size) := (Array.getElem?_eq_some_iff.1 Fbw59.out).1
      have B60 := hid (B59.out.trans (hb.mono B59.out.size))
      have Fbw60 := hid (bx_bel Fbw59.out hb)
      have Fw60 := hid (Fw59.out.bel hb)
      have Fx60 := hid (Fx59.out.bel hb)
      clear B59 Fbw59 Fw59 Fx59
      clear hb hzz60
      refine hK.out _ _ (KH.out _ B60.out) (fun hHeld => ?_)
      clear hK
      refine wpAnyH_ready (rs := [10]) (by kernel_rfl) (by simp) ?_
      refine AllReadyH.cons (o := { dst := none, op := Op.store 25 (Operand.tmp 7) (Operand.tmp 43), type := 0, pos := "law.go:85", after := #[{ on := 8, ground := Ground.data }, { on := 3, ground := Ground.data }, { on := 7, ground := Ground.chain }, { on := 0, ground := Ground.phase }, { on := 1, ground := Ground.phase }, { on := 2, ground := Ground.phase }, { on := 3, ground := Ground.phase }, { on := 4, ground := Ground.textOnly Departure.lateStores }, { on := 5, ground := Ground.textOnly Departure.lateStores }, { on := 6, ground := Ground.textOnly Departure.lateStores }, { on := 7, ground := Ground.textOnly Departure.lateStoresUnsure }, { on := 8, ground := Ground.phase }, { on := 9, ground := Ground.phase }], guard := none }) rfl (fun K hK => ?_) AllReadyH.nil
      obtain ⟨y0, y1, yf⟩ := cells2 Fbw60.out
      go_simp
      obtain ⟨z61, hzz61⟩ : ∃ W, ((z60.setCell ⟨w6.heap.size, 0, none⟩ (.slice wa sW.fs.length wc)).setCell ⟨w6.heap.size, 1, none⟩ (.slice wb sW.pr.length wd)) = W := ⟨_, rfl⟩
      have B61 : Hid (Below w6.heap.size w6 z61) := by unfold Hid; rw [← hzz61]; exact set2b B60.out Gbw.out _ _
      have Fw61 : Hid (ShAt z61 (.agg #[.slice wa sW.fs.length wc, .slice wb sW.pr.length wd]) sW) := by unfold Hid; rw [← hzz61]; exact Fw60.out.off2 Fbw60.out _ _
      have Fx61 : Hid (ShAt z61 (.agg #[.slice xa sX.fs.length xc, .slice xb sX.pr.length xd]) sX) := by unfold Hid; rw [← hzz61]; exact Fx60.out.off2 Fbw60.out _ _
      have Fbx61 : Hid (z61.heap[z59.heap.size]? = some (.cells #[.slice none 0 0, .slice none 0 0] 25 (0, 0))) := by unfold Hid; rw [← hzz61]; exact (box_off (Nat.ne_of_gt GD.out) _ _).trans Nbx.out
      have Fbw61 : Hid (z61.heap[w6.heap.size]? = some (.cells #[.slice wa sW.fs.length wc, .slice wb sW.pr.length wd] 25 (0, 0))) := by unfold Hid; rw [← hzz61]; exact box_set2 Fbw60.out _ _
      clear y0 y1 yf
      clear B60 Fw60 Fx60 Nbx Fbw60
      try rw [hzz61]
      clear hzz61
      refine hK.out _ _ (KH.out _ B61.out) (fun hHeld => ?_)
      clear hK
      refine wpAnyH_ready (rs := [11]) (by kernel_rfl) (by simp) ?_
      refine AllReadyH.cons (o := { dst := none, op := Op.store 25 (Operand.tmp 8) (Operand.tmp 47), type := 0, pos := "law.go:85", after := #[{ on := 9, ground := Ground.data }, { on := 7, ground := Ground.data }, { on := 10, ground := Ground.chain }, { on := 0, ground := Ground.phase }, { on := 1, ground := Ground.phase }, { on := 2, ground := Ground.phase }, { on := 3, ground := Ground.phase }, { on := 4, ground := Ground.phase }, { on := 5, ground := Ground.phase }, { on := 6, ground := Ground.phase }, { on := 7, ground := Ground.phase }, { on := 8, ground := Ground.phase }, { on := 9, ground := Ground.phase }, { on := 10, ground := Ground.phase }], guard := none }) rfl (fun K hK => ?_) AllReadyH.nil
      obtain ⟨y0, y1, yf⟩ := cells2 Fbx61.out
      go_simp
      obtain ⟨z62, hzz62⟩ : ∃ W, ((z61.setCell ⟨z59.heap.size, 0, none⟩ (.slice xa sX.fs.length xc)).setCell ⟨z59.heap.size, 1, none⟩ (.slice xb sX.pr.length xd)) = W := ⟨_, rfl⟩
      have B62 : Hid (Below w6.heap.size w6 z62) := by unfold Hid; rw [← hzz62]; exact set2b B61.out Gbx.out _ _
      have Fw62 : Hid (ShAt z62 (.agg #[.slice wa sW.fs.length wc, .slice wb sW.pr.length wd]) sW) := by unfold Hid; rw [← hzz62]; exact Fw61.out.off2 Fbx61.out _ _
      have Fx62 : Hid (ShAt z62 (.agg #[.slice xa sX.fs.length xc, .slice xb sX.pr.length xd]) sX) := by unfold Hid; rw [← hzz62]; exact Fx61.out.off2 Fbx61.out _ _
      have Fbw62 : Hid (z62.heap[w6.heap.size]? = some (.cells #[.slice wa sW.fs.length wc, .slice wb sW.pr.length wd] 25 (0, 0))) := by unfold Hid; rw [← hzz62]; exact (box_off (Nat.ne_of_lt GD.out) _ _).trans Fbw61.out
      have Fbx62 : Hid (z62.heap[z59.heap.size]? = some (.cells #[.slice xa sX.fs.length xc, .slice xb sX.pr.length xd] 25 (0, 0))) := by unfold Hid; rw [← hzz62]; exact box_set2 Fbx61.out _ _
      clear y0 y1 yf
      clear B61 Fw61 Fx61 Fbw61 Fbx61
      try rw [hzz62]
      clear hzz62
      refine hK.out _ _ (KH.out _ B62.out) (fun hHeld => ?_)
      clear hK
      refine wpAnyH_done (by kernel_rfl) ?_ _
      show K3 _ _
      exact tail.out _ _ _ _ _ _ _ _ _ _ _ (B6.out.trans (B62.out.mono B6.out.size)) (Fa6.out.bel B62.out) (Fv6.out.bel B62.out) (bx_bel Fba6.out B62.out) Fw62.out Fx62.out Fbw62.out Fbx62.out
     ·obtain ⟨z59, hzz59⟩ : ∃ W, z58.alloc (.cells #[.slice none 0 0, .slice none 0 0] 25) = W := ⟨_, rfl⟩
      go_simp
      have hb : Below z58.heap.size z58 z59 := by rw [← hzz59]; exact (gr_new _ _).below
      have Nbx : Hid (z59.heap[z58.heap.size]? = some (.cells #[.slice none 0 0, .slice none 0 0] 25 (0, 0))) := by unfold Hid; rw [← hzz59]; exact new_at _ _
      have Gbx : Hid (w6.heap.size ≤ z58.heap.size) := B58.out.size
      have GD : Hid (w6.heap.size < z58.heap.size) := (Array.getElem?_eq_some_iff.1 Fbw58.out).1
      have B59 := hid (B58.out.trans (hb.mono B58.out.size))
      have Fbw59 := hid (bx_bel Fbw58.out hb)
      have Fw59 := hid (Fw58.out.bel hb)
      clear B58 Fbw58 Fw58
      clear hb hzz59
      refine hK.out _ _ (KH.out _ B59.out) (fun hHeld => ?_)
      clear hK
      refine wpAnyH_ready (rs := [7]) (by kernel_rfl) (by simp) ?_
      refine AllReadyH.cons (o := { dst := some 47, op := Op.call { callee := Callee.value (Operand.func 21), args := #[Operand.tmp 44, Operand.tmp 45, Operand.tmp 46], argTypes := #[25, 9, 23] }, type := 25, pos := "law.go:85", after := #[{ on := 4, ground := Ground.data }, { on := 5, ground := Ground.data }, { on := 6, ground := Ground.data }, { on := 3, ground := Ground.chain }], guard := none }) rfl (fun K hK => ?_) AllReadyH.nil
      go_simp
      refine (ostrong_any z59 _ sa n _ l (Fa6.out.bel B59.out) Ka.out (Fv6.out.bel B59.out) HL2.out).mono ?_
      rintro e z60 ⟨vx, rfl, hsh, hb⟩
      have B60 := hid (B59.out.trans (hb.mono B59.out.size))
      have Fbw60 := hid (bx_bel Fbw59.out hb)
      have Fw60 := hid (Fw59.out.bel hb)
      have Fbx60 := hid (bx_bel Nbx.out hb)
      clear B59 Fbw59 Fw59 Nbx
      rw [Z.out.ex] at hsh
      have Fx60 := hid hsh.at
      obtain ⟨xa, xc, xb, xd, hfx⟩ := hsh.at.form
      clear hsh
      subst hfx
      clear hb
      refine hK.out _ _ (KH.out _ B60.out) (fun hHeld => ?_)
      clear hK
      refine wpAnyH_ready (rs := [10]) (by kernel_rfl) (by simp) ?_
      refine AllReadyH.cons (o := { dst := none, op := Op.store 25 (Operand.tmp 7) (Operand.tmp 43), type := 0, pos := "law.go:85", after := #[{ on := 8, ground := Ground.data }, { on := 3, ground := Ground.data }, { on := 7, ground := Ground.chain }, { on := 0, ground := Ground.phase }, { on := 1, ground := Ground.phase }, { on := 2, ground := Ground.phase }, { on := 3, ground := Ground.phase }, { on := 4, ground := Ground.textOnly Departure.lateStores }, { on := 5, ground := Ground.textOnly Departure.lateStores }, { on := 6, ground := Ground.textOnly Departure.lateStores }, { on := 7, ground := Ground.textOnly Departure.lateStoresUnsure }, { on := 8, ground := Ground.phase }, { on := 9, ground := Ground.phase }], guard := none }) rfl (fun K hK => ?_) AllReadyH.nil
      obtain ⟨y0, y1, yf⟩ := cells2 Fbw60.out
      go_simp
      obtain ⟨z61, hzz61⟩ : ∃ W, ((z60.setCell ⟨w6.heap.size, 0, none⟩ (.slice wa sW.fs.length wc)).setCell ⟨w6.heap.size, 1, none⟩ (.slice wb sW.pr.length wd)) = W := ⟨_, rfl⟩
      have B61 : Hid (Below w6.heap.size w6 z61) := by unfold Hid; rw [← hzz61]; exact set2b B60.out Gbw.out _ _
      have Fw61 : Hid (ShAt z61 (.agg #[.slice wa sW.fs.length wc, .slice wb sW.pr.length wd]) sW) := by unfold Hid; rw [← hzz61]; exact Fw60.out.off2 Fbw60.out _ _
      have Fx61 : Hid (ShAt z61 (.agg #[.slice xa sX.fs.length xc, .slice xb sX.pr.length xd]) sX) := by unfold Hid; rw [← hzz61]; exact Fx60.out.off2 Fbw60.out _ _
      have Fbx61 : Hid (z61.heap[z58.heap.size]? = some (.cells #[.slice none 0 0, .slice none 0 0] 25 (0, 0))) := by unfold Hid; rw [← hzz61]; exact (box_off (Nat.ne_of_gt GD.out) _ _).trans Fbx60.out
      have Fbw61 : Hid (z61.heap[w6.heap.size]? = some (.cells #[.slice wa sW.fs.length wc, .slice wb sW.pr.length wd] 25 (0, 0))) := by unfold Hid; rw [← hzz61]; exact box_set2 Fbw60.out _ _
      clear y0 y1 yf
      clear B60 Fw60 Fx60 Fbx60 Fbw60
      try rw [hzz61]
      clear hzz61
      refine hK.out _ _ (KH.out _ B61.out) (fun hHeld => ?_)
      clear hK
      refine wpAnyH_ready (rs := [11]) (by kernel_rfl) (by simp) ?_
      refine AllReadyH.cons (o := { dst := none, op := Op.store 25 (Operand.tmp 8) (Operand.tmp 47), type := 0, pos := "law.go:85", after := #[{ on := 9, ground := Ground.data }, { on := 7, ground := Ground.data }, { on := 10, ground := Ground.chain }, { on := 0, ground := Ground.phase }, { on := 1, ground := Ground.phase }, { on := 2, ground := Ground.phase }, { on := 3, ground := Ground.phase }, { on := 4, ground := Ground.phase }, { on := 5, ground := Ground.phase }, { on := 6, ground := Ground.phase }, { on := 7, ground := Ground.phase }, { on := 8, ground := Ground.phase }, { on := 9, ground := Ground.phase }, { on := 10, ground := Ground.phase }], guard := none }) rfl (fun K hK => ?_) AllReadyH.nil
      obtain ⟨y0, y1, yf⟩ := cells2 Fbx61.out
      go_simp
      obtain ⟨z62, hzz62⟩ : ∃ W, ((z61.setCell ⟨z58.heap.size, 0, none⟩ (.slice xa sX.fs.length xc)).setCell ⟨z58.heap.size, 1, none⟩ (.slice xb sX.pr.length xd)) = W := ⟨_, rfl⟩
      have B62 : Hid (Below w6.heap.size w6 z62) := by unfold Hid; rw [← hzz62]; exact set2b B61.out Gbx.out _ _
      have Fw62 : Hid (ShAt z62 (.agg #[.slice wa sW.fs.length wc, .slice wb sW.pr.length wd]) sW) := by unfold Hid; rw [← hzz62]; exact Fw61.out.off2 Fbx61.out _ _
      have Fx62 : Hid (ShAt z62 (.agg #[.slice xa sX.fs.length xc, .slice xb sX.pr.length xd]) sX) := by unfold Hid; rw [← hzz62]; exact Fx61.out.off2 Fbx61.out _ _
      have Fbw62 : Hid (z62.heap[w6.heap.size]? = some (.cells #[.slice wa sW.fs.length wc, .slice wb sW.pr.length wd] 25 (0, 0))) := by unfold Hid; rw [← hzz62]; exact (box_off (Nat.ne_of_lt GD.out) _ _).trans Fbw61.out
      have Fbx62 : Hid (z62.heap[z58.heap.size]? = some (.cells #[.slice xa sX.fs.length xc, .slice xb sX.pr.length xd] 25 (0, 0))) := by unfold Hid; rw [← hzz62]; exact box_set2 Fbx61.out _ _
      clear y0 y1 yf
      clear B61 Fw61 Fx61 Fbw61 Fbx61
      try rw [hzz62]
      clear hzz62
      refine hK.out _ _ (KH.out _ B62.out) (fun hHeld => ?_)
      clear hK
      refine wpAnyH_done (by kernel_rfl) ?_ _
      show K3 _ _
      exact tail.out _ _ _ _ _ _ _ _ _ _ _ (B6.out.trans (B62.out.mono B6.out.size)) (Fa6.out.bel B62.out) (Fv6.out.bel B62.out) (bx_bel Fba6.out B62.out) Fw62.out Fx62.out Fbw62.out Fbx62.out
    ·obtain ⟨z58, hzz58⟩ : ∃ W, z57.alloc (.cells #[.slice none 0 0, .slice none 0 0] 25) = W := ⟨_, rfl⟩
     go_simp
     have hb : Below z57.heap.size z57 z58 := by rw [← hzz58]; exact (gr_new _ _).below
     have Nbx : Hid (z58.heap[z57.heap.size]? = some (.cells #[.slice none 0 0, .slice none 0 0] 25 (0, 0))) := by unfold Hid; rw [← hzz58]; exact new_at _ _
     have Gbx : Hid (w6.heap.size ≤ z57.heap.size) := B57.out.size
     have GD : Hid (w6.heap.size < z57.heap.size) := (Array.getElem?_eq_some_iff.1 Nbw.out).1
     have B58 := hid (B57.out.trans (hb.mono B57.out.size))
     have Fbw58 := hid (bx_bel Nbw.out hb)
     clear B57 Nbw
     clear hb hzz58
     refine hK.out _ _ (KH.out _ B58.out) (fun hHeld => ?_)
     clear hK
     refine wpAnyH_ready (rs := [3]) (by kernel_rfl) (by simp) ?_
     refine AllReadyH.cons (o := { dst := some 43, op := Op.call { callee := Callee.value (Operand.func 23), args := #[Operand.tmp 40, Operand.tmp 41, Operand.tmp 42], argTypes := #[25, 9, 23] }, type := 25, pos := "law.go:85", after := #[{ on := 0, ground := Ground.data }, { on := 1, ground := Ground.data }, { on := 2, ground := Ground.data }], guard := none }) rfl (fun K hK => ?_) AllReadyH.nil
     go_simp
     refine (oweak_any z58 _ sa n _ l (Fa6.out.bel B58.out) Ka.out (Fv6.out.bel B58.out) HL2.out).mono ?_
     rintro e z59 ⟨vw, rfl, hsh, hb⟩
     have B59 := hid (B58.out.trans (hb.mono B58.out.size))
     have Fbw59 := hid (bx_bel Fbw58.out hb)
     have Fbx59 := hid (bx_bel Nbx.out hb)
     clear B58 Fbw58 Nbx
     rw [Z.out.ew] at hsh
     have Fw59 := hid hsh.at
     obtain ⟨wa, wc, wb, wd, hfw⟩ := hsh.at.form
     clear hsh
     subst hfw
     clear hb
     refine hK.out _ _ (KH.out _ B59.out) (fun hHeld => ?_)
     clear hK
     refine wpAnyH_ready (rs := [7]) (by kernel_rfl) (by simp) ?_
     refine AllReadyH.cons (o := { dst := some 47, op := Op.call { callee := Callee.value (Operand.func 21), args := #[Operand.tmp 44, Operand.tmp 45, Operand.tmp 46], argTypes := #[25, 9, 23] }, type := 25, pos := "law.go:85", after := #[{ on := 4, ground := Ground.data }, { on := 5, ground := Ground.data }, { on := 6, ground := Ground.data }, { on := 3, ground := Ground.chain }], guard := none }) rfl (fun K hK => ?_) AllReadyH.nil
     go_simp
     refine (ostrong_any z59 _ sa n _ l (Fa6.out.bel B59.out) Ka.out (Fv6.out.bel B59.out) HL2.out).mono ?_
     rintro e z60 ⟨vx, rfl, hsh, hb⟩
     have B60 := hid (B59.out.trans (hb.mono B59.out.size))
     have Fbw60 := hid (bx_bel Fbw59.out hb)
     have Fbx60 := hid (bx_bel Fbx59.out hb)
     have Fw60 := hid (Fw59.out.bel hb)
     clear B59 Fbw59 Fbx59 Fw59
     rw [Z.out.ex] at hsh
     have Fx60 := hid hsh.at
     obtain ⟨xa, xc, xb, xd, hfx⟩ := hsh.at.form
     clear hsh
     subst hfx
     clear hb
     refine hK.out _ _ (KH.out _ B60.out) (fun hHeld => ?_)
     clear hK
     refine wpAnyH_ready (rs := [10]) (by kernel_rfl) (by simp) ?_
     refine AllReadyH.cons (o := { dst := none, op := Op.store 25 (Operand.tmp 7) (Operand.tmp 43), type := 0, pos := "law.go:85", after := #[{ on := 8, ground := Ground.data }, { on := 3, ground := Ground.data }, { on := 7, ground := Ground.chain }, { on := 0, ground := Ground.phase }, { on := 1, ground := Ground.phase }, { on := 2, ground := Ground.phase }, { on := 3, ground := Ground.phase }, { on := 4, ground := Ground.textOnly Departure.lateStores }, { on := 5, ground := Ground.textOnly Departure.lateStores }, { on := 6, ground := Ground.textOnly Departure.lateStores }, { on := 7, ground := Ground.textOnly Departure.lateStoresUnsure }, { on := 8, ground := Ground.phase }, { on := 9, ground := Ground.phase }], guard := none }) rfl (fun K hK => ?_) AllReadyH.nil
     obtain ⟨y0, y1, yf⟩ := cells2 Fbw60.out
     go_simp
     obtain ⟨z61, hzz61⟩ : ∃ W, ((z60.setCell ⟨w6.heap.size, 0, none⟩ (.slice wa sW.fs.length wc)).setCell ⟨w6.heap.size, 1, none⟩ (.slice wb sW.pr.length wd)) = W := ⟨_, rfl⟩
     have B61 : Hid (Below w6.heap.size w6 z61) := by unfold Hid; rw [← hzz61]; exact set2b B60.out Gbw.out _ _
     have Fw61 : Hid (ShAt z61 (.agg #[.slice wa sW.fs.length wc, .slice wb sW.pr.length wd]) sW) := by unfold Hid; rw [← hzz61]; exact Fw60.out.off2 Fbw60.out _ _
     have Fx61 : Hid (ShAt z61 (.agg #[.slice xa sX.fs.length xc, .slice xb sX.pr.length xd]) sX) := by unfold Hid; rw [← hzz61]; exact Fx60.out.off2 Fbw60.out _ _
     have Fbx61 : Hid (z61.heap[z57.heap.size]? = some (.cells #[.slice none 0 0, .slice none 0 0] 25 (0, 0))) := by unfold Hid; rw [← hzz61]; exact (box_off (Nat.ne_of_gt GD.out) _ _).trans Fbx60.out
     have Fbw61 : Hid (z61.heap[w6.heap.size]? = some (.cells #[.slice wa sW.fs.length wc, .slice wb sW.pr.length wd] 25 (0, 0))) := by unfold Hid; rw [← hzz61]; exact box_set2 Fbw60.out _ _
     clear y0 y1 yf
     clear B60 Fw60 Fx60 Fbx60 Fbw60
     try rw [hzz61]
     clear hzz61
     refine hK.out _ _ (KH.out _ B61.out) (fun hHeld => ?_)
     clear hK
     refine wpAnyH_ready (rs := [11]) (by kernel_rfl) (by simp) ?_
     refine AllReadyH.cons (o := { dst := none, op := Op.store 25 (Operand.tmp 8) (Operand.tmp 47), type := 0, pos := "law.go:85", after := #[{ on := 9, ground := Ground.data }, { on := 7, ground := Ground.data }, { on := 10, ground := Ground.chain }, { on := 0, ground := Ground.phase }, { on := 1, ground := Ground.phase }, { on := 2, ground := Ground.phase }, { on := 3, ground := Ground.phase }, { on := 4, ground := Ground.phase }, { on := 5, ground := Ground.phase }, { on := 6, ground := Ground.phase }, { on := 7, ground := Ground.phase }, { on := 8, ground := Ground.phase }, { on := 9, ground := Ground.phase }, { on := 10, ground := Ground.phase }], guard := none }) rfl (fun K hK => ?_) AllReadyH.nil
     obtain ⟨y0, y1, yf⟩ := cells2 Fbx61.out
     go_simp
     obtain ⟨z62, hzz62⟩ : ∃ W, ((z61.setCell ⟨z57.heap.size, 0, none⟩ (.slice xa sX.fs.length xc)).setCell ⟨z57.heap.size, 1, none⟩ (.slice xb sX.pr.length xd)) = W := ⟨_, rfl⟩
     have B62 : Hid (Below w6.heap.size w6 z62) := by unfold Hid; rw [← hzz62]; exact set2b B61.out Gbx.out _ _
     have Fw62 : Hid (ShAt z62 (.agg #[.slice wa sW.fs.length wc, .slice wb sW.pr.length wd]) sW) := by unfold Hid; rw [← hzz62]; exact Fw61.out.off2 Fbx61.out _ _
     have Fx62 : Hid (ShAt z62 (.agg #[.slice xa sX.fs.length xc, .slice xb sX.pr.length xd]) sX) := by unfold Hid; rw [← hzz62]; exact Fx61.out.off2 Fbx61.out _ _
     have Fbw62 : Hid (z62.heap[w6.heap.size]? = some (.cells #[.slice wa sW.fs.length wc, .slice wb sW.pr.length wd] 25 (0, 0))) := by unfold Hid; rw [← hzz62]; exact (box_off (Nat.ne_of_lt GD.out) _ _).trans Fbw61.out
     have Fbx62 : Hid (z62.heap[z57.heap.size]? = some (.cells #[.slice xa sX.fs.length xc, .slice xb sX.pr.length xd] 25 (0, 0))) := by unfold Hid; rw [← hzz62]; exact box_set2 Fbx61.out _ _
     clear y0 y1 yf
     clear B61 Fw61 Fx61 Fbw61 Fbx61
     try rw [hzz62]
     clear hzz62
     refine hK.out _ _ (KH.out _ B62.out) (fun hHeld => ?_)
     clear hK
     refine wpAnyH_done (by kernel_rfl) ?_ _
     show K3 _ _
     exact tail.out _ _ _ _ _ _ _ _ _ _ _ (B6.out.trans (B62.out.mono B6.out.size)) (Fa6.out.bel B62.out) (Fv6.out.bel B62.out) (bx_bel Fba6.out B62.out) Fw62.out Fx62.out Fbw62.out Fbx62.out
   ·obtain ⟨z57, hzz57⟩ : ∃ W, w6.drew.alloc (.cells #[.slice none 0 0, .slice none 0 0] 25) = W := ⟨_, rfl⟩
    go_simp
    have hb : Below w6.drew.heap.size w6.drew z57 := by rw [← hzz57]; exact (gr_new _ _).below
    have Nbx : Hid (z57.heap[w6.heap.size]? = some (.cells #[.slice none 0 0, .slice none 0 0] 25 (0, 0))) := by unfold Hid; rw [← hzz57]; exact new_at _ _
    have Gbx : Hid (w6.heap.size ≤ w6.heap.size) := RB0.out.size
    have B57 := hid (RB0.out.trans (hb.mono RB0.out.size))
    clear RB0
    clear hb hzz57
    refine hK.out _ _ (KH.out _ B57.out) (fun hHeld => ?_)
    clear hK
    refine wpAnyH_ready (rs := [3, 8]) (by kernel_rfl) (by simp) ?_
    refine AllReadyH.cons (o := { dst := some 43, op := Op.call { callee := Callee.value (Operand.func 23), args := #[Operand.tmp 40, Operand.tmp 41, Operand.tmp 42], argTypes := #[25, 9, 23] }, type := 25, pos := "law.go:85", after := #[{ on := 0, ground := Ground.data }, { on := 1, ground := Ground.data }, { on := 2, ground := Ground.data }], guard := none }) rfl (fun K hK => ?_) (AllReadyH.cons (o := { dst := some 7, op := Op.alloc 25, type := 0, pos := "law.go:85", after := #[], guard := none }) rfl (fun K hK => ?_) AllReadyH.nil)
    ·go_simp
     refine (oweak_any z57 _ sa n _ l (Fa6.out.bel B57.out) Ka.out (Fv6.out.bel B57.out) HL2.out).mono ?_
     rintro e z58 ⟨vw, rfl, hsh, hb⟩
     have B58 := hid (B57.out.trans (hb.mono B57.out.size))
     have Fbx58 := hid (bx_bel Nbx.out hb)
     clear B57 Nbx
     rw [Z.out.ew] at hsh
     have Fw58 := hid hsh.at
     obtain ⟨wa, wc, wb, wd, hfw⟩ := hsh.at.form
     clear hsh
     subst hfw
     clear hb
     refine hK.out _ _ (KH.out _ B58.out) (fun hHeld => ?_)
     clear hK
     refine wpAnyH_ready (rs := [7, 8]) (by kernel_rfl) (by simp) ?_
     refine AllReadyH.cons (o := { dst := some 47, op := Op.call { callee := Callee.value (Operand.func 21), args := #[Operand.tmp 44, Operand.tmp 45, Operand.tmp 46], argTypes := #[25, 9, 23] }, type := 25, pos := "law.go:85", after := #[{ on := 4, ground := Ground.data }, { on := 5, ground := Ground.data }, { on := 6, ground := Ground.data }, { on := 3, ground := Ground.chain }], guard := none }) rfl (fun K hK => ?_) (AllReadyH.cons (o := { dst := some 7, op := Op.alloc 25, type := 0, pos := "law.go:85", after := #[], guard := none }) rfl (fun K hK => ?_) AllReadyH.nil)
     ·go_simp
      refine (ostrong_any z58 _ sa n _ l (Fa6.out.bel B58.out) Ka.out (Fv6.out.bel B58.out) HL2.out).mono ?_
      rintro e z59 ⟨vx, rfl, hsh, hb⟩
      have B59 := hid (B58.out.trans (hb.mono B58.out.size))
      have Fbx59 := hid (bx_bel Fbx58.out hb)
      have Fw59 := hid (Fw58.out.bel hb)
      clear B58 Fbx58 Fw58
      rw [Z.out.ex] at hsh
      have Fx59 := hid hsh.at
      obtain ⟨xa, xc, xb, xd, hfx⟩ := hsh.at.form
      clear hsh
      subst hfx
      clear hb
      refine hK.out _ _ (KH.out _ B59.out) (fun hHeld => ?_)
      clear hK
      refine wpAnyH_ready (rs := [8]) (by kernel_rfl) (by simp) ?_
      refine AllReadyH.cons (o := { dst := some 7, op := Op.alloc 25, type := 0, pos := "law.go:85", after := #[], guard := none }) rfl (fun K hK => ?_) AllReadyH.nil
      obtain ⟨z60, hzz60⟩ : ∃ W, z59.alloc (.cells #[.slice none 0 0, .slice none 0 0] 25) = W := ⟨_, rfl⟩
      go_simp
      have hb : Below z59.heap.size z59 z60 := by rw [← hzz60]; exact (gr_new _ _).below
      have Nbw : Hid (z60.heap[z59.heap.size]? = some (.cells #[.slice none 0 0, .slice none 0 0] 25 (0, 0))) := by unfold Hid; rw [← hzz60]; exact new_at _ _
      have Gbw : Hid (w6.heap.size ≤ z59.heap.size) := B59.out.size
      have GD : Hid (w6.heap.size < z59.heap.size) := (Array.getElem?_eq_some_iff.1 Fbx59.out).1
      have B60 := hid (B59.out.trans (hb.mono B59.out.size))
      have Fbx60 := hid (bx_bel Fbx59.out hb)
      have Fw60 := hid (Fw59.out.bel hb)
      have Fx60 := hid (Fx59.out.bel hb)
      clear B59 Fbx59 Fw59 Fx59
      clear hb hzz60
      refine hK.out _ _ (KH.out _ B60.out) (fun hHeld => ?_)
      clear hK
      refine wpAnyH_ready (rs := [10]) (by kernel_rfl) (by simp) ?_
      refine AllReadyH.cons (o := { dst := none, op := Op.store 25 (Operand.tmp 7) (Operand.tmp 43), type := 0, pos := "law.go:85", after := #[{ on := 8, ground := Ground.data }, { on := 3, ground := Ground.data }, { on := 7, ground := Ground.chain }, { on := 0, ground := Ground.phase }, { on := 1, ground := Ground.phase }, { on := 2, ground := Ground.phase }, { on := 3, ground := Ground.phase }, { on := 4, ground := Ground.textOnly Departure.lateStores }, { on := 5, ground := Ground.textOnly Departure.lateStores }, { on := 6, ground := Ground.textOnly Departure.lateStores }, { on := 7, ground := Ground.textOnly Departure.lateStoresUnsure }, { on := 8, ground := Ground.phase }, { on := 9, ground := Ground.phase }], guard := none }) rfl (fun K hK => ?_) AllReadyH.nil
      obtain ⟨y0, y1, yf⟩ := cells2 Nbw.out
      go_simp
      obtain ⟨z61, hzz61⟩ : ∃ W, ((z60.setCell ⟨z59.heap.size, 0, none⟩ (.slice wa sW.fs.length wc)).setCell ⟨z59.heap.size, 1, none⟩ (.slice wb sW.pr.length wd)) = W := ⟨_, rfl⟩
      have B61 : Hid (Below w6.heap.size w6 z61) := by unfold Hid; rw [← hzz61]; exact set2b B60.out Gbw.out _ _
      have Fw61 : Hid (ShAt z61 (.agg #[.slice wa sW.fs.length wc, .slice wb sW.pr.length wd]) sW) := by unfold Hid; rw [← hzz61]; exact Fw60.out.off2 Nbw.out _ _
      have Fx61 : Hid (ShAt z61 (.agg #[.slice xa sX.fs.length xc, .slice xb sX.pr.length xd]) sX) := by unfold Hid; rw [← hzz61]; exact Fx60.out.off2 Nbw.out _ _
      have Fbx61 : Hid (z61.heap[w6.heap.size]? = some (.cells #[.slice none 0 0, .slice none 0 0] 25 (0, 0))) := by unfold Hid; rw [← hzz61]; exact (box_off (Nat.ne_of_lt GD.out) _ _).trans Fbx60.out
      have Fbw61 : Hid (z61.heap[z59.heap.size]? = some (.cells #[.slice wa sW.fs.length wc, .slice wb sW.pr.length wd] 25 (0, 0))) := by unfold Hid; rw [← hzz61]; exact box_set2 Nbw.out _ _
      clear y0 y1 yf
      clear B60 Fw60 Fx60 Fbx60 Nbw
      try rw [hzz61]
      clear hzz61
      refine hK.out _ _ (KH.out _ B61.out) (fun hHeld => ?_)
      clear hK
      refine wpAnyH_ready (rs := [11]) (by kernel_rfl) (by simp) ?_
      refine AllReadyH.cons (o := { dst := none, op := Op.store 25 (Operand.tmp 8) (Operand.tmp 47), type := 0, pos := "law.go:85", after := #[{ on := 9, ground := Ground.data }, { on := 7, ground := Ground.data }, { on := 10, ground := Ground.chain }, { on := 0, ground := Ground.phase }, { on := 1, ground := Ground.phase }, { on := 2, ground := Ground.phase }, { on := 3, ground := Ground.phase }, { on := 4, ground := Ground.phase }, { on := 5, ground := Ground.phase }, { on := 6, ground := Ground.phase }, { on := 7, ground := Ground.phase }, { on := 8, ground := Ground.phase }, { on := 9, ground := Ground.phase }, { on := 10, ground := Ground.phase }], guard := none }) rfl (fun K hK => ?_) AllReadyH.nil
      obtain ⟨y0, y1, yf⟩ := cells2 Fbx61.out
      go_simp
      obtain ⟨z62, hzz62⟩ : ∃ W, ((z61.setCell ⟨w6.heap.size, 0, none⟩ (.slice xa sX.fs.length xc)).setCell ⟨w6.heap.size, 1, none⟩ (.slice xb sX.pr.length xd)) = W := ⟨_, rfl⟩
      have B62 : Hid (Below w6.heap.size w6 z62) := by unfold Hid; rw [← hzz62]; exact set2b B61.out Gbx.out _ _
      have Fw62 : Hid (ShAt z62 (.agg #[.slice wa sW.fs.length wc, .slice wb sW.pr.length wd]) sW) := by unfold Hid; rw [← hzz62]; exact Fw61.out.off2 Fbx61.out _ _
      have Fx62 : Hid (ShAt z62 (.agg #[.slice xa sX.fs.length xc, .slice xb sX.pr.length xd]) sX) := by unfold Hid; rw [← hzz62]; exact Fx61.out.off2 Fbx61.out _ _
      have Fbw62 : Hid (z62.heap[z59.heap.size]? = some (.cells #[.slice wa sW.fs.length wc, .slice wb sW.pr.length wd] 25 (0, 0))) := by unfold Hid; rw [← hzz62]; exact (box_off (Nat.ne_of_gt GD.out) _ _).trans Fbw61.out
      have Fbx62 : Hid (z62.heap[w6.heap.size]? = some (.cells #[.slice xa sX.fs.length xc, .slice xb sX.pr.length xd] 25 (0, 0))) := by unfold Hid; rw [← hzz62]; exact box_set2 Fbx61.out _ _
      clear y0 y1 yf
      clear B61 Fw61 Fx61 Fbw61 Fbx61
      try rw [hzz62]
      clear hzz62
      refine hK.out _ _ (KH.out _ B62.out) (fun hHeld => ?_)
      clear hK
      refine wpAnyH_done (by kernel_rfl) ?_ _
      show K3 _ _
      exact tail.out _ _ _ _ _ _ _ _ _ _ _ (B6.out.trans (B62.out.mono B6.out.size)) (Fa6.out.bel B62.out) (Fv6.out.bel B62.out) (bx_bel Fba6.out B62.out) Fw62.out Fx62.out Fbw62.out Fbx62.out
     ·obtain ⟨z59, hzz59⟩ : ∃ W, z58.alloc (.cells #[.slice none 0 0, .slice none 0 0] 25) = W := ⟨_, rfl⟩
      go_simp
      have hb : Below z58.heap.size z58 z59 := by rw [← hzz59]; exact (gr_new _ _).below
      have Nbw : Hid (z59.heap[z58.heap.size]? = some (.cells #[.slice none 0 0, .slice none 0 0] 25 (0, 0))) := by unfold Hid; rw [← hzz59]; exact new_at _ _
      have Gbw : Hid (w6.heap.size ≤ z58.heap.size) := B58.out.size
      have GD : Hid (w6.heap.size < z58.heap.size) := (Array.getElem?_eq_some_iff.1 Fbx58.out).1
      have B59 := hid (B58.out.trans (hb.mono B58.out.size))
      have Fbx59 := hid (bx_bel Fbx58.out hb)
      have Fw59 := hid (Fw58.out.bel hb)
      clear B58 Fbx58 Fw58
      clear hb hzz59
      refine hK.out _ _ (KH.out _ B59.out) (fun hHeld => ?_)
      clear hK
      refine wpAnyH_ready (rs := [7]) (by kernel_rfl) (by simp) ?_
      refine AllReadyH.cons (o := { dst := some 47, op := Op.call { callee := Callee.value (Operand.func 21), args := #[Operand.tmp 44, Operand.tmp 45, Operand.tmp 46], argTypes := #[25, 9, 23] }, type := 25, pos := "law.go:85", after := #[{ on := 4, ground := Ground.data }, { on := 5, ground := Ground.data }, { on := 6, ground := Ground.data }, { on := 3, ground := Ground.chain }], guard := none }) rfl (fun K hK => ?_) AllReadyH.nil
      go_simp
      refine (ostrong_any z59 _ sa n _ l (Fa6.out.bel B59.out) Ka.out (Fv6.out.bel B59.out) HL2.out).mono ?_
      rintro e z60 ⟨vx, rfl, hsh, hb⟩
      have B60 := hid (B59.out.trans (hb.mono B59.out.size))
      have Fbx60 := hid (bx_bel Fbx59.out hb)
      have Fw60 := hid (Fw59.out.bel hb)
      have Fbw60 := hid (bx_bel Nbw.out hb)
      clear B59 Fbx59 Fw59 Nbw
      rw [Z.out.ex] at hsh
      have Fx60 := hid hsh.at
      obtain ⟨xa, xc, xb, xd, hfx⟩ := hsh.at.form
      clear hsh
      subst hfx
      clear hb
      refine hK.out _ _ (KH.out _ B60.out) (fun hHeld => ?_)
      clear hK
      refine wpAnyH_ready (rs := [10]) (by kernel_rfl) (by simp) ?_
      refine AllReadyH.cons (o := { dst := none, op := Op.store 25 (Operand.tmp 7) (Operand.tmp 43), type := 0, pos := "law.go:85", after := #[{ on := 8, ground := Ground.data }, { on := 3, ground := Ground.data }, { on := 7, ground := Ground.chain }, { on := 0, ground := Ground.phase }, { on := 1, ground := Ground.phase }, { on := 2, ground := Ground.phase }, { on := 3, ground := Ground.phase }, { on := 4, ground := Ground.textOnly Departure.lateStores }, { on := 5, ground := Ground.textOnly Departure.lateStores }, { on := 6, ground := Ground.textOnly Departure.lateStores }, { on := 7, ground := Ground.textOnly Departure.lateStoresUnsure }, { on := 8, ground := Ground.phase }, { on := 9, ground := Ground.phase }], guard := none }) rfl (fun K hK => ?_) AllReadyH.nil
      obtain ⟨y0, y1, yf⟩ := cells2 Fbw60.out
      go_simp
      obtain ⟨z61, hzz61⟩ : ∃ W, ((z60.setCell ⟨z58.heap.size, 0, none⟩ (.slice wa sW.fs.length wc)).setCell ⟨z58.heap.size, 1, none⟩ (.slice wb sW.pr.length wd)) = W := ⟨_, rfl⟩
      have B61 : Hid (Below w6.heap.size w6 z61) := by unfold Hid; rw [← hzz61]; exact set2b B60.out Gbw.out _ _
      have Fw61 : Hid (ShAt z61 (.agg #[.slice wa sW.fs.length wc, .slice wb sW.pr.length wd]) sW) := by unfold Hid; rw [← hzz61]; exact Fw60.out.off2 Fbw60.out _ _
      have Fx61 : Hid (ShAt z61 (.agg #[.slice xa sX.fs.length xc, .slice xb sX.pr.length xd]) sX) := by unfold Hid; rw [← hzz61]; exact Fx60.out.off2 Fbw60.out _ _
      have Fbx61 : Hid (z61.heap[w6.heap.size]? = some (.cells #[.slice none 0 0, .slice none 0 0] 25 (0, 0))) := by unfold Hid; rw [← hzz61]; exact (box_off (Nat.ne_of_lt GD.out) _ _).trans Fbx60.out
      have Fbw61 : Hid (z61.heap[z58.heap.size]? = some (.cells #[.slice wa sW.fs.length wc, .slice wb sW.pr.length wd] 25 (0, 0))) := by unfold Hid; rw [← hzz61]; exact box_set2 Fbw60.out _ _
      clear y0 y1 yf
      clear B60 Fw60 Fx60 Fbx60 Fbw60
      try rw [hzz61]
      clear hzz61
      refine hK.out _ _ (KH.out _ B61.out) (fun hHeld => ?_)
      clear hK
      refine wpAnyH_ready (rs := [11]) (by kernel_rfl) (by simp) ?_
      refine AllReadyH.cons (o := { dst := none, op := Op.store 25 (Operand.tmp 8) (Operand.tmp 47), type := 0, pos := "law.go:85", after := #[{ on := 9, ground := Ground.data }, { on := 7, ground := Ground.data }, { on := 10, ground := Ground.chain }, { on := 0, ground := Ground.phase }, { on := 1, ground := Ground.phase }, { on := 2, ground := Ground.phase }, { on := 3, ground := Ground.phase }, { on := 4, ground := Ground.phase }, { on := 5, ground := Ground.phase }, { on := 6, ground := Ground.phase }, { on := 7, ground := Ground.phase }, { on := 8, ground := Ground.phase }, { on := 9, ground := Ground.phase }, { on := 10, ground := Ground.phase }], guard := none }) rfl (fun K hK => ?_) AllReadyH.nil
      obtain ⟨y0, y1, yf⟩ := cells2 Fbx61.out
      go_simp
      obtain ⟨z62, hzz62⟩ : ∃ W, ((z61.setCell ⟨w6.heap.size, 0, none⟩ (.slice xa sX.fs.length xc)).setCell ⟨w6.heap.size, 1, none⟩ (.slice xb sX.pr.length xd)) = W := ⟨_, rfl⟩
      have B62 : Hid (Below w6.heap.size w6 z62) := by unfold Hid; rw [← hzz62]; exact set2b B61.out Gbx.out _ _
      have Fw62 : Hid (ShAt z62 (.agg #[.slice wa sW.fs.length wc, .slice wb sW.pr.length wd]) sW) := by unfold Hid; rw [← hzz62]; exact Fw61.out.off2 Fbx61.out _ _
      have Fx62 : Hid (ShAt z62 (.agg #[.slice xa sX.fs.length xc, .slice xb sX.pr.length xd]) sX) := by unfold Hid; rw [← hzz62]; exact Fx61.out.off2 Fbx61.out _ _
      have Fbw62 : Hid (z62.heap[z58.heap.size]? = some (.cells #[.slice wa sW.fs.length wc, .slice wb sW.pr.length wd] 25 (0, 0))) := by unfold Hid; rw [← hzz62]; exact (box_off (Nat.ne_of_gt GD.out) _ _).trans Fbw61.out
      have Fbx62 : Hid (z62.heap[w6.heap.size]? = some (.cells #[.slice xa sX.fs.length xc, .slice xb sX.pr.length xd] 25 (0, 0))) := by unfold Hid; rw [← hzz62]; exact box_set2 Fbx61.out _ _
      clear y0 y1 yf
      clear B61 Fw61 Fx61 Fbw61 Fbx61
      try rw [hzz62]
      clear hzz62
      refine hK.out _ _ (KH.out _ B62.out) (fun hHeld => ?_)
      clear hK
      refine wpAnyH_done (by kernel_rfl) ?_ _
      show K3 _ _
      exact tail.out _ _ _ _ _ _ _ _ _ _ _ (B6.out.trans (B62.out.mono B6.out.size)) (Fa6.out.bel B62.out) (Fv6.out.bel B62.out) (bx_bel Fba6.out B62.out) Fw62.out Fx62.out Fbw62.out Fbx62.out
    ·obtain ⟨z58, hzz58⟩ : ∃ W, z57.alloc (.cells #[.slice none 0 0, .slice none 0 0] 25) = W := ⟨_, rfl⟩
     go_simp
     have hb : Below z57.heap.size z57 z58 := by rw [← hzz58]; exact (gr_new _ _).below
     have Nbw : Hid (z58.heap[z57.heap.size]? = some (.cells #[.slice none 0 0, .slice none 0 0] 25 (0, 0))) := by unfold Hid; rw [← hzz58]; exact new_at _ _
     have Gbw : Hid (w6.heap.size ≤ z57.heap.size) := B57.out.size
     have GD : Hid (w6.heap.size < z57.heap.size) := (Array.getElem?_eq_some_iff.1 Nbx.out).1
     have B58 := hid (B57.out.trans (hb.mono B57.out.size))
     have Fbx58 := hid (bx_bel Nbx.out hb)
     clear B57 Nbx
     clear hb hzz58
     refine hK.out _ _ (KH.out _ B58.out) (fun hHeld => ?_)
     clear hK
     refine wpAnyH_ready (rs := [3]) (by kernel_rfl) (by simp) ?_
     refine AllReadyH.cons (o := { dst := some 43, op := Op.call { callee := Callee.value (Operand.func 23), args := #[Operand.tmp 40, Operand.tmp 41, Operand.tmp 42], argTypes := #[25, 9, 23] }, type := 25, pos := "law.go:85", after := #[{ on := 0, ground := Ground.data }, { on := 1, ground := Ground.data }, { on := 2, ground := Ground.data }], guard := none }) rfl (fun K hK => ?_) AllReadyH.nil
     go_simp
     refine (oweak_any z58 _ sa n _ l (Fa6.out.bel B58.out) Ka.out (Fv6.out.bel B58.out) HL2.out).mono ?_
     rintro e z59 ⟨vw, rfl, hsh, hb⟩
     have B59 := hid (B58.out.trans (hb.mono B58.out.size))
     have Fbx59 := hid (bx_bel Fbx58.out hb)
     have Fbw59 := hid (bx_bel Nbw.out hb)
     clear B58 Fbx58 Nbw
     rw [Z.out.ew] at hsh
     have Fw59 := hid hsh.at
     obtain ⟨wa, wc, wb, wd, hfw⟩ := hsh.at.form
     clear hsh
     subst hfw
     clear hb
     refine hK.out _ _ (KH.out _ B59.out) (fun hHeld => ?_)
     clear hK
     refine wpAnyH_ready (rs := [7]) (by kernel_rfl) (by simp) ?_
     refine AllReadyH.cons (o := { dst := some 47, op := Op.call { callee := Callee.value (Operand.func 21), args := #[Operand.tmp 44, Operand.tmp 45, Operand.tmp 46], argTypes := #[25, 9, 23] }, type := 25, pos := "law.go:85", after := #[{ on := 4, ground := Ground.data }, { on := 5, ground := Ground.data }, { on := 6, ground := Ground.data }, { on := 3, ground := Ground.chain }], guard := none }) rfl (fun K hK => ?_) AllReadyH.nil
     go_simp
     refine (ostrong_any z59 _ sa n _ l (Fa6.out.bel B59.out) Ka.out (Fv6.out.bel B59.out) HL2.out).mono ?_
     rintro e z60 ⟨vx, rfl, hsh, hb⟩
     have B60 := hid (B59.out.trans (hb.mono B59.out.size))
     have Fbx60 := hid (bx_bel Fbx59.out hb)
     have Fbw60 := hid (bx_bel Fbw59.out hb)
     have Fw60 := hid (Fw59.out.bel hb)
     clear B59 Fbx59 Fbw59 Fw59
     rw [Z.out.ex] at hsh
     have Fx60 := hid hsh.at
     obtain ⟨xa, xc, xb, xd, hfx⟩ := hsh.at.form
     clear hsh
     subst hfx
     clear hb
     refine hK.out _ _ (KH.out _ B60.out) (fun hHeld => ?_)
     clear hK
     refine wpAnyH_ready (rs := [10]) (by kernel_rfl) (by simp) ?_
     refine AllReadyH.cons (o := { dst := none, op := Op.store 25 (Operand.tmp 7) (Operand.tmp 43), type := 0, pos := "law.go:85", after := #[{ on := 8, ground := Ground.data }, { on := 3, ground := Ground.data }, { on := 7, ground := Ground.chain }, { on := 0, ground := Ground.phase }, { on := 1, ground := Ground.phase }, { on := 2, ground := Ground.phase }, { on := 3, ground := Ground.phase }, { on := 4, ground := Ground.textOnly Departure.lateStores }, { on := 5, ground := Ground.textOnly Departure.lateStores }, { on := 6, ground := Ground.textOnly Departure.lateStores }, { on := 7, ground := Ground.textOnly Departure.lateStoresUnsure }, { on := 8, ground := Ground.phase }, { on := 9, ground := Ground.phase }], guard := none }) rfl (fun K hK => ?_) AllReadyH.nil
     obtain ⟨y0, y1, yf⟩ := cells2 Fbw60.out
     go_simp
     obtain ⟨z61, hzz61⟩ : ∃ W, ((z60.setCell ⟨z57.heap.size, 0, none⟩ (.slice wa sW.fs.length wc)).setCell ⟨z57.heap.size, 1, none⟩ (.slice wb sW.pr.length wd)) = W := ⟨_, rfl⟩
     have B61 : Hid (Below w6.heap.size w6 z61) := by unfold Hid; rw [← hzz61]; exact set2b B60.out Gbw.out _ _
     have Fw61 : Hid (ShAt z61 (.agg #[.slice wa sW.fs.length wc, .slice wb sW.pr.length wd]) sW) := by unfold Hid; rw [← hzz61]; exact Fw60.out.off2 Fbw60.out _ _
     have Fx61 : Hid (ShAt z61 (.agg #[.slice xa sX.fs.length xc, .slice xb sX.pr.length xd]) sX) := by unfold Hid; rw [← hzz61]; exact Fx60.out.off2 Fbw60.out _ _
     have Fbx61 : Hid (z61.heap[w6.heap.size]? = some (.cells #[.slice none 0 0, .slice none 0 0] 25 (0, 0))) := by unfold Hid; rw [← hzz61]; exact (box_off (Nat.ne_of_lt GD.out) _ _).trans Fbx60.out
     have Fbw61 : Hid (z61.heap[z57.heap.size]? = some (.cells #[.slice wa sW.fs.length wc, .slice wb sW.pr.length wd] 25 (0, 0))) := by unfold Hid; rw [← hzz61]; exact box_set2 Fbw60.out _ _
     clear y0 y1 yf
     clear B60 Fw60 Fx60 Fbx60 Fbw60
     try rw [hzz61]
     clear hzz61
     refine hK.out _ _ (KH.out _ B61.out) (fun hHeld => ?_)
     clear hK
     refine wpAnyH_ready (rs := [11]) (by kernel_rfl) (by simp) ?_
     refine AllReadyH.cons (o := { dst := none, op := Op.store 25 (Operand.tmp 8) (Operand.tmp 47), type := 0, pos := "law.go:85", after := #[{ on := 9, ground := Ground.data }, { on := 7, ground := Ground.data }, { on := 10, ground := Ground.chain }, { on := 0, ground := Ground.phase }, { on := 1, ground := Ground.phase }, { on := 2, ground := Ground.phase }, { on := 3, ground := Ground.phase }, { on := 4, ground := Ground.phase }, { on := 5, ground := Ground.phase }, { on := 6, ground := Ground.phase }, { on := 7, ground := Ground.phase }, { on := 8, ground := Ground.phase }, { on := 9, ground := Ground.phase }, { on := 10, ground := Ground.phase }], guard := none }) rfl (fun K hK => ?_) AllReadyH.nil
     obtain ⟨y0, y1, yf⟩ := cells2 Fbx61.out
     go_simp
     obtain ⟨z62, hzz62⟩ : ∃ W, ((z61.setCell ⟨w6.heap.size, 0, none⟩ (.slice xa sX.fs.length xc)).setCell ⟨w6.heap.size, 1, none⟩ (.slice xb sX.pr.length xd)) = W := ⟨_, rfl⟩
     have B62 : Hid (Below w6.heap.size w6 z62) := by unfold Hid; rw [← hzz62]; exact set2b B61.out Gbx.out _ _
     have Fw62 : Hid (ShAt z62 (.agg #[.slice wa sW.fs.length wc, .slice wb sW.pr.length wd]) sW) := by unfold Hid; rw [← hzz62]; exact Fw61.out.off2 Fbx61.out _ _
     have Fx62 : Hid (ShAt z62 (.agg #[.slice xa sX.fs.length xc, .slice xb sX.pr.length xd]) sX) := by unfold Hid; rw [← hzz62]; exact Fx61.out.off2 Fbx61.out _ _
     have Fbw62 : Hid (z62.heap[z57.heap.size]? = some (.cells #[.slice wa sW.fs.length wc, .slice wb sW.pr.length wd] 25 (0, 0))) := by unfold Hid; rw [← hzz62]; exact (box_off (Nat.ne_of_gt GD.out) _ _).trans Fbw61.out
     have Fbx62 : Hid (z62.heap[w6.heap.size]? = some (.cells #[.slice xa sX.fs.length xc, .slice xb sX.pr.length xd] 25 (0, 0))) := by unfold Hid; rw [← hzz62]; exact box_set2 Fbx61.out _ _
     clear y0 y1 yf
     clear B61 Fw61 Fx61 Fbw61 Fbx61
     try rw [hzz62]
     clear hzz62
     refine hK.out _ _ (KH.out _ B62.out) (fun hHeld => ?_)
     clear hK
     refine wpAnyH_done (by kernel_rfl) ?_ _
     show K3 _ _
     exact tail.out _ _ _ _ _ _ _ _ _ _ _ (B6.out.trans (B62.out.mono B6.out.size)) (Fa6.out.bel B62.out) (Fv6.out.bel B62.out) (bx_bel Fba6.out B62.out) Fw62.out Fx62.out Fbw62.out Fbx62.out
 ·have h60 : (60 : Int) < ((l.length : Nat) : Int) := by omega
  clear hl
  obtain ⟨xba0, xba1, _⟩ := cells2 Fba4.out
  go_wp2_with (first | (go_at_call 10; refine stopHere ?_))
  refine stopAt ?_
  refine (fixed_any w4).mono ?_
  rintro e w5 ⟨rfl, hb⟩
  have B5 := hid (B4.out.trans (hb.mono B4.out.size))
  have Fa5 := hid (Fa4.out.bel hb)
  have Fv5 := hid (Fv4.out.bel hb)
  have Fba5 := hid (bx_bel Fba4.out hb)
  clear B4 Fa4 Fv4 Fba4
  clear hb xba0 xba1
  go_wp2
  go_ret
  exact ⟨rfl, B5.out⟩
end Go.Proofs.Ytcnikcfnfohoeaa
