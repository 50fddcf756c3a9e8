/-
  PROVED: proteanlaw02.ParseSame, its card: whatever the two strings are: true; they read as they did. The listed package variables start as the program's text lays them (the card ties them). No other conditions.
-/
import Derived.Test.YtkonkdhoakcmdaaGreatDoorT18
import Derived.Test.YtkonkdhoakcmdaaGreatDoorS16
import Derived.Deep.RegionHeld3
import Derived.Test.YtkonkdhoakcmdaaGreatDoorTie
import Derived.Test.YtkonkdhoakcmdaaGreatDoorCards
import Derived.ProofKit
import Derived.LaidMore
import Derived.OpenShut
import Derived.ShutString
import Derived.Stop.Joined
import Derived.SevenTiedAt
set_option linter.unusedVariables false
set_option linter.unusedSimpArgs false
namespace Go.Proofs.YtkonkdhoakcmdaaGreatDoor
open Go.RowKit
namespace ParseSame

set_option maxRecDepth 16000 in
set_option maxHeartbeats 6400000 in
theorem walk (s t : ByteArray) (ws : s.size ≤ maxLen) (wt : t.size ≤ maxLen) (w : World) :
    Calls Tryz.prog 5 #[.string s, .string t] w fun e w' => e = .returned (.bool true) ∧ Below w.heap.size w w' := by
  obtain ⟨p, x, y, H⟩ : ∃ p x y, Hid (M.parseR s.data.toList = (p, (x, y))) := ⟨_, _, _, rfl⟩
  obtain ⟨p', x', y', H'⟩ : ∃ p x y, Hid (M.parseR t.data.toList = (p, (x, y))) := ⟨_, _, _, rfl⟩
  have hs' := ws
  have ht' := wt
  unfold maxLen at hs' ht'
  go_enter Tryz.func5, Tryz.ntmps5
  go_wp2_with fail
  refine (rparseAt _ _ _ _ ws H.out).mono ?_
  rintro e w1 ⟨hbw1, b1, c1, rfl, hP1⟩
  go_wp2_with fail
  refine (rparseAt _ _ _ _ wt H'.out).mono ?_
  rintro e w2 ⟨hb, b2, c2, rfl, hP2⟩
  obtain ⟨hA2, _, _, hbn⟩ := two_new hb
  have hbw2 := hbw1.trans (hbn.mono hbw1.size)
  have hQ1 := hP1.bel hbn
  clear hP1 hb hbn
  go_wp2_with fail
  obtain ⟨hC3, hD3, _, hbn⟩ := two_new (w := w2) (w1 := ((w2.alloc (.cells #[.slice b2 p'.length c2] 25)).alloc (.cells #[.int .i64 x', .int .i64 y'] 28))) (Below.refl _ _)
  have hA3 := kept hbn hA2
  have hbw3 := hbw2.trans (hbn.mono hbw2.size)
  have hR1 := hQ1.bel hbn
  have hR2 := hP2.bel hbn
  clear hbn hD3
  generalize hW : ((w2.alloc (.cells #[.slice b2 p'.length c2] 25)).alloc (.cells #[.int .i64 x', .int .i64 y'] 28)) = w3 at hC3 hA3 hbw3 hR1 hR2 ⊢
  clear hW hP2 hQ1 hA2
  have KH : Hid (∀ W, Below w3.heap.size w3 W → W.cell? ⟨w1.heap.size, 0, none⟩ = some (.slice b1 p.length c1) ∧ W.cell? ⟨w2.heap.size, 0, none⟩ = some (.slice b2 p'.length c2)) := fun W hb => ⟨cell0 (kept hb hA3), cell0 (kept hb hC3)⟩
  have FX : Hid (∀ W, Below w3.heap.size w3 W → Calls Tryz.prog 8 #[] W fun e w' => e = .returned (.bool true) ∧ Below w3.heap.size w3 w') := fun W hb => (fixed_any W).mono fun e w' ⟨h1, h2⟩ => ⟨h1, hb.trans (h2.mono hb.size)⟩
  have S1 : Hid (∀ W, Below w3.heap.size w3 W → Calls Tryz.prog 14 #[.agg #[.slice b1 p.length c1], .agg #[.slice b2 p'.length c2]] W fun e w' => e = .returned (.bool (decide (p = p'))) ∧ Below w3.heap.size w3 w') := fun W hb => (same_any W _ _ p p' (hR1.bel hb) (hR2.bel hb)).mono fun e w' ⟨h1, h2⟩ => ⟨h1, hb.trans (h2.mono hb.size)⟩
  have S2 : Hid (∀ W, Below w3.heap.size w3 W → Calls Tryz.prog 9 #[.agg #[.slice b1 p.length c1], .agg #[.slice b2 p'.length c2]] W fun e w' => e = .returned (.bool (decide (p = p'))) ∧ Below w3.heap.size w3 w') := fun W hb => (rsame_any W _ _ p p' (hR1.bel hb) (hR2.bel hb)).mono fun e w' ⟨h1, h2⟩ => ⟨h1, hb.trans (h2.mono hb.size)⟩
  have S3 : Hid (∀ W, Below w3.heap.size w3 W → Calls Tryz.prog 14 #[.agg #[.slice b1 p.length c1], .agg #[.slice b1 p.length c1]] W fun e w' => e = .returned (.bool true) ∧ Below w3.heap.size w3 w') := fun W hb => (same_any W _ _ p p (hR1.bel hb) (hR1.bel hb)).mono fun e w' ⟨h1, h2⟩ => ⟨by rw [h1, decide_eq_true rfl], hb.trans (h2.mono hb.size)⟩
  obtain ⟨bb, hbb⟩ : ∃ bb : Bool, bb = decide (p = p') := ⟨_, rfl⟩
  rw [← hbb] at S1 S2
  clear hbb hR1 hR2
  go_region_held3 (fun w' => w'.cell? ⟨w1.heap.size, 0, none⟩ = some (.slice b1 p.length c1) ∧ w'.cell? ⟨w2.heap.size, 0, none⟩ = some (.slice b2 p'.length c2)) (first | exact KH.out _ (Below.refl _ _) | exact KH.out _ (Below.refl _ _).drew | exact KH.out _ B7 | exact KH.out _ B6 | exact KH.out _ B5 | exact KH.out _ B4 | go_keep)
    (first
      | (go_at_call 8; refine (FX.out _ (Below.refl _ _).drew).mono ?_; rintro e w4 ⟨rfl, B4⟩)
      | (go_at_call 14; refine (S1.out _ B4).mono ?_; rintro e w5 ⟨rfl, B5⟩)
      | (go_at_call 9; refine (S2.out _ B5).mono ?_; rintro e w6 ⟨rfl, B6⟩)
      | (go_at_call 14; refine (S3.out _ B6).mono ?_; rintro e w7 ⟨rfl, B7⟩))
  all_goals
    go_wp2_with fail
    go_ret
    exact ⟨ret_bool (by simp), hbw3.trans (B7.mono hbw3.size)⟩
end ParseSame
end Go.Proofs.YtkonkdhoakcmdaaGreatDoor
namespace Go.Proofs.YtkonkdhoakcmdaaGreatDoor
open Go.RowKit
namespace ParseSame

open Go.ChangeShapes Go.WideShapes Go.ChangeAt
open Go.ChangeMaps (open_string shut_string)
theorem own : ownKnob Tryz.prog.godebug = none := by kernel_rfl
theorem door_met (os : Os) (args : Array Value) : laidMetH Tryz.prog Rows.parseSameRow.laid ((World.doorLaid Tryz.prog 400 os).forCall (fun _ _ => 0) ⟨#[], args, []⟩).memory :=
  laidMetH_of_parts3 (fuel := 8) (laidMet_of_run' 8 (by kernel_rfl) (by kernel_rfl)) (by kernel_rfl) (by kernel_rfl)

set_option maxRecDepth 100000 in
theorem lifted (os : Os) (started : os.Started) (H : Type) (enc : TypeId × Value → H) :
    ReturnsInHanded {} Tryz.checked os 5 .any (fun w args => (Rows.parseSameSpec.pre enc Tryz.prog Tryz.f5 [] false w args ∧ laidMetH Tryz.prog Rows.parseSameRow.laid w) ∧ sizedMet enc Tryz.prog Tryz.f5 (OpenSpec.ofChange Rows.parseSameSpec) false w args)
      (Rows.parseSameSpec.post enc Tryz.prog Tryz.f5 false true false false) := by
  refine returnsInHanded_of_change_and (C := Tryz.checked) (X := fun w _ => laidMetH Tryz.prog Rows.parseSameRow.laid w) (fun _ _ _ hh h => h.of_heap hh) own started (by kernel_rfl) Tryz.func5
    (ChangeSpec.witness_shaped (enc := enc) (C := Tryz.checked) (os := os) (X := fun w _ => laidMetH Tryz.prog Rows.parseSameRow.laid w) false (World.doorLaid Tryz.prog 400 os) #[.string ByteArray.empty, .string ByteArray.empty] 8 rfl (World.shaped_of_RefB (by kernel_rfl) (by kernel_rfl)) (by kernel_rfl) (by kernel_rfl) (by kernel_rfl) (door_met os _)) ?_
  intro W base args ds gs before hval0 hW _ _ hL _
  have hval : ∀ (j : Nat) t v, Tryz.f5.params[j]? = some t → args[j]? = some v → Value.okWide Tryz.prog W .any base t v := hval0
  have hW' := hW
  obtain ⟨p, q, hA0, hV, rfl, hfz, hnd⟩ := hW
  have hA : DataW.TrodAll enc Tryz.prog W 0 (fun _ => true) true Tryz.f5.params.toList args.toList ds p := hA0
  rw [Tryz.params5] at hA hval
  obtain ⟨v0, vs0, d0, ds0, p0, q0, hargs, rfl, rfl, h0, r0⟩ := trodAll_cons hA
  obtain ⟨v1, vs1, d1, ds1, p1, q1, rfl, rfl, rfl, h1, r1⟩ := trodAll_cons r0
  obtain ⟨rfl, rfl, rfl⟩ := trodAll_nil r1
  obtain rfl : args = #[v0, v1] := by cases args; simp_all
  obtain ⟨rfl, rfl⟩ := trodVars_none hV
  obtain ⟨a0, rfl, rfl, rfl, w0⟩ := open_string Tryz.underlying9 (hval 0 9 v0 rfl rfl) h0
  obtain ⟨a1, rfl, rfl, rfl, w1⟩ := open_string Tryz.underlying9 (hval 1 9 v1 rfl rfl) h1
  clear hA0 hval0
  simp only [List.append_nil] at hW'
  refine (walk a0 a1 w0 w1 W).mono fun e W' ⟨he, hb⟩ => ?_
  subst he
  exact ⟨_, rfl, _, _, _, [], [], [], hW', trodAll_cons_mk (shut_bool Tryz.underlying4 _) trodAll_mk0, trodAll_cons_mk (shut_string Tryz.underlying9 w0) (trodAll_cons_mk (shut_string Tryz.underlying9 w1) trodAll_mk0), rfl, hb.frame _, fun h => by cases h⟩

theorem proved : Rows.ParseSameSaid :=
  OpenClaim.holds_of_wide 5 Tryz.f5 rfl rfl rfl rfl rfl rfl rfl ⟨rfl, rfl, rfl, rfl, rfl⟩ rfl rfl rfl rfl rfl (by kernel_rfl) Tryz.func5 (by kernel_rfl)
    (of_decide_eq_true (by kernel_rfl)) (by unfold Func.isWrapper; first | (rw [if_pos (by decide +kernel)]; kernel_rfl) | (rw [if_neg (by decide +kernel)]; exact ⟨rfl, rfl⟩))
    (fun os started H enc _ => lifted os started H enc)
end ParseSame

theorem parseSame_holds : Rows.ParseSameCardSaid :=
  Claim7.holds_tied_plain_at .later [] [.data, .data, .data, .sentinel, .sentinel] true Rows.parseSameCard.stood.harness true
    ParseSame.proved (fun _ h => by cases h) (by kernel_rfl) (fun _ h => by cases h) parseSame_row_tie rfl ⟨rfl, rfl⟩ (by kernel_rfl) rfl
    (fun f fn hf hfn => by
      obtain rfl : f = 5 := Option.some.inj ((show Tryz.prog.funcNamed Rows.parseSameRow.func = some 5 by kernel_rfl).symm.trans hf) |>.symm
      obtain rfl : fn = Tryz.f5 := (Option.some.inj (Tryz.func5.symm.trans hfn)).symm
      exact ⟨by kernel_rfl, fun j t ht => by
        rw [Tryz.params5] at ht
        have hm : t ∈ [9, 9] := by simpa using Array.mem_of_getElem? ht
        have hall : ([9, 9].all fun u => !Tryz.prog.wantsStandIn u) = true := by kernel_rfl
        exact (show Tryz.prog.wantsStandIn t = false by simpa using List.all_eq_true.1 hall t hm)⟩)
    (by kernel_rfl)
end Go.Proofs.YtkonkdhoakcmdaaGreatDoor
