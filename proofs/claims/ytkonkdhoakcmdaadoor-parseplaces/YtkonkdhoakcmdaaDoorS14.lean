/-
  PROVED: proteanlaw02.ParsePlaces, its card: whatever the string and the number are: true; they read as they did. The listed package variables start as the program's text lays them (the card ties them). No other conditions.
-/
import Derived.Test.YtkonkdhoakcmdaaDoorS13
import Derived.Test.YtkonkdhoakcmdaaDoorTie
import Derived.Test.YtkonkdhoakcmdaaDoorCards
import Derived.ProofKit
import Derived.LaidMore
import Derived.OpenShut
import Derived.ShutString
import Derived.Stop.Joined
import Derived.SevenTiedAt
set_option linter.unusedVariables false
namespace Go.Proofs.YtkonkdhoakcmdaaDoor
open Go.RowKit
namespace ParsePlaces

/-- which way it goes, from what was parsed -/
theorem way_of (s : ByteArray) (n : Int) (f : M.Flt) (hp : M.parse s.data.toList = .error f) : Way (M.lex s.data.toList).1 (M.lex s.data.toList).2.1 (M.lex s.data.toList).2.2 s.size f.1 f.2 n := by
  by_cases hc : (M.lex s.data.toList).2.1 = 0
  · by_cases h0 : n < 0
    · exact .low n hc h0
    · by_cases h1 : ((M.lex s.data.toList).1.length : Int) < n
      · exact .high n hc (by omega) h1
      · by_cases h2 : n.toNat < (M.lex s.data.toList).1.length
        · by_cases h3 : f.2 < ((M.lex s.data.toList).1[n.toNat]'h2).p
          · exact .behind n hc (by omega) h2 h3
          · have := M.parse_ahead hc hp n.toNat h2 (by omega)
            rw [len_list] at this
            rcases this with ⟨p, e⟩ | e
            · exact .good n hc (by omega) h2 (by omega) p (0, 0) (by unfold Hid M.readR; rw [e]) (.inl rfl)
            · exact .good n hc (by omega) h2 (by omega) [] (20, (s.size : Int)) (by unfold Hid M.readR; rw [e]) (.inr rfl)
        · refine .all n hc (by omega) [] ?_
          unfold M.parse at hp
          rw [if_pos hc, len_list] at hp
          unfold Hid M.readR
          rw [hp]
  · exact .lex n hc

theorem walk (s : ByteArray) (n : Int) (hs : s.size ≤ maxLen) (w : World) :
    Calls Tryd.prog 3 #[.string s, .int .i64 n] w fun e w' => e = .returned (.bool true) ∧ Below w.heap.size w w' := by
  by_cases hz : s.size ≤ 2000
  · cases hp : M.parse s.data.toList with
    | ok p => exact walk_easy s n w hs p 0 0 (M.parseR_ok hp) (.inr ⟨hz, rfl, rfl⟩)
    | error f =>
      obtain ⟨p0, p1⟩ := M.parse_place (by rw [len_list]; omega) hp
      rw [len_list] at p1
      exact walk_hard s n w hz f.1 f.2 (M.parse_nz _ f hp) p0 p1 (M.parseR_err hp) _ _ _ rfl (M.lex_small _).1 (way_of s n f hp)
  · cases hp : M.parse s.data.toList with
    | ok p => exact walk_easy s n w hs p 0 0 (M.parseR_ok hp) (.inl (by omega))
    | error f => exact walk_easy s n w hs [] f.1 f.2 (M.parseR_err hp) (.inl (by omega))

open Go.ChangeShapes Go.WideShapes Go.ChangeAt
open Go.ChangeMaps (open_string shut_string)
theorem own : ownKnob Tryd.prog.godebug = none := by kernel_rfl
theorem door_met (os : Os) (args : Array Value) : laidMetH Tryd.prog Rows.parsePlacesRow.laid ((World.doorLaid Tryd.prog 400 os).forCall (fun _ _ => 0) ⟨#[], args, []⟩).memory :=
  laidMetH_of_parts3 (fuel := 8) (laidMet_of_run' 8 (by kernel_rfl) (by kernel_rfl)) (by kernel_rfl) (by kernel_rfl)

set_option maxRecDepth 100000 in
theorem lifted (os : Os) (started : os.Started) (H : Type) (enc : TypeId × Value → H) :
    ReturnsInHanded {} Tryd.checked os 3 .any (fun w args => (Rows.parsePlacesSpec.pre enc Tryd.prog Tryd.f3 [] false w args ∧ laidMetH Tryd.prog Rows.parsePlacesRow.laid w) ∧ sizedMet enc Tryd.prog Tryd.f3 (OpenSpec.ofChange Rows.parsePlacesSpec) false w args)
      (Rows.parsePlacesSpec.post enc Tryd.prog Tryd.f3 false true false false) := by
  refine returnsInHanded_of_change_and (C := Tryd.checked) (X := fun w _ => laidMetH Tryd.prog Rows.parsePlacesRow.laid w) (fun _ _ _ hh h => h.of_heap hh) own started (by kernel_rfl) Tryd.func3
    (ChangeSpec.witness_shaped (enc := enc) (C := Tryd.checked) (os := os) (X := fun w _ => laidMetH Tryd.prog Rows.parsePlacesRow.laid w) false (World.doorLaid Tryd.prog 400 os) #[.string ByteArray.empty, .int .i64 0] 8 rfl (World.shaped_of_RefB (by kernel_rfl) (by kernel_rfl)) (by kernel_rfl) (by kernel_rfl) (by kernel_rfl) (door_met os _)) ?_
  intro W base args ds gs before hval0 hW _ _ hL _
  have hval : ∀ (j : Nat) t v, Tryd.f3.params[j]? = some t → args[j]? = some v → Value.okWide Tryd.prog W .any base t v := hval0
  have hW' := hW
  obtain ⟨p, q, hA0, hV, rfl, hfz, hnd⟩ := hW
  have hA : DataW.TrodAll enc Tryd.prog W 0 (fun _ => true) true Tryd.f3.params.toList args.toList ds p := hA0
  rw [Tryd.params3] at hA hval
  obtain ⟨v0, vs0, d0, ds0, p0, q0, hargs, rfl, rfl, h0, r0⟩ := trodAll_cons hA
  obtain ⟨v1, vs1, d1, ds1, p1, q1, rfl, rfl, rfl, h1, r1⟩ := trodAll_cons r0
  obtain ⟨rfl, rfl, rfl⟩ := trodAll_nil r1
  obtain rfl : args = #[v0, v1] := by cases args; simp_all
  obtain ⟨rfl, rfl⟩ := trodVars_none hV
  obtain ⟨a0, rfl, rfl, rfl, w0⟩ := open_string Tryd.underlying9 (hval 0 9 v0 rfl rfl) h0
  obtain ⟨a1, rfl, rfl, rfl, w1⟩ := open_int Tryd.underlying3 (hval 1 3 v1 rfl rfl) h1
  clear hA0 hval0
  simp only [List.append_nil] at hW'
  refine (walk a0 a1 w0 W).mono fun e W' ⟨he, hb⟩ => ?_
  subst he
  exact ⟨_, rfl, _, _, _, [], [], [], hW', trodAll_cons_mk (shut_bool Tryd.underlying4 _) trodAll_mk0, trodAll_cons_mk (shut_string Tryd.underlying9 w0) (trodAll_cons_mk (shut_int Tryd.underlying3 w1) trodAll_mk0), rfl, hb.frame _, fun h => by cases h⟩

theorem proved : Rows.ParsePlacesSaid :=
  OpenClaim.holds_of_wide 3 Tryd.f3 rfl rfl rfl rfl rfl rfl rfl ⟨rfl, rfl, rfl, rfl, rfl⟩ rfl rfl rfl rfl rfl (by kernel_rfl) Tryd.func3 (by kernel_rfl)
    (of_decide_eq_true (by kernel_rfl)) (by unfold Func.isWrapper; first | (rw [if_pos (by decide +kernel)]; kernel_rfl) | (rw [if_neg (by decide +kernel)]; exact ⟨rfl, rfl⟩))
    (fun os started H enc _ => lifted os started H enc)
end ParsePlaces

theorem parsePlaces_holds : Rows.ParsePlacesCardSaid :=
  Claim7.holds_tied_plain_at .later [] [.data, .data, .data, .sentinel, .sentinel] true Rows.parsePlacesCard.stood.harness true
    ParsePlaces.proved (fun _ h => by cases h) (by kernel_rfl) (fun _ h => by cases h) parsePlaces_row_tie rfl ⟨rfl, rfl⟩ (by kernel_rfl) rfl
    (fun f fn hf hfn => by
      obtain rfl : f = 3 := Option.some.inj ((show Tryd.prog.funcNamed Rows.parsePlacesRow.func = some 3 by kernel_rfl).symm.trans hf) |>.symm
      obtain rfl : fn = Tryd.f3 := (Option.some.inj (Tryd.func3.symm.trans hfn)).symm
      exact ⟨by kernel_rfl, fun j t ht => by
        rw [Tryd.params3] at ht
        have hm : t ∈ [9, 3] := by simpa using Array.mem_of_getElem? ht
        have hall : ([9, 3].all fun u => !Tryd.prog.wantsStandIn u) = true := by kernel_rfl
        exact (show Tryd.prog.wantsStandIn t = false by simpa using List.all_eq_true.1 hall t hm)⟩)
    (by kernel_rfl)
end Go.Proofs.YtkonkdhoakcmdaaDoor
