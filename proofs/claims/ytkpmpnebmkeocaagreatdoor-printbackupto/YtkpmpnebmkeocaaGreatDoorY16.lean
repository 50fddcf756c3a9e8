/-
  The walk of the law PrintBack: a program that may be printed is parsed from its print as it was; unlike ones have unlike prints. Conditions: what the programs are in memory; that operands' numbers are some; that the table of powers lies as it should; a bound.
-/
import Derived.Test.YtkpmpnebmkeocaaGreatDoorYT
import Derived.Test.YtkpmpnebmkeocaaGreatDoorK2
import Derived.Test.YtkpmpnebmkeocaaGreatDoorSC
import Derived.Deep.RegionHeld3
set_option linter.unusedVariables false
set_option linter.unusedSimpArgs false
namespace Go.Proofs.YtkpmpnebmkeocaaGreatDoor
open Go.RowKit

theorem parseR_text' {p : List M.Fn} (h : M.rProg p) (hl : (M.text p).length ≤ 65536) : M.parseR (M.text p) = (p, (0, 0)) := by rw [parseR_eq, M.parse_text h hl]
theorem fxE : M.parseR [] = ([], (0, 0)) := by kernel_rfl
namespace PrintBack
set_option maxRecDepth 8000 in
set_option maxHeartbeats 4000000 in
theorem walk (w : World) (v u : Value) (p q : List M.Fn) (hv : ProgAt w NoX v p) (hu : ProgAt w NoX u q) (hN : ∀ f ∈ p, f.body.sz ≤ 4294967296) (hM : ∀ f ∈ q, f.body.sz ≤ 4294967296) (hr : RngP p) (hs : RngP q) (htab : TabW w) :
    Calls Tryz.prog 5 #[.agg #[v], .agg #[u]] w fun e w' => e = .returned (.bool true) ∧ Below w.heap.size w w' := by
  obtain ⟨va, vc, rfl⟩ : ∃ a c, v = .slice a p.length c := by obtain ⟨_, h1, _⟩ := hv; exact SlAt.form h1
  obtain ⟨ua, uc, rfl⟩ : ∃ a c, u = .slice a q.length c := by obtain ⟨_, h1, _⟩ := hu; exact SlAt.form h1
  have hb0 : Below w.heap.size w ((w.alloc (.cells #[.slice va p.length vc] 24)).alloc (.cells #[.slice ua q.length uc] 24)) := ((Below.refl _ w).alloc (Nat.le_refl _) _).alloc (by simp) _
  have bx := heap_al (o' := .cells #[.slice ua q.length uc] 24) (heap_alloc_new w (.cells #[.slice va p.length vc] 24))
  have by' := heap_alloc_new (w.alloc (.cells #[.slice va p.length vc] 24)) (.cells #[.slice ua q.length uc] 24)
  rw [World.size_alloc] at by'
  have hv0 := hv.keep (Below.keepX hb0)
  have hu0 := hu.keep (Below.keepX hb0)
  have ht0 := htab.below hb0
  go_enter Tryz.func5, Tryz.ntmps5
  go_wp2_with (go_at_call 9; refine stopHere ?_)
  refine stopAt ?_
  generalize (w.alloc (.cells #[.slice va p.length vc] 24)).alloc (.cells #[.slice ua q.length uc] 24) = W at hb0 bx by' hv0 hu0 ht0
  refine (rbigP_any W _ p hv0 hN).mono ?_
  rintro e w1 ⟨⟨big, rfl⟩, hb1⟩
  have B1 := hb0.trans (hb1.mono hb0.size)
  have bx1 := kept hb1 bx
  have by1 := kept hb1 by'
  have hv1 := hv0.keep (Below.keepX hb1)
  have hu1 := hu0.keep (Below.keepX hb1)
  have ht1 := ht0.below hb1
  have c1 := cell0 bx1
  have k1 := cell0 by1
  cases big with
  | true =>
    go_wp2_with (go_at_call 10; refine stopHere ?_)
    refine stopAt ?_
    refine (fixed_any _ ht1).mono ?_
    rintro e w2 ⟨rfl, hb2⟩
    go_wp2_with fail
    go_ret
    exact ⟨rfl, B1.trans (hb2.mono B1.size)⟩
  | false =>
    go_wp2_with (go_at_call 9; refine stopHere ?_)
    refine stopAt ?_
    refine (rbigP_any w1 _ q hu1 hM).mono ?_
    rintro e w2 ⟨⟨big, rfl⟩, hb2⟩
    have B2 := B1.trans (hb2.mono B1.size)
    have bx2 := kept hb2 bx1
    have by2 := kept hb2 by1
    have hv2 := hv1.keep (Below.keepX hb2)
    have hu2 := hu1.keep (Below.keepX hb2)
    have ht2 := ht1.below hb2
    clear c1 k1
    have c1 := cell0 bx2
    have k1 := cell0 by2
    cases big with
    | true =>
      go_wp2_with (go_at_call 10; refine stopHere ?_)
      refine stopAt ?_
      refine (fixed_any _ ht2).mono ?_
      rintro e w3 ⟨rfl, hb3⟩
      go_wp2_with fail
      go_ret
      exact ⟨rfl, B2.trans (hb3.mono B2.size)⟩
    | false =>
      have KH : Hid (∀ W', Below w2.heap.size w2 W' → W'.cell? ⟨w.heap.size, 0, none⟩ = some (.slice va p.length vc) ∧ W'.cell? ⟨w.heap.size + 1, 0, none⟩ = some (.slice ua q.length uc)) := fun W' h => ⟨cell0 (kept h bx2), cell0 (kept h by2)⟩
      have HP : Hid (∀ W', Below w2.heap.size w2 W' → Calls Tryz.prog 13 #[.agg #[.slice va p.length vc]] W' fun e w' => e = .returned (.string (prT p)) ∧ Below w2.heap.size w2 w') := fun W' h => (pprogram_any W' _ p (hv2.keep (Below.keepX h)) hr (ht2.below h)).mono fun e w' ⟨he, hb⟩ => ⟨he, h.trans (hb.mono h.size)⟩
      have HQ : Hid (∀ W', Below w2.heap.size w2 W' → Calls Tryz.prog 13 #[.agg #[.slice ua q.length uc]] W' fun e w' => e = .returned (.string (prT q)) ∧ Below w2.heap.size w2 w') := fun W' h => (pprogram_any W' _ q (hu2.keep (Below.keepX h)) hs (ht2.below h)).mono fun e w' ⟨he, hb⟩ => ⟨he, h.trans (hb.mono h.size)⟩
      have hbd : Below w2.heap.size w2 w2.drew := (Below.refl _ _).drew
      go_wp2_with fail
      go_region_held3 (fun w' => w'.cell? ⟨w.heap.size, 0, none⟩ = some (.slice va p.length vc) ∧ w'.cell? ⟨w.heap.size + 1, 0, none⟩ = some (.slice ua q.length uc)) (first | exact KH.out _ hb4 | exact KH.out _ hb3 | exact KH.out _ (Below.refl _ _).drew | exact KH.out _ (Below.refl _ _) | go_keep)
        (first | (go_at_call 13; with_reducible refine (HP.out _ hbd).mono ?_; rintro e w3 ⟨rfl, hb3⟩) | (go_at_call 13; with_reducible refine (HQ.out _ hb3).mono ?_; rintro e w4 ⟨rfl, hb4⟩))
      all_goals
        have B4 := B2.trans (hb4.mono B2.size)
        have bx4 := kept hb4 bx2
        have by4 := kept hb4 by2
        have hv4 := hv2.keep (Below.keepX hb4)
        have hu4 := hu2.keep (Below.keepX hb4)
        have ht4 := ht2.below hb4
        clear KH HP HQ c1 k1 hbd
        cases hpb : prB p with
        | false =>
          have hT := prt_none hpb
          rw [hT]
          go_wp2_with (go_at_call 17; refine stopHere ?_)
          refine stopAt ?_
          refine (rparseC _ _ _ _ w4 (by decide) rfl fxE).mono ?_
          rintro e w5 ⟨hb5, a2, c2, rfl, hQ5⟩
          simp only [List.length_nil]
          have B5 := B4.trans (hb5.mono B4.size)
          have ht5 := ht4.below hb5
          have bx5 := kept hb5 bx4
          have hv5 := hv4.keep (Below.keepX hb5)
          have hb6 : Below w5.heap.size w5 ((w5.alloc (.cells #[.slice a2 0 c2] 24)).alloc (.cells #[.int .i64 0, .int .i64 0] 39)) := ((Below.refl _ _).alloc (Nat.le_refl _) _).alloc (by simp) _
          have HB := hid hb6
          clear hb6
          go_wp2_with (go_at_call 10; refine stopHere ?_)
          refine stopAt ?_
          refine (fixed_any _ (ht5.below HB.out)).mono ?_
          rintro e w6 ⟨rfl, hb7⟩
          have B6 := B5.trans (HB.out.mono B5.size)
          have B7 := B6.trans (hb7.mono B6.size)
          have ht7 := (ht5.below HB.out).below hb7
          have hv7 := (hv5.keep (Below.keepX HB.out)).keep (Below.keepX hb7)
          have c7 := cell0 (kept hb7 (kept HB.out bx5))
          clear HB
          go_wp2_with (go_at_call 11; refine stopHere ?_)
          refine stopAt ?_
          refine (pmay_any _ _ p hv7 hr ht7).mono ?_
          rintro e w7 ⟨rfl, hb8⟩
          rw [hpb]
          have B8 := B7.trans (hb8.mono B7.size)
          have ht8 := ht7.below hb8
          go_wp2_with (go_at_call 10; refine stopHere ?_)
          refine stopAt ?_
          refine (fixed_any _ ht8).mono ?_
          rintro e w8 ⟨rfl, hb9⟩
          go_wp2_with fail
          go_ret
          exact ⟨rfl, B8.trans (hb9.mono B8.size)⟩
        | true =>
          obtain ⟨hrp, hlen, hT⟩ := prt_text hpb
          have hTs : (⟨(M.text p).toArray⟩ : ByteArray).size ≤ maxLen := by show (M.text p).toArray.size ≤ maxLen; rw [List.size_toArray]; unfold maxLen; omega
          have HPT := hid (parseR_text' hrp hlen)
          rw [hT]
          go_wp2_with (go_at_call 17; refine stopHere ?_)
          refine stopAt ?_
          refine (rparseC _ _ _ _ w4 hTs (by simp) HPT.out).mono ?_
          rintro e w5 ⟨hb5, a2, c2, rfl, hQ5⟩
          have B5 := B4.trans (hb5.mono B4.size)
          have ht5 := ht4.below hb5
          have bx5 := kept hb5 bx4
          have by5 := kept hb5 by4
          have hv5 := hv4.keep (Below.keepX hb5)
          have hu5 := hu4.keep (Below.keepX hb5)
          have hb6 : Below w5.heap.size w5 ((w5.alloc (.cells #[.slice a2 p.length c2] 24)).alloc (.cells #[.int .i64 0, .int .i64 0] 39)) := ((Below.refl _ _).alloc (Nat.le_refl _) _).alloc (by simp) _
          have g0 : ((w5.alloc (.cells #[.slice a2 p.length c2] 24)).alloc (.cells #[.int .i64 0, .int .i64 0] 39)).heap[w5.heap.size]? = some (.cells #[.slice a2 p.length c2] 24 (0, 0)) := heap_al (heap_alloc_new w5 _)
          have g1 : ((w5.alloc (.cells #[.slice a2 p.length c2] 24)).alloc (.cells #[.int .i64 0, .int .i64 0] 39)).heap[w5.heap.size + 1]? = some (.cells #[.int .i64 0, .int .i64 0] 39 (0, 0)) := by
            have := heap_alloc_new (w5.alloc (.cells #[.slice a2 p.length c2] 24)) (.cells #[.int .i64 0, .int .i64 0] 39)
            rw [World.size_alloc] at this; exact this
          have HB := hid hb6
          have HG0 := hid g0
          have HG1 := hid g1
          clear hb6 g0 g1
          go_wp2_with (go_at_call 10; refine stopHere ?_)
          refine stopAt ?_
          refine (fixed_any _ (ht5.below HB.out)).mono ?_
          rintro e w6 ⟨rfl, hb7⟩
          have B6 := B5.trans (HB.out.mono B5.size)
          have B7 := B6.trans (hb7.mono B6.size)
          have ht7 := (ht5.below HB.out).below hb7
          have hv7 := (hv5.keep (Below.keepX HB.out)).keep (Below.keepX hb7)
          have hu7 := (hu5.keep (Below.keepX HB.out)).keep (Below.keepX hb7)
          have hQ7 := (hQ5.keep (Below.keepX HB.out)).keep (Below.keepX hb7)
          have bx7 := kept hb7 (kept HB.out bx5)
          have by7 := kept hb7 (kept HB.out by5)
          have g07 := kept hb7 HG0.out
          have g17 := kept hb7 HG1.out
          have c7 := cell0 bx7
          clear HB HG0 HG1
          go_wp2_with (go_at_call 11; refine stopHere ?_)
          refine stopAt ?_
          refine (pmay_any _ _ p hv7 hr ht7).mono ?_
          rintro e w7 ⟨rfl, hb8⟩
          rw [hpb]
          have B8 := B7.trans (hb8.mono B7.size)
          have ht8 := ht7.below hb8
          have hv8 := hv7.keep (Below.keepX hb8)
          have hu8 := hu7.keep (Below.keepX hb8)
          have hQ8 := hQ7.keep (Below.keepX hb8)
          have bx8 := kept hb8 bx7
          have by8 := kept hb8 by7
          have g08 := kept hb8 g07
          have g18 := kept hb8 g17
          clear c7
          have c8 := cell0 bx8
          have k8 := cell0 by8
          have j8 := cell0 g08
          have d8 : w7.cell? ⟨w5.heap.size + 1, 0, none⟩ = some (.int .i64 0) := by rw [Lib.cell_of_heap g18]; rfl
          go_wp2_with (go_at_call 18; refine stopHere ?_)
          refine stopAt ?_
          refine (rsame_any w7 _ _ p p hQ8 hv8).mono ?_
          rintro e w8 ⟨rfl, hb9⟩
          have hpp : decide (p = p) = true := decide_eq_true rfl
          rw [hpp]
          have B9 := B8.trans (hb9.mono B8.size)
          have ht9 := ht8.below hb9
          have hv9 := hv8.keep (Below.keepX hb9)
          have hu9 := hu8.keep (Below.keepX hb9)
          have bx9 := kept hb9 bx8
          have by9 := kept hb9 by8
          clear c8 k8 j8 d8
          have c9 := cell0 bx9
          have k9 := cell0 by9
          go_wp2_with (go_at_call 11; refine stopHere ?_)
          refine stopAt ?_
          refine (pmay_any _ _ q hu9 hs ht9).mono ?_
          rintro e w9 ⟨rfl, hb10⟩
          have B10 := B9.trans (hb10.mono B9.size)
          have hv10 := hv9.keep (Below.keepX hb10)
          have hu10 := hu9.keep (Below.keepX hb10)
          have bx10 := kept hb10 bx9
          have by10 := kept hb10 by9
          clear c9 k9
          have c10 := cell0 bx10
          have k10 := cell0 by10
          cases hqb : prB q with
          | false =>
            go_wp2_with fail
            go_ret
            exact ⟨rfl, B10⟩
          | true =>
            obtain ⟨hrq, hlenq, hTq⟩ := prt_text hqb
            rw [hTq]
            go_wp2_with (go_at_call 18; refine stopHere ?_)
            refine stopAt ?_
            refine (rsame_any w9 _ _ p q hv10 hu10).mono ?_
            rintro e w10 ⟨rfl, hb11⟩
            have B11 := B10.trans (hb11.mono B10.size)
            have hst : ((M.text p == M.text q) == decide (p = q)) = true := by
              by_cases e : p = q
              · subst e; simp
              · have h1 : ¬ M.text p = M.text q := fun h => e (M.text_inj hrp hrq hlen h)
                simp [e, h1]
            go_wp2_with fail
            go_ret
            exact ⟨rfl, B11⟩
end PrintBack
end Go.Proofs.YtkpmpnebmkeocaaGreatDoor
