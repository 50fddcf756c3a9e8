/-
  The walks of the document's Place and May of states. Conditions: states of at most 100000 of each thing.
-/
import Derived.Test.YtbaaeobdjiglgaaGreatE6
import Derived.Test.YtbaaeobdjiglgaaGreatS7
set_option linter.unusedVariables false
set_option linter.unusedSimpArgs false
namespace Go.Proofs.YtbaaeobdjiglgaaGreat
open Go.RowKit Go.Sort
theorem M.may_all {d : Bool} {vs : List (ByteArray × List M.Atm)} {ls : List (M.Atm × M.Shp)} (h1 : M.okV vs) (h2 : M.okL ls) : M.maySt ⟨d, vs, ls⟩ = (!d || (vs.isEmpty && ls.isEmpty)) := by
  cases d with
  | true => rw [M.maySt_dead]; rfl
  | false => rw [← M.maySt_end h1 h2]; rfl
theorem M.no_V {d : Bool} {vs : List (ByteArray × List M.Atm)} {ls : List (M.Atm × M.Shp)} (h : ¬ M.okV vs) : false = M.maySt ⟨d, vs, ls⟩ := by
  cases d with
  | false => exact M.maySt_noV h
  | true =>
    rw [M.maySt_dead]
    cases vs with
    | nil => exact absurd ⟨List.Pairwise.nil, fun _ h => by cases h⟩ h
    | cons a b => rfl
theorem M.no_L {d : Bool} {vs : List (ByteArray × List M.Atm)} {ls : List (M.Atm × M.Shp)} (h : ¬ M.okL ls) : false = M.maySt ⟨d, vs, ls⟩ := by
  cases d with
  | false => exact M.maySt_noL h
  | true =>
    rw [M.maySt_dead]
    cases ls with
    | nil => exact absurd ⟨List.Pairwise.nil, fun _ h => by cases h⟩ h
    | cons a b => simp

set_option maxHeartbeats 1000000 in
theorem rplace_any (x : M.Atm) (w : World) : Calls Tryz.prog 45 #[av x] w fun e w' => e = .returned (.bool (M.placeB x)) ∧ Gr w w' := by
  unfold av
  by_cases h4 : x.k = 4
  · have e4 : (x.k == 4) = true := by simpa using h4
    have hp : M.placeB x = decide (x.n ≥ 0) := by unfold M.placeB; rw [decide_eq_true (.inl h4), Bool.true_and]
    rw [hp]
    clear h4 hp
    go_enter Tryz.func45, Tryz.ntmps45
    go_wp2
    all_goals
      go_ret
      refine ⟨ret_bool ?_, (Gr.refl _).alloc _⟩
      first | rfl | simp_all
  · have e4 : (x.k == 4) = false := by simpa using h4
    by_cases h5 : x.k = 5
    · have e5 : (x.k == 5) = true := by simpa using h5
      have hp : M.placeB x = decide (x.n ≥ 0) := by unfold M.placeB; rw [decide_eq_true (.inr h5), Bool.true_and]
      rw [hp]
      clear h4 h5 hp
      go_enter Tryz.func45, Tryz.ntmps45
      go_wp2
      all_goals
        go_ret
        refine ⟨ret_bool ?_, (Gr.refl _).alloc _⟩
        first | rfl | simp_all
    · have e5 : (x.k == 5) = false := by simpa using h5
      rw [M.placeB_not h4 h5]
      clear h4 h5
      go_enter Tryz.func45, Tryz.ntmps45
      go_wp2
      go_ret
      exact ⟨rfl, (Gr.refl _).alloc _⟩

set_option maxHeartbeats 8000000 in
set_option maxRecDepth 100000 in
theorem rmaySt_any (w : World) (v : Value) (s : M.Sta) (h : StAt w v s) (hK : M.SmSt 100000 s) :
    Calls Tryz.prog 15 #[v] w fun e w' => e = .returned (.bool (M.maySt s)) ∧ Below w.heap.size w w' := by
  obtain ⟨B, L, a, c, b, d, hs, rfl, hB, hL⟩ := h.open
  have mixed := mixedP
  obtain ⟨hn, hvs, hm, hls⟩ := smStB hK hs
  have HV := hid hvs
  have HL := hid hls
  have TB := hid hB
  have TL := hid hL
  obtain ⟨dd, hdd⟩ : ∃ x, s.dead = x := ⟨_, rfl⟩
  rw [hdd] at hs ⊢
  subst hs
  clear h hK hvs hls hB hL hdd
  obtain ⟨W0, hW0⟩ : ∃ W0, w.alloc (.cells #[.bool dd, .slice a B.length c, .slice b L.length d] 25) = W0 := ⟨_, rfl⟩
  have B0 : Hid (Below w.heap.size w W0) := by unfold Hid; rw [← hW0]; exact (gr_new _ _).below
  have P0 : Hid (W0.heap[w.heap.size]? = some (.cells #[.bool dd, .slice a B.length c, .slice b L.length d] 25 (0, 0))) := by unfold Hid; rw [← hW0]; exact new_at _ _
  have hz0 : w.heap.size < W0.heap.size := by rw [← hW0]; simp
  obtain ⟨x1, x2, x3, xf⟩ := cells3 P0.out
  go_enter Tryz.func15, Tryz.ntmps15
  go_wp2
  clear hW0 x1 x2 x3 xf
  go_loopw [3] (fun i w' => ∃ j : Nat, j ≤ B.length ∧ i = .int .i64 j ∧ Hid (MayUpB B j) ∧ Hid (Below W0.heap.size W0 w')) (fun i _ => B.length - (intOf i).toNat)
  case atStart => exact ⟨0, Nat.zero_le _, rfl, MayUpB_zero B, Below.refl _ _⟩
  case round =>
    obtain ⟨j, hj, rfl, hm', hbel⟩ := hrel
    have hBW : Hid (Below w.heap.size w wr) := B0.out.trans (hbel.out.mono (Nat.le_of_lt hz0))
    have PW := hid (kept P0.out hz0 hbel.out)
    obtain ⟨x1, x2, x3, xf⟩ := cells3 PW.out
    by_cases hjl : j < B.length
    · obtain ⟨bb, o, rfl, hlt, hc⟩ := Bs_some (TB.out.bel hBW.out) hjl
      obtain ⟨c1, c2⟩ := hc j hjl
      have HX := hid (((TB.out.bel hBW.out).2 _ (List.getElem_mem hjl)))
      have hxl := HV.out _ (List.getElem_mem hjl)
      have HC := hid hc
      obtain ⟨x, hx⟩ : ∃ x, B[j] = x := ⟨_, rfl⟩
      rw [hx] at c1 c2 HX hxl
      have HXE := hid hx
      clear hx hc
      obtain ⟨Y1, Y2, Y3⟩ := bel_box3 PW.out
      have N1 := bel_cell hlt c1
      have N2 := bel_cell hlt c2
      clear c1 c2
      have K1 := fun W (hb : Below wr.heap.size wr W) => rmay_any W _ _ (AtAt.bel HX.out hb) hxl
      unfold Bnd.v at K1
      cases hok : M.mayL x.vs with
      | false =>
        rw [hok] at K1
        have HOK := hid hok
        have HK1 := hid (call_bel K1)
        clear hok K1
        go_wp2_with fail
        clear x1 x2 x3 xf
        refine wp_region_quiet_bel (by assumption) (by kernel_rfl) ?_
        intro hneq
        repeat (
          with_reducible refine wpQuiet_step (fun K hK => ?_)
          go_simp
          first
            | (with_reducible refine hK _ ?_; clear hK K)
            | (rw [if_neg (by simp [undef])]; with_reducible refine hK _ ?_; clear hK K)
            | (apply Exists.intro
               refine ⟨fun _ => ?_, hK _ ?_⟩
               (first | (go_at_call 44; with_reducible exact HK1.out _))
               clear hK K))
        with_reducible refine wpQuiet_nil ?_
        intro _ hw0
        obtain ⟨pq, hw1⟩ := hw0
        subst hw1
        clear hneq
        go_wp2
        go_ret
        exact ⟨ret_bool (M.no_V (MayUpB_no hjl (by rw [HXE.out]; exact HOK.out))), B0.out.trans ((hbel.out.trans (pq.h.mono hbel.out.size)).mono (Nat.le_of_lt hz0))⟩
      | true =>
        rw [hok] at K1
        have HOK := hid hok
        have HK1 := hid (call_bel K1)
        clear hok K1
        rcases Nat.eq_zero_or_pos j with rfl | hj0
        · simp only [Nat.zero_mul, Nat.add_zero] at N1 N2
          go_wp2_with fail
          clear x1 x2 x3 xf
          refine wp_region_quiet_bel (by assumption) (by kernel_rfl) ?_
          intro hneq
          repeat (
            with_reducible refine wpQuiet_step (fun K hK => ?_)
            go_simp
            first
              | (with_reducible refine hK _ ?_; clear hK K)
              | (rw [if_neg (by simp [undef])]; with_reducible refine hK _ ?_; clear hK K)
              | (apply Exists.intro
                 refine ⟨fun _ => ?_, hK _ ?_⟩
                 (first | (go_at_call 44; with_reducible exact HK1.out _))
                 clear hK K))
          with_reducible refine wpQuiet_nil ?_
          intro _ hw0
          obtain ⟨pq, hw1⟩ := hw0
          subst hw1
          clear hneq
          go_wp2
          exact ⟨⟨1, by omega, by go_num, MayUpB_first hjl (by rw [HXE.out]; exact HOK.out), hid (hbel.out.trans (pq.h.mono hbel.out.size))⟩, by simp [intOf]; omega⟩
        · obtain ⟨t, ht⟩ : ∃ t, j = t + 1 := ⟨j - 1, by omega⟩
          have htl : t < B.length := by omega
          have hsub : IntKind.i64.wrap ((j : Int) - 1) = (t : Int) := by rw [IntKind.wrap_i64]; omega
          have hpos : decide ((j : Int) > 0) = true := decide_eq_true (by omega)
          have hpos2 : (0 : Int) < (j : Int) := by omega
          have HT := hid ht
          clear ht
          obtain ⟨d1, d2⟩ := HC.out t htl
          obtain ⟨y, hy⟩ : ∃ y, B[t] = y := ⟨_, rfl⟩
          rw [hy] at d1 d2
          have HY := hid hy
          clear hy
          have D1 := bel_cell hlt d1
          have D2 := bel_cell hlt d2
          clear d1 d2
          cases hl : M.ltN y.nm x.nm with
          | false =>
            have HLT := hid hl
            rw [← less_ltN] at hl
            go_wp2_with fail
            clear x1 x2 x3 xf
            refine wp_region_quiet_bel (by assumption) (by kernel_rfl) ?_
            intro hneq
            repeat (
              with_reducible refine wpQuiet_step (fun K hK => ?_)
              go_simp
              first
                | (with_reducible refine hK _ ?_; clear hK K)
                | (rw [if_neg (by simp [undef])]; with_reducible refine hK _ ?_; clear hK K)
                | (apply Exists.intro
                   refine ⟨fun _ => ?_, hK _ ?_⟩
                   (first | (go_at_call 44; with_reducible exact HK1.out _))
                   clear hK K))
            with_reducible refine wpQuiet_nil ?_
            intro _ hw0
            obtain ⟨pq, hw1⟩ := hw0
            subst hw1
            clear hneq
            go_wp2
            go_ret
            obtain rfl := HT.out
            exact ⟨ret_bool (M.no_V (MayUpB_fall hjl (by rw [HXE.out, HY.out]; exact HLT.out))), B0.out.trans ((hbel.out.trans (pq.h.mono hbel.out.size)).mono (Nat.le_of_lt hz0))⟩
          | true =>
            have HLT := hid hl
            rw [← less_ltN] at hl
            go_wp2_with fail
            clear x1 x2 x3 xf
            refine wp_region_quiet_bel (by assumption) (by kernel_rfl) ?_
            intro hneq
            repeat (
              with_reducible refine wpQuiet_step (fun K hK => ?_)
              go_simp
              first
                | (with_reducible refine hK _ ?_; clear hK K)
                | (rw [if_neg (by simp [undef])]; with_reducible refine hK _ ?_; clear hK K)
                | (apply Exists.intro
                   refine ⟨fun _ => ?_, hK _ ?_⟩
                   (first | (go_at_call 44; with_reducible exact HK1.out _))
                   clear hK K))
            with_reducible refine wpQuiet_nil ?_
            intro _ hw0
            obtain ⟨pq, hw1⟩ := hw0
            subst hw1
            clear hneq
            go_wp2
            obtain rfl := HT.out
            exact ⟨⟨t + 1 + 1, by omega, by go_num, MayUpB_step hm'.out hjl (by rw [HXE.out]; exact HOK.out) (by rw [HXE.out, HY.out]; exact HLT.out), hid (hbel.out.trans (pq.h.mono hbel.out.size))⟩, by simp [intOf]; omega⟩
    · have HE := hid (MayUpB_end hm'.out (by omega : B.length ≤ j))
      obtain ⟨W2, hW2⟩ : ∃ W2, W2 = wr := ⟨_, rfl⟩
      rw [← hW2] at x1 x2 x3 xf ⊢
      have hbel0 : Hid (Below W0.heap.size W0 W2) := by rw [hW2]; exact hbel.out
      clear hbel hm' hW2 hBW PW
      go_wp2
      clear x1 x2 x3 xf hj hjl
      go_loopw [4] (fun i w' => ∃ j : Nat, j ≤ L.length ∧ i = .int .i64 j ∧ Hid (MayUpL L j) ∧ Hid (Below W0.heap.size W0 w')) (fun i _ => L.length - (intOf i).toNat)
      case atStart => exact ⟨0, Nat.zero_le _, rfl, MayUpL_zero L, hbel0⟩
      case round =>
        obtain ⟨j, hj, rfl, hm', hbel⟩ := hrel
        have hBW : Hid (Below w.heap.size w wr) := B0.out.trans (hbel.out.mono (Nat.le_of_lt hz0))
        have PW := hid (kept P0.out hz0 hbel.out)
        obtain ⟨x1, x2, x3, xf⟩ := cells3 PW.out
        by_cases hjl : j < L.length
        · obtain ⟨bb, o, rfl, hlt, hc⟩ := Ls_some (TL.out.bel hBW.out) hjl
          obtain ⟨c1, c2, c3, c4⟩ := hc j hjl
          have HX := hid (((TL.out.bel hBW.out).2 _ (List.getElem_mem hjl)))
          have hxl := HL.out _ (List.getElem_mem hjl)
          have HC := hid hc
          obtain ⟨x, hx⟩ : ∃ x, L[j] = x := ⟨_, rfl⟩
          rw [hx] at c1 c2 c3 c4 HX hxl
          have HXE := hid hx
          clear hx hc
          obtain ⟨Y1, Y2, Y3⟩ := bel_box3 PW.out
          have N1 := bel_cell hlt c1
          have N2 := bel_cell hlt c2
          have N3 := bel_cell hlt c3
          have N4 := bel_cell hlt c4
          clear c1 c2 c3 c4
          have K1 := fun W (hb : Below wr.heap.size wr W) => gr_bel (rplace_any x.x W)
          unfold av at K1
          have K2 := fun W (hb : Below wr.heap.size wr W) => rmayS_any W _ x.s (ShAt.bel HX.out.2 hb) hxl
          unfold Lcl.v at K2
          cases hpl : M.placeB x.x with
          | false =>
            rw [hpl] at K1
            have HPL := hid hpl
            have HK1 := hid (call_bel K1)
            clear hpl K1 K2
            go_wp2_with fail
            clear x1 x2 x3 xf
            refine wp_region_quiet_bel (by assumption) (by kernel_rfl) ?_
            intro hneq
            repeat (
              with_reducible refine wpQuiet_step (fun K hK => ?_)
              go_simp
              first
                | (with_reducible refine hK _ ?_; clear hK K)
                | (rw [if_neg (by simp [undef])]; with_reducible refine hK _ ?_; clear hK K)
                | (apply Exists.intro
                   refine ⟨fun _ => ?_, hK _ ?_⟩
                   (first | (go_at_call 45; with_reducible exact HK1.out _))
                   clear hK K))
            with_reducible refine wpQuiet_nil ?_
            intro _ hw0
            obtain ⟨pq, hw1⟩ := hw0
            subst hw1
            clear hneq
            go_wp2
            go_ret
            exact ⟨ret_bool (M.no_L (MayUpL_no hjl (by rw [HXE.out]; rw [HPL.out]; rfl))), B0.out.trans ((hbel.out.trans (pq.h.mono hbel.out.size)).mono (Nat.le_of_lt hz0))⟩
          | true =>
            rw [hpl] at K1
            have HPL := hid hpl
            have HK1 := hid (call_bel K1)
            clear hpl K1
            cases hok : M.mayS x.s with
            | false =>
              rw [hok] at K2
              have HOK := hid hok
              have HK2 := hid (call_bel K2)
              clear hok K2
              go_wp2_with fail
              clear x1 x2 x3 xf
              refine wp_region_quiet_bel (by assumption) (by kernel_rfl) ?_
              intro hneq
              repeat (
                with_reducible refine wpQuiet_step (fun K hK => ?_)
                go_simp
                first
                  | (with_reducible refine hK _ ?_; clear hK K)
                  | (rw [if_neg (by simp [undef])]; with_reducible refine hK _ ?_; clear hK K)
                  | (apply Exists.intro
                     refine ⟨fun _ => ?_, hK _ ?_⟩
                     (first | (go_at_call 45; with_reducible exact HK1.out _) | (go_at_call 16; with_reducible exact HK2.out _))
                     clear hK K))
              with_reducible refine wpQuiet_nil ?_
              intro _ hw0
              obtain ⟨pq, hw1⟩ := hw0
              subst hw1
              clear hneq
              go_wp2
              go_ret
              exact ⟨ret_bool (M.no_L (MayUpL_no hjl (by rw [HXE.out]; rw [HPL.out, HOK.out]; rfl))), B0.out.trans ((hbel.out.trans (pq.h.mono hbel.out.size)).mono (Nat.le_of_lt hz0))⟩
            | true =>
              rw [hok] at K2
              have HOK := hid hok
              have HK2 := hid (call_bel K2)
              clear hok K2
              rcases Nat.eq_zero_or_pos j with rfl | hj0
              · simp only [Nat.zero_mul, Nat.add_zero] at N1 N2 N3 N4
                go_wp2_with fail
                clear x1 x2 x3 xf
                refine wp_region_quiet_bel (by assumption) (by kernel_rfl) ?_
                intro hneq
                repeat (
                  with_reducible refine wpQuiet_step (fun K hK => ?_)
                  go_simp
                  first
                    | (with_reducible refine hK _ ?_; clear hK K)
                    | (rw [if_neg (by simp [undef])]; with_reducible refine hK _ ?_; clear hK K)
                    | (apply Exists.intro
                       refine ⟨fun _ => ?_, hK _ ?_⟩
                       (first | (go_at_call 45; with_reducible exact HK1.out _) | (go_at_call 16; with_reducible exact HK2.out _))
                       clear hK K))
                with_reducible refine wpQuiet_nil ?_
                intro _ hw0
                obtain ⟨pq, hw1⟩ := hw0
                subst hw1
                clear hneq
                go_wp2
                exact ⟨⟨1, by omega, by go_num, MayUpL_first hjl (by rw [HXE.out]; rw [HPL.out, HOK.out]; rfl), hid (hbel.out.trans (pq.h.mono hbel.out.size))⟩, by simp [intOf]; omega⟩
              · obtain ⟨t, ht⟩ : ∃ t, j = t + 1 := ⟨j - 1, by omega⟩
                have htl : t < L.length := by omega
                have hsub : IntKind.i64.wrap ((j : Int) - 1) = (t : Int) := by rw [IntKind.wrap_i64]; omega
                have hpos : decide ((j : Int) > 0) = true := decide_eq_true (by omega)
                have hpos2 : (0 : Int) < (j : Int) := by omega
                have HT := hid ht
                clear ht
                obtain ⟨d1, d2, d3, d4⟩ := HC.out t htl
                obtain ⟨y, hy⟩ : ∃ y, L[t] = y := ⟨_, rfl⟩
                rw [hy] at d1 d2 d3 d4
                have HY := hid hy
                clear hy
                have D1 := bel_cell hlt d1
                have D2 := bel_cell hlt d2
                have D3 := bel_cell hlt d3
                have D4 := bel_cell hlt d4
                clear d1 d2 d3 d4
                have K3 := fun W (hb : Below wr.heap.size wr W) => gr_bel (less_any y.x x.x W)
                unfold av at K3
                cases hl : M.ltA y.x x.x with
                | false =>
                  rw [hl] at K3
                  have HLT := hid hl
                  have HK3 := hid (call_bel K3)
                  clear hl K3
                  go_wp2_with fail
                  clear x1 x2 x3 xf
                  refine wp_region_quiet_bel (by assumption) (by kernel_rfl) ?_
                  intro hneq
                  repeat (
                    with_reducible refine wpQuiet_step (fun K hK => ?_)
                    go_simp
                    first
                      | (with_reducible refine hK _ ?_; clear hK K)
                      | (rw [if_neg (by simp [undef])]; with_reducible refine hK _ ?_; clear hK K)
                      | (apply Exists.intro
                         refine ⟨fun _ => ?_, hK _ ?_⟩
                         (first | (go_at_call 45; with_reducible exact HK1.out _) | (go_at_call 16; with_reducible exact HK2.out _) | (go_at_call 46; with_reducible exact HK3.out _))
                         clear hK K))
                  with_reducible refine wpQuiet_nil ?_
                  intro _ hw0
                  obtain ⟨pq, hw1⟩ := hw0
                  subst hw1
                  clear hneq
                  go_wp2
                  go_ret
                  obtain rfl := HT.out
                  exact ⟨ret_bool (M.no_L (MayUpL_fall hjl (by rw [HXE.out, HY.out]; exact HLT.out))), B0.out.trans ((hbel.out.trans (pq.h.mono hbel.out.size)).mono (Nat.le_of_lt hz0))⟩
                | true =>
                  rw [hl] at K3
                  have HLT := hid hl
                  have HK3 := hid (call_bel K3)
                  clear hl K3
                  go_wp2_with fail
                  clear x1 x2 x3 xf
                  refine wp_region_quiet_bel (by assumption) (by kernel_rfl) ?_
                  intro hneq
                  repeat (
                    with_reducible refine wpQuiet_step (fun K hK => ?_)
                    go_simp
                    first
                      | (with_reducible refine hK _ ?_; clear hK K)
                      | (rw [if_neg (by simp [undef])]; with_reducible refine hK _ ?_; clear hK K)
                      | (apply Exists.intro
                         refine ⟨fun _ => ?_, hK _ ?_⟩
                         (first | (go_at_call 45; with_reducible exact HK1.out _) | (go_at_call 16; with_reducible exact HK2.out _) | (go_at_call 46; with_reducible exact HK3.out _))
                         clear hK K))
                  with_reducible refine wpQuiet_nil ?_
                  intro _ hw0
                  obtain ⟨pq, hw1⟩ := hw0
                  subst hw1
                  clear hneq
                  go_wp2
                  obtain rfl := HT.out
                  exact ⟨⟨t + 1 + 1, by omega, by go_num, MayUpL_step hm'.out hjl (by rw [HXE.out]; rw [HPL.out, HOK.out]; rfl) (by rw [HXE.out, HY.out]; exact HLT.out), hid (hbel.out.trans (pq.h.mono hbel.out.size))⟩, by simp [intOf]; omega⟩
        · have HE2 := hid (MayUpL_end hm'.out (by omega : L.length ≤ j))
          have HALL := hid (M.may_all (d := dd) HE.out HE2.out)
          have e1 : (bndOf B).isEmpty = decide (B.length = 0) := by cases B <;> simp [bndOf]
          have e2 : (lclOf L).isEmpty = decide (L.length = 0) := by cases L <;> simp [lclOf]
          rw [e1, e2] at HALL
          clear e1 e2
          cases dd with
          | false =>
            go_wp2
            go_ret
            exact ⟨ret_bool HALL.out.symm, hBW.out⟩
          | true =>
            by_cases h1 : B.length = 0
            · have f1 : ((B.length : Int) == 0) = true := by simp [h1]
              have H1 := hid (decide_eq_true h1)
              by_cases h2 : L.length = 0
              · have f2 : ((L.length : Int) == 0) = true := by simp [h2]
                have H2 := hid (decide_eq_true h2)
                clear h1 h2
                go_wp2
                go_ret
                exact ⟨ret_bool (by rw [HALL.out, H1.out, H2.out]; rfl), hBW.out⟩
              · have f2 : ((L.length : Int) == 0) = false := by rw [beq_eq_false_iff_ne]; omega
                have H2 := hid (decide_eq_false h2)
                clear h1 h2
                go_wp2
                go_ret
                exact ⟨ret_bool (by rw [HALL.out, H1.out, H2.out]; rfl), hBW.out⟩
            · have f1 : ((B.length : Int) == 0) = false := by rw [beq_eq_false_iff_ne]; omega
              have H1 := hid (decide_eq_false h1)
              clear h1
              go_wp2
              go_ret
              exact ⟨ret_bool (by rw [HALL.out, H1.out]; rfl), hBW.out⟩
end Go.Proofs.YtbaaeobdjiglgaaGreat
