/-
  The walks of the document's Get and May of shapes, and of the law's small. Conditions: shapes of at most 100000 fields of as many atoms (small: fewer than 2^40 fields).
-/
import Derived.Test.YtbaaeobdjiglgaaGreatGF
set_option linter.unusedVariables false
set_option linter.unusedSimpArgs false
namespace Go.Proofs.YtbaaeobdjiglgaaGreat
open Go.RowKit Go.Sort

set_option maxHeartbeats 2000000 in
theorem rget_any (w : World) (v : Value) (s : M.Shp) (n : ByteArray) (h : ShAt w v s) (hK : M.Sm 100000 s) :
    Calls Tryz.prog 64 #[v, .string n] w fun e w' => ∃ x : Cel, e = .returned (.tuple #[fv x, .bool (M.getF s.fs n).isSome]) ∧ x.f = (M.getF s.fs n).getD zeroF ∧ OneAt w' x ∧ Below w.heap.size w w' := by
  obtain ⟨R, a, c, b, d, hs, rfl, hR, hP⟩ := h.open
  have mixed := mixedP
  obtain ⟨hn, hvs, hpn⟩ := sm_fs hK hs
  have HF : Hid (s.fs = fldOf R) := by rw [hs]; rfl
  have T := hid hR
  have HV := hid hvs
  obtain ⟨sp, hsp⟩ : ∃ l, s.pr = l := ⟨_, rfl⟩
  rw [hsp]
  clear h hs hK hR hP hvs hsp hpn
  rw [HF.out]
  obtain ⟨W0, hW0⟩ : ∃ W0, (w.alloc (.cells #[.slice a R.length c, .slice b sp.length d] 31)).alloc (.cells #[.string ⟨#[]⟩, .bool false, .slice none 0 0] 49) = W0 := ⟨_, rfl⟩
  have hb1 := (gr_new w (.cells #[.slice a R.length c, .slice b sp.length d] 31)).below
  have hb2 := (gr_new (w.alloc (.cells #[.slice a R.length c, .slice b sp.length d] 31)) (.cells #[.string ⟨#[]⟩, .bool false, .slice none 0 0] 49)).below
  have p1 := kept (new_at w (.cells #[.slice a R.length c, .slice b sp.length d] 31)) (by simp) hb2
  have p2 := new_at (w.alloc (.cells #[.slice a R.length c, .slice b sp.length d] 31)) (.cells #[.string ⟨#[]⟩, .bool false, .slice none 0 0] 49)
  rw [World.size_alloc] at p2
  have hz : w.heap.size + 1 < W0.heap.size := by rw [← hW0]; simp
  have hB : Below w.heap.size w W0 := by rw [← hW0]; exact hb1.trans (hb2.mono hb1.size)
  rw [hW0] at p1 p2
  have B0 := hid hB
  have P1 := hid p1
  have P2 := hid p2
  clear hb1 hb2 hB p1 p2
  go_enter Tryz.func64, Tryz.ntmps64
  go_wp2
  clear hW0
  go_loopw [6] (fun i w' => ∃ j : Nat, j ≤ R.length ∧ i = .int .i64 j ∧ Hid (Seen (fldOf R) n j) ∧ Hid (w' = W0)) (fun i _ => R.length - (intOf i).toNat)
  case atStart => exact ⟨0, Nat.zero_le _, rfl, (fun _ _ h => absurd h (Nat.not_lt_zero _)), rfl⟩
  case round =>
    obtain ⟨j, hj, rfl, hm, hww⟩ := hrel
    obtain rfl := hww.out
    obtain ⟨e1, e2, ef⟩ := cells2 P1.out
    obtain ⟨d1, d2, d3, df⟩ := cells3 P2.out
    by_cases hjl : j < R.length
    · obtain ⟨bb, o, rfl, hlt, hc⟩ := Rs_some T.out hjl
      have TR := (hc j hjl).bel hlt B0.out
      have HX := hid (T.out.1 _ (List.getElem_mem hjl))
      obtain ⟨x, hx⟩ : ∃ x, R[j] = x := ⟨_, rfl⟩
      rw [hx] at TR HX
      have HXE := hid hx
      clear hx hc
      obtain ⟨c1, c2, c3⟩ := TR
      by_cases he : x.f.nm = n
      · have HE := hid he
        have hd : (x.f.nm.toList == n.toList) = true := by rw [same_name]; exact decide_eq_true he
        clear he
        go_wp2
        refine bodyPost_ret (v := .tuple #[fv x, .bool true]) (by unfold fv; simp [results, Tryz.results64, go_sem, d1, d2, d3]) rfl ?_
        rw [seen_hitR hm.out hjl HXE.out HE.out]
        exact ⟨x, rfl, rfl, OneAt.bel HX.out (set3 B0.out (by omega) _ _ _), set3 B0.out (by omega) _ _ _⟩
      · have hd : (x.f.nm.toList == n.toList) = false := by rw [same_name]; exact decide_eq_false he
        have HE := hid he
        clear he
        go_wp2
        exact ⟨⟨j + 1, by omega, by go_num, seen_step hm.out hjl HXE.out HE.out, trivial⟩, by simp [intOf]; omega⟩
    · go_wp2
      refine bodyPost_ret (v := .tuple #[.agg #[.string ⟨#[]⟩, .bool false, .slice none 0 0], .bool false]) (by simp [results, Tryz.results64, go_sem, d1, d2, d3]) rfl ?_
      rw [seen_end hm.out (by rw [fldOf_len]; omega)]
      exact ⟨⟨zeroF, none, 0⟩, rfl, rfl, AtAt.nil _, set3 B0.out (by omega) _ _ _⟩

set_option maxHeartbeats 2000000 in
theorem rmayS_any (w : World) (v : Value) (s : M.Shp) (h : ShAt w v s) (hK : M.Sm 100000 s) :
    Calls Tryz.prog 16 #[v] w fun e w' => e = .returned (.bool (M.mayS s)) ∧ Below w.heap.size w w' := by
  obtain ⟨R, a, c, b, d, hs, rfl, hR, hP⟩ := h.open
  have mixed := mixedP
  obtain ⟨hn, hvs, hpn⟩ := sm_fs hK hs
  have HS := hid hs
  have T := hid hR
  have TP := hid hP
  have HV := hid hvs
  obtain ⟨sp, hsp⟩ : ∃ l, s.pr = l := ⟨_, rfl⟩
  rw [hsp] at HS TP hpn ⊢
  clear h hs hK hR hP hvs hsp
  have X0 := hid (two_cells w (.slice a R.length c) (.slice b sp.length d) 31)
  have B0 := hid (gr_new w (.cells #[.slice a R.length c, .slice b sp.length d] 31)).below
  have hz0 : w.heap.size < (w.alloc (.cells #[.slice a R.length c, .slice b sp.length d] 31)).heap.size := by simp
  go_enter Tryz.func16, Tryz.ntmps16
  obtain ⟨W0, hW0⟩ : ∃ W0, w.alloc (.cells #[.slice a R.length c, .slice b sp.length d] 31) = W0 := ⟨_, rfl⟩
  rw [hW0] at X0 B0 hz0
  go_wp2
  clear hW0
  go_loopw [3] (fun i w' => ∃ j : Nat, j ≤ R.length ∧ i = .int .i64 j ∧ Hid (MayUpF R j) ∧ Hid (Below W0.heap.size W0 w')) (fun i _ => R.length - (intOf i).toNat)
  case atStart => exact ⟨0, Nat.zero_le _, rfl, mayUpF_zero R, Below.refl _ _⟩
  case round =>
    obtain ⟨j, hj, rfl, hm, hbel⟩ := hrel
    have hBW : Hid (Below w.heap.size w wr) := B0.out.trans (hbel.out.mono (Nat.le_of_lt hz0))
    have hwr : w.heap.size < wr.heap.size := Nat.lt_of_lt_of_le hz0 hbel.out.size
    obtain ⟨x1, x2⟩ := two_bel X0.out hz0 hbel.out
    by_cases hjl : j < R.length
    · obtain ⟨bb, o, rfl, hlt, hc⟩ := Rs_some T.out hjl
      have TR := (hc j hjl).bel hlt hBW.out
      have HX := hid (T.out.1 _ (List.getElem_mem hjl))
      have hxl := HV.out _ (List.getElem_mem hjl)
      obtain ⟨x, hx⟩ : ∃ x, R[j] = x := ⟨_, rfl⟩
      rw [hx] at TR HX hxl
      have HXE := hid hx
      have HC := hid hc
      clear hx hc
      have hbr : bb < wr.heap.size := by omega
      have HA : Hid (AtAt wr (.slice x.a x.f.vs.length x.c) x.f.vs) := AtAt.bel HX.out hBW.out
      have K1 := fun W (hb : Below wr.heap.size wr W) => rmay_any W _ _ (HA.out.bel hb) hxl
      obtain ⟨N1, N2, N3⟩ := bel_tri hbr TR
      have Y1 := bel_cell hwr x1
      cases hok : M.mayL x.f.vs with
      | false =>
        rw [hok] at K1
        have HOK := hid hok
        have HK1 := hid (call_bel K1)
        clear hok K1 x2 TR
        go_wp2_with fail
        clear x1
        refine wp_region_quiet_bel (by assumption) (by kernel_rfl) ?_
        intro hneq
        repeat (
          with_reducible refine wpQuiet_step (fun K hK => ?_)
          go_simp
          first
            | (with_reducible refine hK _ ?_; clear hK K)
            | (rw [if_neg (by simp [undef])]; with_reducible refine hK _ ?_; clear hK K)
            | (apply Exists.intro
               refine ⟨fun _ => ?_, hK _ ?_⟩
               (first | (go_at_call 44; with_reducible exact HK1.out _))
               clear hK K))
        with_reducible refine wpQuiet_nil ?_
        intro _ hw0
        obtain ⟨pq, hw1⟩ := hw0
        subst hw1
        clear hneq
        go_wp2
        go_ret
        refine ⟨ret_bool ?_, B0.out.trans ((hbel.out.trans (pq.h.mono hbel.out.size)).mono (Nat.le_of_lt hz0))⟩
        rw [HS.out]
        exact (mayF_no hjl (by rw [HXE.out]; exact HOK.out)).symm
      | true =>
        rw [hok] at K1
        have HOK := hid hok
        have HK1 := hid (call_bel K1)
        clear hok K1 x2 TR
        rcases Nat.eq_zero_or_pos j with rfl | hj0
        · simp only [Nat.zero_mul, Nat.add_zero] at N1 N2 N3
          go_wp2_with fail
          clear x1
          refine wp_region_quiet_bel (by assumption) (by kernel_rfl) ?_
          intro hneq
          repeat (
            with_reducible refine wpQuiet_step (fun K hK => ?_)
            go_simp
            first
              | (with_reducible refine hK _ ?_; clear hK K)
              | (rw [if_neg (by simp [undef])]; with_reducible refine hK _ ?_; clear hK K)
              | (apply Exists.intro
                 refine ⟨fun _ => ?_, hK _ ?_⟩
                 (first | (go_at_call 44; with_reducible exact HK1.out _))
                 clear hK K))
          with_reducible refine wpQuiet_nil ?_
          intro _ hw0
          obtain ⟨pq, hw1⟩ := hw0
          subst hw1
          clear hneq
          go_wp2
          refine ⟨⟨1, by omega, by go_num, mayUpF_first hjl (by rw [HXE.out]; exact HOK.out), hbel.out.trans (pq.h.mono hbel.out.size)⟩, by simp [intOf]; omega⟩
        · obtain ⟨t, ht⟩ : ∃ t, j = t + 1 := ⟨j - 1, by omega⟩
          have htl : t < R.length := by omega
          have hsub : IntKind.i64.wrap ((j : Int) - 1) = (t : Int) := by rw [IntKind.wrap_i64]; omega
          have hpos : decide ((j : Int) > 0) = true := decide_eq_true (by omega)
          have hpos2 : (0 : Int) < (j : Int) := by omega
          have HT := hid ht
          clear ht
          have TY := (HC.out t htl).bel hlt hBW.out
          obtain ⟨y, hy⟩ : ∃ y, R[t] = y := ⟨_, rfl⟩
          rw [hy] at TY
          have HY := hid hy
          clear hy
          obtain ⟨D1, _, _⟩ := bel_tri hbr TY
          clear TY
          cases hl : M.ltN y.f.nm x.f.nm with
          | false =>
            have HL := hid hl
            rw [← less_ltN] at hl
            go_wp2_with fail
            clear x1
            refine wp_region_quiet_bel (by assumption) (by kernel_rfl) ?_
            intro hneq
            repeat (
              with_reducible refine wpQuiet_step (fun K hK => ?_)
              go_simp
              first
                | (with_reducible refine hK _ ?_; clear hK K)
                | (rw [if_neg (by simp [undef])]; with_reducible refine hK _ ?_; clear hK K)
                | (apply Exists.intro
                   refine ⟨fun _ => ?_, hK _ ?_⟩
                   (first | (go_at_call 44; with_reducible exact HK1.out _))
                   clear hK K))
            with_reducible refine wpQuiet_nil ?_
            intro _ hw0
            obtain ⟨pq, hw1⟩ := hw0
            subst hw1
            clear hneq
            go_wp2
            go_ret
            obtain rfl := HT.out
            refine ⟨ret_bool ?_, B0.out.trans ((hbel.out.trans (pq.h.mono hbel.out.size)).mono (Nat.le_of_lt hz0))⟩
            rw [HS.out]
            exact (mayF_fall hjl (by rw [HXE.out, HY.out]; exact HL.out)).symm
          | true =>
            have HL := hid hl
            rw [← less_ltN] at hl
            go_wp2_with fail
            clear x1
            refine wp_region_quiet_bel (by assumption) (by kernel_rfl) ?_
            intro hneq
            repeat (
              with_reducible refine wpQuiet_step (fun K hK => ?_)
              go_simp
              first
                | (with_reducible refine hK _ ?_; clear hK K)
                | (rw [if_neg (by simp [undef])]; with_reducible refine hK _ ?_; clear hK K)
                | (apply Exists.intro
                   refine ⟨fun _ => ?_, hK _ ?_⟩
                   (first | (go_at_call 44; with_reducible exact HK1.out _))
                   clear hK K))
            with_reducible refine wpQuiet_nil ?_
            intro _ hw0
            obtain ⟨pq, hw1⟩ := hw0
            subst hw1
            clear hneq
            go_wp2
            obtain rfl := HT.out
            refine ⟨⟨t + 1 + 1, by omega, by go_num, mayUpF_step hm.out hjl (by rw [HXE.out]; exact HOK.out) (by rw [HXE.out, HY.out]; exact HL.out), hbel.out.trans (pq.h.mono hbel.out.size)⟩, by simp [intOf]; omega⟩
    · have K1 := hid (rmay_any wr _ sp (TP.out.bel hBW.out) (by omega))
      go_wp2_with (go_at_call 44; refine stopHere ?_)
      refine stopAt ?_
      refine K1.out.mono ?_
      rintro e w3 ⟨rfl, hb3⟩
      go_wp2
      go_ret
      refine ⟨ret_bool ?_, hBW.out.trans (hb3.mono hBW.out.size)⟩
      rw [HS.out]
      exact (mayF_end hm.out (by omega)).symm

/-- the first j fields have few atoms -/
def FewUp (R : List Cel) (j : Nat) : Prop := ∀ i (h : i < R.length), i < j → R[i].f.vs.length ≤ 60
theorem few_end {R : List Cel} {pr : List M.Atm} {j : Nat} (h : FewUp R j) (hj : R.length ≤ j) : M.smallB ⟨fldOf R, pr⟩ = (decide (R.length ≤ 60) && decide (pr.length ≤ 60)) := by
  unfold M.smallB
  have : ((fldOf R).all fun f => decide (f.vs.length ≤ 60)) = true := by
    rw [List.all_eq_true]
    intro f hf
    obtain ⟨x, hx, rfl⟩ := List.mem_map.1 hf
    obtain ⟨i, hi, rfl⟩ := List.getElem_of_mem hx
    exact decide_eq_true (h i hi (by omega))
  show ((fldOf R).all (fun f => decide (f.vs.length ≤ 60)) && decide ((fldOf R).length ≤ 60) && decide (pr.length ≤ 60)) = _
  rw [this, fldOf_len, Bool.true_and]
theorem few_no {R : List Cel} {pr : List M.Atm} {j : Nat} (hj : j < R.length) (h : ¬ R[j].f.vs.length ≤ 60) : M.smallB ⟨fldOf R, pr⟩ = false := by
  cases hb : M.smallB ⟨fldOf R, pr⟩ with
  | false => rfl
  | true => exact absurd ((M.small_sm hb).2.1 R[j].f (List.mem_map.2 ⟨_, List.getElem_mem hj, rfl⟩)) h

end Go.Proofs.YtbaaeobdjiglgaaGreat
