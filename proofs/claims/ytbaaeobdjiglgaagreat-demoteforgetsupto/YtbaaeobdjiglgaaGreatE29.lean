/-
  The walks of the document's add, Norm and May of atoms, and of its May of shapes, for lists of at most 1048576. Conditions: these lengths.
-/
import Derived.Test.YtbaaeobdjiglgaaGreatS7
set_option linter.unusedVariables false
set_option linter.unusedSimpArgs false
namespace Go.Proofs.YtbaaeobdjiglgaaGreat
open Go.RowKit Go.Sort
set_option maxHeartbeats 4000000 in
set_option maxRecDepth 100000 in
theorem add_big (w : World) (v : Value) (l : List M.Atm) (x : M.Atm) (h : AtAt w v l) (hn : l.length ≤ 1048576) (hxr : InR x.n) :
    Calls Tryz.prog 68 #[v, av x] w fun e w' => ∃ v', e = .returned v' ∧ AtAt w' v' (M.add l x) ∧ Below w.heap.size w w' ∧ (v' = v ∨ ∀ k, v'.ownBlock = some k → w.heap.size ≤ k) := by
  obtain ⟨i0, hi, hz0, hz1, hz2⟩ := info_parts infoAtom
  have mixed := mixedP
  have GB := hid ((Gr.refl w).alloc (.cells #[.int .i64 x.k, .int .i64 x.n] 34))
  have TV := hid (h.bel GB.out.below)
  have RL := hid h.1
  have HXR := hid hxr
  obtain ⟨n1, n2⟩ := new_two w (.int .i64 x.k) (.int .i64 x.n) 34
  simp only [Nat.zero_add] at n2
  have K1 := right_any x (w.alloc (.cells #[.int .i64 x.k, .int .i64 x.n] 34))
  obtain ⟨a, cap, rfl⟩ := h.form
  have HC0 : Hid (l ≠ [] → ∃ b o, a = some ⟨b, o, none⟩ ∧ b < w.heap.size ∧ ∀ i (h : i < l.length), w.cell? ⟨b, o + i * 2, none⟩ = some (.int .i64 l[i].k) ∧ w.cell? ⟨b, o + i * 2 + 1, none⟩ = some (.int .i64 l[i].n)) := by
    intro hne
    obtain ⟨_, a', cap', hv, hh⟩ := h
    simp only [Value.slice.injEq] at hv
    obtain ⟨rfl, _, rfl⟩ := hv
    rcases hh with hh | ⟨b, o, h1, h2, _, h3⟩
    · exact absurd hh hne
    · exact ⟨b, o, h1, h2, h3⟩
  unfold av at *
  clear h hxr
  have N1 := hid n1
  have N2 := hid n2
  cases hok : M.okA x with
  | false =>
    rw [hok] at K1
    have hadd : Hid (M.add l x = l) := by unfold Hid M.add; rw [hok]; rfl
    have HK1 := hid K1
    clear hok K1
    go_enter Tryz.func68, Tryz.ntmps68
    go_wp2_with (go_at_call 87; refine stopHere ?_)
    refine stopAt ?_
    refine HK1.out.mono ?_
    rintro e w1 ⟨rfl, hg1⟩
    go_wp2
    go_ret
    rw [hadd.out]
    exact ⟨_, rfl, TV.out.bel hg1.below, (GB.out.trans hg1).below, .inl rfl⟩
  | true =>
    rw [hok] at K1
    have HK1 := hid K1
    clear K1
    go_enter Tryz.func68, Tryz.ntmps68
    go_wp2_with (go_at_call 87; refine stopHere ?_)
    refine stopAt ?_
    refine HK1.out.mono ?_
    rintro e w1 ⟨rfl, hg1⟩
    have G1 := hid (GB.out.trans hg1)
    have T1 := hid (TV.out.bel hg1.below)
    have hz : w.heap.size < (w.alloc (.cells #[.int .i64 x.k, .int .i64 x.n] 34)).heap.size := by simp
    rw [← hg1.below.cell (p := ⟨w.heap.size, 0, none⟩) hz] at n1
    rw [← hg1.below.cell (p := ⟨w.heap.size, 1, none⟩) hz] at n2
    have hw1 : w.heap.size < w1.heap.size := Nat.lt_of_lt_of_le hz hg1.below.size
    clear hg1 TV GB HK1 N1 N2 hz
    have K2 := rhas_any w1 _ l x T1.out (by omega)
    unfold av at K2
    cases hh : M.has l x with
    | true =>
      rw [hh] at K2
      have hadd : Hid (M.add l x = l) := by unfold Hid M.add; rw [hok, hh]; rfl
      have HK2 := hid K2
      clear hok hh K2
      go_wp2_with (go_at_call 19; refine stopHere ?_)
      refine stopAt ?_
      refine HK2.out.mono ?_
      rintro e w2 ⟨rfl, hg2⟩
      go_wp2
      go_ret
      rw [hadd.out]
      exact ⟨_, rfl, T1.out.bel hg2.below, (G1.out.trans hg2).below, .inl rfl⟩
    | false =>
      rw [hh] at K2
      have hadd : Hid (M.add l x = M.put x l) := by unfold Hid M.add; rw [hok, hh]; rfl
      have HK2 := hid K2
      clear hok hh K2
      go_wp2_with (go_at_call 19; refine stopHere ?_)
      refine stopAt ?_
      refine HK2.out.mono ?_
      rintro e w2 ⟨rfl, hg2⟩
      rw [← hg2.below.cell (p := ⟨w.heap.size, 0, none⟩) hw1] at n1
      rw [← hg2.below.cell (p := ⟨w.heap.size, 1, none⟩) hw1] at n2
      have G2 := hid (G1.out.trans hg2)
      have hw2 : w.heap.size < w2.heap.size := Nat.lt_of_lt_of_le hw1 hg2.below.size
      have NB := hid n1
      have NC := hid n2
      clear HK2 hg2 G1 T1 hw1 n1 n2
      go_wp2
      go_loopw [7, 6, 5] (fun i ld u w' => ∃ (j : Nat) (laid : Bool) (acc : List M.Atm), j ≤ l.length ∧ i = .int .i64 j ∧ ld = .bool laid ∧ Hid (M.AddUp l x j laid acc) ∧ Hid (RowA w2.heap.size w' u acc) ∧ Hid (Below w2.heap.size w2 w')) (fun i _ _ _ => l.length - (intOf i).toNat)
      case atStart => exact ⟨0, false, [], Nat.zero_le _, rfl, rfl, .inl ⟨rfl, rfl, fun i _ h => absurd h (Nat.not_lt_zero _)⟩, RowA.new w2 _ (Nat.le_refl _), (Below.refl _ _).alloc (Nat.le_refl _) _⟩
      case round =>
        obtain ⟨j, laid, acc, hj, rfl, rfl, hup, hrow, hbel⟩ := hrel
        have hal := M.addUp_len hup.out hj
        have hzw := hbel.out.size
        have x1 := NB.out
        have x2 := NC.out
        rw [← hbel.out.cell (p := ⟨w.heap.size, 0, none⟩) hw2] at x1
        rw [← hbel.out.cell (p := ⟨w.heap.size, 1, none⟩) hw2] at x2
        have hwr : w.heap.size < wr.heap.size := by omega
        obtain ⟨q5, m5, rfl⟩ := hrow.out.form
        by_cases hjl : j < l.length
        · obtain ⟨b, o, rfl, hlt, hc⟩ := HC0.out (by intro e; rw [e] at hjl; simp at hjl)
          obtain ⟨c1, c2⟩ := hc j hjl
          have hb0 : Hid (Below w.heap.size w wr) := G2.out.below.trans (hbel.out.mono (by omega))
          rw [← hb0.out.cell (p := ⟨b, o + j * 2, none⟩) hlt] at c1
          rw [← hb0.out.cell (p := ⟨b, o + j * 2 + 1, none⟩) hlt] at c2
          have hbr : b < wr.heap.size := by omega
          obtain ⟨y, hy⟩ : ∃ y, l[j] = y := ⟨_, rfl⟩
          rw [hy] at c1 c2
          have HY := hid hy
          clear hy hc
          cases laid with
          | true =>
            obtain ⟨C1, C2⟩ := two_grown hbr c1 c2
            clear x1 x2
            go_wp2_with fail
            refine wp_region_quiet_grown (by assumption) (by kernel_rfl) ?_
            repeat (
              with_reducible refine wpQuiet_step (fun K hK => ?_)
              go_simp
              first
                | (with_reducible refine hK _ ?_; clear hK K)
                | (rw [if_neg (by simp [undef])]; with_reducible refine hK _ ?_; clear hK K)
                | (apply Exists.intro
                   refine ⟨fun _ => ?_, hK _ ?_⟩
                   (fail)
                   clear hK K))
            with_reducible refine wpQuiet_nil ?_
            intro _ hw0
            obtain ⟨⟨nq, osq⟩, hw1⟩ := hw0
            subst hw1
            have hgq := ((Gr.refl wr).drewN nq).grow osq
            rw [← hgq.below.cell (p := ⟨b, o + j * 2, none⟩) hbr] at c1
            rw [← hgq.below.cell (p := ⟨b, o + j * 2 + 1, none⟩) hbr] at c2
            have hrow2 := hid (hrow.out.keep hgq.below)
            have hbel2 := hid (hbel.out.trans (hgq.below.mono hzw))
            clear hrow hbel hgq C1 C2
            generalize grow (wr.drewN nq) osq = w3 at c1 c2 hrow2 hbel2 ⊢
            have hz3 := hbel2.out.size
            go_wp2_with (at_builtin; refine wpList_append_own _ rfl _ _ 29 rfl w2.heap.size 34 i0 (.agg #[.int .i64 0, .int .i64 0]) 2 16 Tryz.underlying29 hi hz0 hz1 hz2 rfl (by decide) (.slice q5 acc.length m5) acc.length (acc.flatMap ac) rfl (hrow2.out.keep ((Gr.refl w3).alloc _).below) ⟨w3.heap.size, 0, none⟩ 1 1 (ac y) rfl rfl (new_ac w3 y _) (by intro u hu; simp [ac] at hu; rcases hu with rfl | rfl <;> rfl) (by unfold maxLen; omega) (by omega) (by simp; omega) ?_; intro v5 w5 hown5 hgrow5 _)
            refine ⟨⟨j + 1, true, acc ++ [y], by omega, by go_num, rfl, ?_, RowA.snoc hown5, (hbel2.out.alloc hz3 _).grown hgrow5 (by simp; omega) (fun k e => hrow2.out.blk k e)⟩, by simp [intOf]; omega⟩
            have := M.addUp_yes hup.out hjl
            rw [HY.out] at this
            exact this
          | false =>
            obtain ⟨C1, C2⟩ := two_grown hbr c1 c2
            obtain ⟨X1, X2⟩ := two_grown (p := 0) hwr x1 x2
            simp only [Nat.zero_add] at X2
            have K3 := fun W => less_any x y W
            unfold av at K3
            cases hlt2 : M.ltA x y with
            | false =>
              rw [hlt2] at K3
              have HK3 := hid K3
              have HL := hid hlt2
              clear K3 hlt2
              go_wp2_with fail
              refine wp_region_quiet_grown (by assumption) (by kernel_rfl) ?_
              repeat (
                with_reducible refine wpQuiet_step (fun K hK => ?_)
                go_simp
                first
                  | (with_reducible refine hK _ ?_; clear hK K)
                  | (rw [if_neg (by simp [undef])]; with_reducible refine hK _ ?_; clear hK K)
                  | (apply Exists.intro
                     refine ⟨fun _ => ?_, hK _ ?_⟩
                     (first | (go_at_call 46; with_reducible exact call_gr HK3.out _ _ _))
                     clear hK K))
              with_reducible refine wpQuiet_nil ?_
              intro _ hw0
              obtain ⟨⟨nq, osq⟩, hw1⟩ := hw0
              subst hw1
              have hgq := ((Gr.refl wr).drewN nq).grow osq
              rw [← hgq.below.cell (p := ⟨b, o + j * 2, none⟩) hbr] at c1
              rw [← hgq.below.cell (p := ⟨b, o + j * 2 + 1, none⟩) hbr] at c2
              have hrow2 := hid (hrow.out.keep hgq.below)
              have hbel2 := hid (hbel.out.trans (hgq.below.mono hzw))
              clear hrow hbel hgq C1 C2 X1 X2 x1 x2
              generalize grow (wr.drewN nq) osq = w3 at c1 c2 hrow2 hbel2 ⊢
              have hz3 := hbel2.out.size
              go_wp2_with (at_builtin; refine wpList_append_own _ rfl _ _ 29 rfl w2.heap.size 34 i0 (.agg #[.int .i64 0, .int .i64 0]) 2 16 Tryz.underlying29 hi hz0 hz1 hz2 rfl (by decide) (.slice q5 acc.length m5) acc.length (acc.flatMap ac) rfl (hrow2.out.keep ((Gr.refl w3).alloc _).below) ⟨w3.heap.size, 0, none⟩ 1 1 (ac y) rfl rfl (new_ac w3 y _) (by intro u hu; simp [ac] at hu; rcases hu with rfl | rfl <;> rfl) (by unfold maxLen; omega) (by omega) (by simp; omega) ?_; intro v5 w5 hown5 hgrow5 _)
              refine ⟨⟨j + 1, false, acc ++ [y], by omega, by go_num, rfl, ?_, RowA.snoc hown5, (hbel2.out.alloc hz3 _).grown hgrow5 (by simp; omega) (fun k e => hrow2.out.blk k e)⟩, by simp [intOf]; omega⟩
              have := M.addUp_no hup.out hjl (by rw [HY.out]; exact HL.out)
              rw [HY.out] at this
              exact this
            | true =>
              rw [hlt2] at K3
              have HK3 := hid K3
              have HL := hid hlt2
              clear K3 hlt2
              go_wp2_with fail
              refine wp_region_quiet_grown (by assumption) (by kernel_rfl) ?_
              repeat (
                with_reducible refine wpQuiet_step (fun K hK => ?_)
                go_simp
                first
                  | (with_reducible refine hK _ ?_; clear hK K)
                  | (rw [if_neg (by simp [undef])]; with_reducible refine hK _ ?_; clear hK K)
                  | (apply Exists.intro
                     refine ⟨fun _ => ?_, hK _ ?_⟩
                     (first | (go_at_call 46; with_reducible exact call_gr HK3.out _ _ _))
                     clear hK K))
              with_reducible refine wpQuiet_nil ?_
              intro _ hw0
              obtain ⟨⟨nq, osq⟩, hw1⟩ := hw0
              subst hw1
              have hgq := ((Gr.refl wr).drewN nq).grow osq
              rw [← hgq.below.cell (p := ⟨b, o + j * 2, none⟩) hbr] at c1
              rw [← hgq.below.cell (p := ⟨b, o + j * 2 + 1, none⟩) hbr] at c2
              rw [← hgq.below.cell (p := ⟨w.heap.size, 0, none⟩) hwr] at x1
              rw [← hgq.below.cell (p := ⟨w.heap.size, 1, none⟩) hwr] at x2
              have hrow2 := hid (hrow.out.keep hgq.below)
              have hbel2 := hid (hbel.out.trans (hgq.below.mono hzw))
              have hz9 := hgq.below.size
              clear hrow hbel hgq C1 C2 X1 X2
              generalize grow (wr.drewN nq) osq = w3 at c1 c2 x1 x2 hz9 hrow2 hbel2 ⊢
              have hz3 := hbel2.out.size
              go_wp2_with (at_builtin; refine wpList_append_own _ rfl _ _ 29 rfl w2.heap.size 34 i0 (.agg #[.int .i64 0, .int .i64 0]) 2 16 Tryz.underlying29 hi hz0 hz1 hz2 rfl (by decide) (.slice q5 acc.length m5) acc.length (acc.flatMap ac) rfl (hrow2.out.keep ((Gr.refl w3).alloc _).below) ⟨w3.heap.size, 0, none⟩ 1 1 (ac x) rfl rfl (new_ac w3 x _) (by intro u hu; simp [ac] at hu; rcases hu with rfl | rfl <;> rfl) (by unfold maxLen; omega) (by omega) (by simp; omega) ?_; intro v5 w5 hown5 hgrow5 _; refine stopHere ?_)
              refine stopAt ?_
              have hrow3 := hid (RowA.snoc hown5)
              have hb3 := hid ((hbel2.out.alloc hz3 _).grown hgrow5 (by simp; omega) (fun k e => hrow2.out.blk k e))
              have cb : Hid (Below w3.heap.size w3 w5 → True) := fun _ => trivial
              have hbY : Hid (Below w.heap.size w w5) := G2.out.below.trans (hb3.out.mono (by omega))
              obtain ⟨d1, d2⟩ : w5.cell? ⟨b, o + j * 2, none⟩ = some (.int .i64 y.k) ∧ w5.cell? ⟨b, o + j * 2 + 1, none⟩ = some (.int .i64 y.n) := by
                obtain ⟨b', o', e', hlt', hc'⟩ := HC0.out (by intro e; rw [e] at hjl; simp at hjl)
                simp only [Option.some.injEq, Addr.mk.injEq, and_true] at e'
                obtain ⟨rfl, rfl⟩ := e'
                obtain ⟨t1, t2⟩ := hc' j hjl
                rw [HY.out] at t1 t2
                exact ⟨by rw [hbY.out.cell (p := ⟨b, o + j * 2, none⟩) hlt]; exact t1, by rw [hbY.out.cell (p := ⟨b, o + j * 2 + 1, none⟩) hlt]; exact t2⟩
              have hz5 := hb3.out.size
              obtain ⟨acc2, ha2⟩ : ∃ a2, acc ++ [x] = a2 := ⟨_, rfl⟩
              rw [ha2] at hrow3
              have hal2 : acc2.length ≤ l.length + 2 := by rw [← ha2]; simp; omega
              have HA2 := hid ha2
              obtain ⟨q6, m6, hv5⟩ := hrow3.out.form
              subst hv5
              clear hown5 hgrow5 cb c1 c2 x1 x2 ha2
              go_wp2_with (at_builtin; refine wpList_append_own _ rfl _ _ 29 rfl w2.heap.size 34 i0 (.agg #[.int .i64 0, .int .i64 0]) 2 16 Tryz.underlying29 hi hz0 hz1 hz2 rfl (by decide) (.slice q6 acc2.length m6) acc2.length (acc2.flatMap ac) rfl (hrow3.out.keep ((Gr.refl w5).alloc _).below) ⟨w5.heap.size, 0, none⟩ 1 1 (ac y) rfl rfl (new_ac w5 y _) (by intro u hu; simp [ac] at hu; rcases hu with rfl | rfl <;> rfl) (by unfold maxLen; omega) (by omega) (by simp; omega) ?_; intro v5 w5 hown5 hgrow5 _)
              refine ⟨⟨j + 1, true, acc2 ++ [y], by omega, by go_num, rfl, ?_, RowA.snoc hown5, (hb3.out.alloc hz5 _).grown hgrow5 (by simp; omega) (fun k e => hrow3.out.blk k e)⟩, by simp [intOf]; omega⟩
              have := M.addUp_now hup.out hjl (by rw [HY.out]; exact HL.out)
              rw [HY.out, HA2.out] at this
              exact this
        · obtain rfl : j = l.length := by omega
          have hend := hid (M.addUp_end hup.out)
          have hbz : Hid (Below w.heap.size w wr) := G2.out.below.trans (hbel.out.mono (by omega))
          have hrr : Hid (∀ z ∈ M.put x l, InR z.n) := fun z hz => by
            rcases (M.mem_put x z l).1 hz with rfl | h
            · exact HXR.out
            · exact RL.out z h
          cases laid with
          | true =>
            go_wp2
            go_ret
            rw [hadd.out]
            have he : M.put x l = acc := hend.out
            have hrr2 := hrr.out
            rw [he] at hrr2 ⊢
            exact ⟨_, rfl, hrow.out.at hrr2, hbz.out, .inr fun k e => by have := hrow.out.blk k e; omega⟩
          | false =>
            have he : M.put x l = acc ++ [x] := hend.out
            go_wp2_with (at_builtin; refine wpList_append_own _ rfl _ _ 29 rfl w2.heap.size 34 i0 (.agg #[.int .i64 0, .int .i64 0]) 2 16 Tryz.underlying29 hi hz0 hz1 hz2 rfl (by decide) (.slice q5 acc.length m5) acc.length (acc.flatMap ac) rfl (hrow.out.keep ((Gr.refl wr).alloc _).below) ⟨wr.heap.size, 0, none⟩ 1 1 (ac x) rfl rfl (new_ac wr x _) (by intro u hu; simp [ac] at hu; rcases hu with rfl | rfl <;> rfl) (by unfold maxLen; omega) (by omega) (by simp; omega) ?_; intro v5 w5 hown5 hgrow5 _)
            have hAt := hid ((RowA.snoc hown5).at (by rw [← he]; exact hrr.out))
            have hbf : Hid (Below w.heap.size w w5) := (hbz.out.alloc hbz.out.size _).grown hgrow5 (by simp; omega) (fun k e => by have := hrow.out.blk k e; omega)
            have hbk : Hid (∀ k, v5.ownBlock = some k → w.heap.size ≤ k) := fun k e => by have := (RowA.snoc hown5).blk k e; omega
            obtain ⟨q6, m6, rfl⟩ := (RowA.snoc hown5).form
            go_wp2
            go_ret
            rw [hadd.out, he]
            exact ⟨_, rfl, hAt.out, hbf.out, .inr hbk.out⟩
set_option maxHeartbeats 1000000 in
theorem rnorm_big (w : World) (v : Value) (l : List M.Atm) (h : AtAt w v l) (hn : l.length ≤ 1048576) :
    Calls Tryz.prog 63 #[v] w fun e w' => ∃ v', e = .returned v' ∧ AtAt w' v' (M.norm l) ∧ Below w.heap.size w w' ∧ ∀ k, v'.ownBlock = some k → w.heap.size ≤ k := by
  obtain ⟨r1, a1, cp, rfl, g1⟩ := h
  have HC1 : Hid (l ≠ [] → ∃ b o, a1 = some ⟨b, o, none⟩ ∧ b < w.heap.size ∧ ∀ i (h : i < l.length), w.cell? ⟨b, o + i * 2, none⟩ = some (.int .i64 l[i].k) ∧ w.cell? ⟨b, o + i * 2 + 1, none⟩ = some (.int .i64 l[i].n)) := by
    intro hne
    rcases g1 with h | ⟨b, o, h1, h2, _, h3⟩
    · exact absurd h hne
    · exact ⟨b, o, h1, h2, h3⟩
  have R1 := hid r1
  clear g1 r1
  go_enter Tryz.func63, Tryz.ntmps63
  go_wp2
  go_loopw [4, 3] (fun i u w' => ∃ (j : Nat) (acc : List M.Atm), j ≤ l.length ∧ i = .int .i64 j ∧ acc.length ≤ l.length ∧ Hid (acc = (l.take j).foldl M.add []) ∧ Hid (AtAt w' u acc) ∧ Hid (Below w.heap.size w w') ∧ Hid (∀ k, u.ownBlock = some k → w.heap.size ≤ k)) (fun i _ _ => l.length - (intOf i).toNat)
  case atStart => exact ⟨0, [], Nat.zero_le _, rfl, Nat.zero_le _, rfl, (RowA.new w w.heap.size (Nat.le_refl _)).at (by simp), (Below.refl _ _).alloc (Nat.le_refl _) _, fun k e => by cases e; exact Nat.le_refl _⟩
  case round =>
    obtain ⟨j, acc, hj, rfl, hal, hacc, hT, hbel, hnk⟩ := hrel
    obtain ⟨q5, m5, rfl⟩ := hT.out.form
    by_cases hjl : j < l.length
    · obtain ⟨b, o, rfl, hlt, hc⟩ := HC1.out (by intro e; rw [e] at hjl; simp at hjl)
      obtain ⟨c1, c2⟩ := hc j hjl
      rw [← hbel.out.cell (p := ⟨b, o + j * 2, none⟩) hlt] at c1
      rw [← hbel.out.cell (p := ⟨b, o + j * 2 + 1, none⟩) hlt] at c2
      have HR := R1.out _ (List.getElem_mem hjl)
      obtain ⟨x, hx⟩ : ∃ x, l[j] = x := ⟨_, rfl⟩
      rw [hx] at c1 c2 HR
      have HX := hid hx
      clear hx hc
      have K1 := hid (add_big wr _ acc x hT.out (by omega) HR)
      unfold av at K1
      go_wp2_with (go_at_call 68; refine stopHere ?_)
      refine stopAt ?_
      refine K1.out.mono ?_
      rintro e w3 ⟨v3, rfl, hA3, hb3, hk3⟩
      have hAA := hid hA3
      have hkk : Hid (∀ k, v3.ownBlock = some k → w.heap.size ≤ k) := fun k e => by
        rcases hk3 with h | h
        · rw [h] at e; exact hnk.out k e
        · exact Nat.le_trans hbel.out.size (h k e)
      obtain ⟨q6, m6, rfl⟩ := hA3.form
      clear hA3 hk3
      go_wp2
      have hst : Hid (M.add acc x = (l.take (j + 1)).foldl M.add []) := by unfold Hid; rw [fold_step hjl, ← hacc.out, HX.out]
      refine ⟨⟨j + 1, M.add acc x, by omega, by go_num, ?_, hst, hAA, hbel.out.trans (hb3.mono hbel.out.size), hkk⟩, by simp [intOf]; omega⟩
      rw [hst.out]
      have := fold_len (l.take (j + 1)) [] List.Pairwise.nil
      simp at this
      omega
    · go_wp2
      go_ret
      have := hacc.out
      rw [List.take_of_length_le (by omega)] at this
      have hT2 := hT.out
      rw [this] at hT2
      refine ⟨_, rfl, ?_, hbel.out, hnk.out⟩
      rw [this]
      exact hT2
set_option maxHeartbeats 1000000 in
theorem rmay_big (w : World) (v : Value) (l : List M.Atm) (h : AtAt w v l) (hn : l.length ≤ 1048576) :
    Calls Tryz.prog 44 #[v] w fun e w' => e = .returned (.bool (M.mayL l)) ∧ Below w.heap.size w w' := by
  have T0 := hid h
  obtain ⟨a, cap, rfl⟩ := h.form
  clear h
  go_enter Tryz.func44, Tryz.ntmps44
  go_wp2_with (go_at_call 63; refine stopHere ?_)
  refine stopAt ?_
  refine (rnorm_big w _ l T0.out hn).mono ?_
  rintro e w1 ⟨v1, rfl, hA1, hb1, _⟩
  have T1 := hid hA1
  obtain ⟨q1, m1, rfl⟩ := hA1.form
  have T2 := hid (T0.out.bel hb1)
  clear hA1
  go_wp2_with (go_at_call 23; refine stopHere ?_)
  refine stopAt ?_
  refine (same_any w1 _ _ l (M.norm l) T2.out T1.out (by omega)).mono ?_
  rintro e w2 ⟨rfl, hb2⟩
  go_wp2
  go_ret
  exact ⟨rfl, hb1.trans (hb2.mono hb1.size)⟩
set_option maxHeartbeats 2000000 in
theorem rmayS_big (w : World) (v : Value) (s : M.Shp) (h : ShAt w v s) (hK : M.Sm 1048576 s) :
    Calls Tryz.prog 16 #[v] w fun e w' => e = .returned (.bool (M.mayS s)) ∧ Below w.heap.size w w' := by
  obtain ⟨R, a, c, b, d, hs, rfl, hR, hP⟩ := h.open
  have mixed := mixedP
  obtain ⟨hn, hvs, hpn⟩ := sm_fs hK hs
  have HS := hid hs
  have T := hid hR
  have TP := hid hP
  have HV := hid hvs
  obtain ⟨sp, hsp⟩ : ∃ l, s.pr = l := ⟨_, rfl⟩
  rw [hsp] at HS TP hpn ⊢
  clear h hs hK hR hP hvs hsp
  have X0 := hid (two_cells w (.slice a R.length c) (.slice b sp.length d) 31)
  have B0 := hid (gr_new w (.cells #[.slice a R.length c, .slice b sp.length d] 31)).below
  have hz0 : w.heap.size < (w.alloc (.cells #[.slice a R.length c, .slice b sp.length d] 31)).heap.size := by simp
  go_enter Tryz.func16, Tryz.ntmps16
  obtain ⟨W0, hW0⟩ : ∃ W0, w.alloc (.cells #[.slice a R.length c, .slice b sp.length d] 31) = W0 := ⟨_, rfl⟩
  rw [hW0] at X0 B0 hz0
  go_wp2
  clear hW0
  go_loopw [3] (fun i w' => ∃ j : Nat, j ≤ R.length ∧ i = .int .i64 j ∧ Hid (MayUpF R j) ∧ Hid (Below W0.heap.size W0 w')) (fun i _ => R.length - (intOf i).toNat)
  case atStart => exact ⟨0, Nat.zero_le _, rfl, mayUpF_zero R, Below.refl _ _⟩
  case round =>
    obtain ⟨j, hj, rfl, hm, hbel⟩ := hrel
    have hBW : Hid (Below w.heap.size w wr) := B0.out.trans (hbel.out.mono (Nat.le_of_lt hz0))
    have hwr : w.heap.size < wr.heap.size := Nat.lt_of_lt_of_le hz0 hbel.out.size
    obtain ⟨x1, x2⟩ := two_bel X0.out hz0 hbel.out
    by_cases hjl : j < R.length
    · obtain ⟨bb, o, rfl, hlt, hc⟩ := Rs_some T.out hjl
      have TR := (hc j hjl).bel hlt hBW.out
      have HX := hid (T.out.1 _ (List.getElem_mem hjl))
      have hxl := HV.out _ (List.getElem_mem hjl)
      obtain ⟨x, hx⟩ : ∃ x, R[j] = x := ⟨_, rfl⟩
      rw [hx] at TR HX hxl
      have HXE := hid hx
      have HC := hid hc
      clear hx hc
      have hbr : bb < wr.heap.size := by omega
      have HA : Hid (AtAt wr (.slice x.a x.f.vs.length x.c) x.f.vs) := AtAt.bel HX.out hBW.out
      have K1 := fun W (hb : Below wr.heap.size wr W) => rmay_big W _ _ (HA.out.bel hb) hxl
      obtain ⟨N1, N2, N3⟩ := bel_tri hbr TR
      have Y1 := bel_cell hwr x1
      cases hok : M.mayL x.f.vs with
      | false =>
        rw [hok] at K1
        have HOK := hid hok
        have HK1 := hid (call_bel K1)
        clear hok K1 x2 TR
        go_wp2_with fail
        clear x1
        refine wp_region_quiet_bel (by assumption) (by kernel_rfl) ?_
        intro hneq
        repeat (
          with_reducible refine wpQuiet_step (fun K hK => ?_)
          go_simp
          first
            | (with_reducible refine hK _ ?_; clear hK K)
            | (rw [if_neg (by simp [undef])]; with_reducible refine hK _ ?_; clear hK K)
            | (apply Exists.intro
               refine ⟨fun _ => ?_, hK _ ?_⟩
               (first | (go_at_call 44; with_reducible exact HK1.out _))
               clear hK K))
        with_reducible refine wpQuiet_nil ?_
        intro _ hw0
        obtain ⟨pq, hw1⟩ := hw0
        subst hw1
        clear hneq
        go_wp2
        go_ret
        refine ⟨ret_bool ?_, B0.out.trans ((hbel.out.trans (pq.h.mono hbel.out.size)).mono (Nat.le_of_lt hz0))⟩
        rw [HS.out]
        exact (mayF_no hjl (by rw [HXE.out]; exact HOK.out)).symm
      | true =>
        rw [hok] at K1
        have HOK := hid hok
        have HK1 := hid (call_bel K1)
        clear hok K1 x2 TR
        rcases Nat.eq_zero_or_pos j with rfl | hj0
        · simp only [Nat.zero_mul, Nat.add_zero] at N1 N2 N3
          go_wp2_with fail
          clear x1
          refine wp_region_quiet_bel (by assumption) (by kernel_rfl) ?_
          intro hneq
          repeat (
            with_reducible refine wpQuiet_step (fun K hK => ?_)
            go_simp
            first
              | (with_reducible refine hK _ ?_; clear hK K)
              | (rw [if_neg (by simp [undef])]; with_reducible refine hK _ ?_; clear hK K)
              | (apply Exists.intro
                 refine ⟨fun _ => ?_, hK _ ?_⟩
                 (first | (go_at_call 44; with_reducible exact HK1.out _))
                 clear hK K))
          with_reducible refine wpQuiet_nil ?_
          intro _ hw0
          obtain ⟨pq, hw1⟩ := hw0
          subst hw1
          clear hneq
          go_wp2
          refine ⟨⟨1, by omega, by go_num, mayUpF_first hjl (by rw [HXE.out]; exact HOK.out), hbel.out.trans (pq.h.mono hbel.out.size)⟩, by simp [intOf]; omega⟩
        · obtain ⟨t, ht⟩ : ∃ t, j = t + 1 := ⟨j - 1, by omega⟩
          have htl : t < R.length := by omega
          have hsub : IntKind.i64.wrap ((j : Int) - 1) = (t : Int) := by rw [IntKind.wrap_i64]; omega
          have hpos : decide ((j : Int) > 0) = true := decide_eq_true (by omega)
          have hpos2 : (0 : Int) < (j : Int) := by omega
          have HT := hid ht
          clear ht
          have TY := (HC.out t htl).bel hlt hBW.out
          obtain ⟨y, hy⟩ : ∃ y, R[t] = y := ⟨_, rfl⟩
          rw [hy] at TY
          have HY := hid hy
          clear hy
          obtain ⟨D1, _, _⟩ := bel_tri hbr TY
          clear TY
          cases hl : M.ltN y.f.nm x.f.nm with
          | false =>
            have HL := hid hl
            rw [← less_ltN] at hl
            go_wp2_with fail
            clear x1
            refine wp_region_quiet_bel (by assumption) (by kernel_rfl) ?_
            intro hneq
            repeat (
              with_reducible refine wpQuiet_step (fun K hK => ?_)
              go_simp
              first
                | (with_reducible refine hK _ ?_; clear hK K)
                | (rw [if_neg (by simp [undef])]; with_reducible refine hK _ ?_; clear hK K)
                | (apply Exists.intro
                   refine ⟨fun _ => ?_, hK _ ?_⟩
                   (first | (go_at_call 44; with_reducible exact HK1.out _))
                   clear hK K))
            with_reducible refine wpQuiet_nil ?_
            intro _ hw0
            obtain ⟨pq, hw1⟩ := hw0
            subst hw1
            clear hneq
            go_wp2
            go_ret
            obtain rfl := HT.out
            refine ⟨ret_bool ?_, B0.out.trans ((hbel.out.trans (pq.h.mono hbel.out.size)).mono (Nat.le_of_lt hz0))⟩
            rw [HS.out]
            exact (mayF_fall hjl (by rw [HXE.out, HY.out]; exact HL.out)).symm
          | true =>
            have HL := hid hl
            rw [← less_ltN] at hl
            go_wp2_with fail
            clear x1
            refine wp_region_quiet_bel (by assumption) (by kernel_rfl) ?_
            intro hneq
            repeat (
              with_reducible refine wpQuiet_step (fun K hK => ?_)
              go_simp
              first
                | (with_reducible refine hK _ ?_; clear hK K)
                | (rw [if_neg (by simp [undef])]; with_reducible refine hK _ ?_; clear hK K)
                | (apply Exists.intro
                   refine ⟨fun _ => ?_, hK _ ?_⟩
                   (first | (go_at_call 44; with_reducible exact HK1.out _))
                   clear hK K))
            with_reducible refine wpQuiet_nil ?_
            intro _ hw0
            obtain ⟨pq, hw1⟩ := hw0
            subst hw1
            clear hneq
            go_wp2
            obtain rfl := HT.out
            refine ⟨⟨t + 1 + 1, by omega, by go_num, mayUpF_step hm.out hjl (by rw [HXE.out]; exact HOK.out) (by rw [HXE.out, HY.out]; exact HL.out), hbel.out.trans (pq.h.mono hbel.out.size)⟩, by simp [intOf]; omega⟩
    · have K1 := hid (rmay_big wr _ sp (TP.out.bel hBW.out) (by omega))
      go_wp2_with (go_at_call 44; refine stopHere ?_)
      refine stopAt ?_
      refine K1.out.mono ?_
      rintro e w3 ⟨rfl, hb3⟩
      go_wp2
      go_ret
      refine ⟨ret_bool ?_, hBW.out.trans (hb3.mono hBW.out.size)⟩
      rw [HS.out]
      exact (mayF_end hm.out (by omega)).symm
end Go.Proofs.YtbaaeobdjiglgaaGreat
