/-
  The walks of the document's add, Norm, May, Union and Rename of atoms. Conditions: lists of at most 100000 atoms.
-/
import Derived.Test.YtbaaeobdjiglgaaGreatGE
set_option linter.unusedVariables false
set_option linter.unusedSimpArgs false
namespace Go.Proofs.YtbaaeobdjiglgaaGreat
open Go.RowKit Go.Sort

namespace M
theorem put_at {x : Atm} : ∀ {l : List Atm} {k : Nat} (hk : k < l.length), (∀ i (h : i < l.length), i < k → ltA x l[i] = false) → ltA x l[k] = true → put x l = l.take k ++ x :: l.drop k
  | [], k, hk, _, _ => absurd hk (by simp)
  | y :: r, 0, hk, _, h => by
    have h' : ltA x y = true := h
    unfold put; rw [if_pos h']; rfl
  | y :: r, k + 1, hk, ha, h => by
    have h0 : ltA x y = false := ha 0 (by simp) (by omega)
    unfold put
    rw [if_neg (by rw [h0]; simp), put_at (l := r) (k := k) (by simpa using hk) (fun i hi hik => ha (i + 1) (by simpa using hi) (by omega)) h]
    rfl
theorem put_end {x : Atm} : ∀ {l : List Atm}, (∀ i (h : i < l.length), ltA x l[i] = false) → put x l = l ++ [x]
  | [], _ => rfl
  | y :: r, ha => by
    have h0 : ltA x y = false := ha 0 (by simp)
    unfold put
    rw [if_neg (by rw [h0]; simp), put_end (l := r) fun i hi => ha (i + 1) (by simpa using hi)]
    rfl
/-- how far adding is: not laid yet, or laid -/
def AddUp (l : List Atm) (x : Atm) (j : Nat) (laid : Bool) (acc : List Atm) : Prop :=
  (laid = false ∧ acc = l.take j ∧ ∀ i (h : i < l.length), i < j → ltA x l[i] = false) ∨
  (laid = true ∧ ∃ k, ∃ hk : k < l.length, k < j ∧ acc = l.take k ++ x :: (l.take j).drop k ∧ (∀ i (h : i < l.length), i < k → ltA x l[i] = false) ∧ ltA x l[k] = true)
theorem addUp_len {l : List Atm} {x : Atm} {j : Nat} {laid : Bool} {acc : List Atm} (h : AddUp l x j laid acc) (hj : j ≤ l.length) : acc.length ≤ l.length + 1 := by
  rcases h with ⟨_, h, _⟩ | ⟨_, k, hk, hkj, h, _⟩ <;> rw [h]
  · simp; omega
  · simp; omega
theorem addUp_no {l : List Atm} {x : Atm} {j : Nat} {acc : List Atm} (h : AddUp l x j false acc) (hj : j < l.length) (hl : ltA x l[j] = false) : AddUp l x (j + 1) false (acc ++ [l[j]]) := by
  rcases h with ⟨_, h, ha⟩ | ⟨h, _⟩
  · refine .inl ⟨rfl, by rw [h, List.take_succ_eq_append_getElem hj], fun i hi hij => ?_⟩
    rcases Nat.lt_succ_iff_lt_or_eq.1 hij with h' | rfl
    · exact ha i hi h'
    · exact hl
  · cases h
theorem addUp_now {l : List Atm} {x : Atm} {j : Nat} {acc : List Atm} (h : AddUp l x j false acc) (hj : j < l.length) (hl : ltA x l[j] = true) : AddUp l x (j + 1) true (acc ++ [x] ++ [l[j]]) := by
  rcases h with ⟨_, h, ha⟩ | ⟨h, _⟩
  · refine .inr ⟨rfl, j, hj, by omega, ?_, ha, hl⟩
    rw [h, List.take_succ_eq_append_getElem hj, List.drop_append_of_le_length (by simp; omega)]
    simp
  · cases h
theorem addUp_yes {l : List Atm} {x : Atm} {j : Nat} {acc : List Atm} (h : AddUp l x j true acc) (hj : j < l.length) : AddUp l x (j + 1) true (acc ++ [l[j]]) := by
  rcases h with ⟨h, _⟩ | ⟨_, k, hk, hkj, h, ha, hl⟩
  · cases h
  · refine .inr ⟨rfl, k, hk, by omega, ?_, ha, hl⟩
    rw [h, List.take_succ_eq_append_getElem hj, List.drop_append_of_le_length (by simp; omega)]
    simp
theorem addUp_end {l : List Atm} {x : Atm} {laid : Bool} {acc : List Atm} (h : AddUp l x l.length laid acc) : put x l = if laid then acc else acc ++ [x] := by
  rcases h with ⟨rfl, h, ha⟩ | ⟨rfl, k, hk, hkj, h, ha, hl⟩
  · rw [put_end fun i hi => ha i hi hi, h]; simp
  · rw [put_at hk ha hl, h]; simp
end M

/-- a row of atoms of the call's own, as it stands -/
def RowA (base : Nat) (w : World) (v : Value) (l : List M.Atm) : Prop := w.ownsRow base 34 2 v l.length (l.flatMap ac)
theorem RowA.form {base : Nat} {w : World} {v : Value} {l : List M.Atm} (h : RowA base w v l) : ∃ q m, v = .slice q l.length m := by
  rcases owns_form h with ⟨rfl, h0⟩ | ⟨g, cap, rfl⟩
  · rw [h0]; exact ⟨_, _, rfl⟩
  · exact ⟨_, _, rfl⟩
theorem RowA.at {base : Nat} {w : World} {v : Value} {l : List M.Atm} (h : RowA base w v l) (hr : ∀ x ∈ l, InR x.n) : AtAt w v l := by
  rcases owns_form h with ⟨rfl, h0⟩ | ⟨g, cap, rfl⟩
  · have : l = [] := List.length_eq_zero_iff.1 h0
    subst this
    exact ⟨hr, none, 0, rfl, .inl rfl⟩
  · exact (OwnA.of_owns h).1.at hr
theorem RowA.keep {base : Nat} {w w' : World} {v : Value} {l : List M.Atm} (h : RowA base w v l) (hb : Below w.heap.size w w') : RowA base w' v l := owns_keep h hb
theorem RowA.snoc {base : Nat} {w : World} {v : Value} {l : List M.Atm} {x : M.Atm} (h : w.ownsRow base 34 2 v (l.length + 1) (l.flatMap ac ++ ac x)) : RowA base w v (l ++ [x]) := by
  unfold RowA
  rw [List.flatMap_append, List.length_append]
  simpa [ac] using h
theorem RowA.new (w : World) (base : Nat) (hb : base ≤ w.heap.size) : RowA base (w.alloc (.cells #[] 34)) (.slice (some ⟨w.heap.size, 0, none⟩) 0 0) [] :=
  World.ownsRow_lit (base := base) (e := 34) (size := 2) w #[] 0 hb (by simp [maxLen]) (by simp)
theorem RowA.blk {base : Nat} {w : World} {v : Value} {l : List M.Atm} (h : RowA base w v l) : ∀ k, v.ownBlock = some k → base ≤ k := fun k hk => (h.lt k hk).1

set_option maxHeartbeats 4000000 in
set_option maxRecDepth 100000 in
theorem add_new (w : World) (v : Value) (l : List M.Atm) (x : M.Atm) (h : AtAt w v l) (hn : l.length ≤ 200000) (hxr : InR x.n) :
    Calls Tryz.prog 68 #[v, av x] w fun e w' => ∃ v', e = .returned v' ∧ AtAt w' v' (M.add l x) ∧ Below w.heap.size w w' ∧ (v' = v ∨ ∀ k, v'.ownBlock = some k → w.heap.size ≤ k) := by
  obtain ⟨i0, hi, hz0, hz1, hz2⟩ := info_parts infoAtom
  have mixed := mixedP
  have GB := hid ((Gr.refl w).alloc (.cells #[.int .i64 x.k, .int .i64 x.n] 34))
  have TV := hid (h.bel GB.out.below)
  have RL := hid h.1
  have HXR := hid hxr
  obtain ⟨n1, n2⟩ := new_two w (.int .i64 x.k) (.int .i64 x.n) 34
  simp only [Nat.zero_add] at n2
  have K1 := right_any x (w.alloc (.cells #[.int .i64 x.k, .int .i64 x.n] 34))
  obtain ⟨a, cap, rfl⟩ := h.form
  have HC0 : Hid (l ≠ [] → ∃ b o, a = some ⟨b, o, none⟩ ∧ b < w.heap.size ∧ ∀ i (h : i < l.length), w.cell? ⟨b, o + i * 2, none⟩ = some (.int .i64 l[i].k) ∧ w.cell? ⟨b, o + i * 2 + 1, none⟩ = some (.int .i64 l[i].n)) := by
    intro hne
    obtain ⟨_, a', cap', hv, hh⟩ := h
    simp only [Value.slice.injEq] at hv
    obtain ⟨rfl, _, rfl⟩ := hv
    rcases hh with hh | ⟨b, o, h1, h2, _, h3⟩
    · exact absurd hh hne
    · exact ⟨b, o, h1, h2, h3⟩
  unfold av at *
  clear h hxr
  have N1 := hid n1
  have N2 := hid n2
  cases hok : M.okA x with
  | false =>
    rw [hok] at K1
    have hadd : Hid (M.add l x = l) := by unfold Hid M.add; rw [hok]; rfl
    have HK1 := hid K1
    clear hok K1
    go_enter Tryz.func68, Tryz.ntmps68
    go_wp2_with (go_at_call 87; refine stopHere ?_)
    refine stopAt ?_
    refine HK1.out.mono ?_
    rintro e w1 ⟨rfl, hg1⟩
    go_wp2
    go_ret
    rw [hadd.out]
    exact ⟨_, rfl, TV.out.bel hg1.below, (GB.out.trans hg1).below, .inl rfl⟩
  | true =>
    rw [hok] at K1
    have HK1 := hid K1
    clear K1
    go_enter Tryz.func68, Tryz.ntmps68
    go_wp2_with (go_at_call 87; refine stopHere ?_)
    refine stopAt ?_
    refine HK1.out.mono ?_
    rintro e w1 ⟨rfl, hg1⟩
    have G1 := hid (GB.out.trans hg1)
    have T1 := hid (TV.out.bel hg1.below)
    have hz : w.heap.size < (w.alloc (.cells #[.int .i64 x.k, .int .i64 x.n] 34)).heap.size := by simp
    rw [← hg1.below.cell (p := ⟨w.heap.size, 0, none⟩) hz] at n1
    rw [← hg1.below.cell (p := ⟨w.heap.size, 1, none⟩) hz] at n2
    have hw1 : w.heap.size < w1.heap.size := Nat.lt_of_lt_of_le hz hg1.below.size
    clear hg1 TV GB HK1 N1 N2 hz
    have K2 := rhas_any w1 _ l x T1.out (by omega)
    unfold av at K2
    cases hh : M.has l x with
    | true =>
      rw [hh] at K2
      have hadd : Hid (M.add l x = l) := by unfold Hid M.add; rw [hok, hh]; rfl
      have HK2 := hid K2
      clear hok hh K2
      go_wp2_with (go_at_call 19; refine stopHere ?_)
      refine stopAt ?_
      refine HK2.out.mono ?_
      rintro e w2 ⟨rfl, hg2⟩
      go_wp2
      go_ret
      rw [hadd.out]
      exact ⟨_, rfl, T1.out.bel hg2.below, (G1.out.trans hg2).below, .inl rfl⟩
    | false =>
      rw [hh] at K2
      have hadd : Hid (M.add l x = M.put x l) := by unfold Hid M.add; rw [hok, hh]; rfl
      have HK2 := hid K2
      clear hok hh K2
      go_wp2_with (go_at_call 19; refine stopHere ?_)
      refine stopAt ?_
      refine HK2.out.mono ?_
      rintro e w2 ⟨rfl, hg2⟩
      rw [← hg2.below.cell (p := ⟨w.heap.size, 0, none⟩) hw1] at n1
      rw [← hg2.below.cell (p := ⟨w.heap.size, 1, none⟩) hw1] at n2
      have G2 := hid (G1.out.trans hg2)
      have hw2 : w.heap.size < w2.heap.size := Nat.lt_of_lt_of_le hw1 hg2.below.size
      have NB := hid n1
      have NC := hid n2
      clear HK2 hg2 G1 T1 hw1 n1 n2
      go_wp2
      go_loopw [7, 6, 5] (fun i ld u w' => ∃ (j : Nat) (laid : Bool) (acc : List M.Atm), j ≤ l.length ∧ i = .int .i64 j ∧ ld = .bool laid ∧ Hid (M.AddUp l x j laid acc) ∧ Hid (RowA w2.heap.size w' u acc) ∧ Hid (Below w2.heap.size w2 w')) (fun i _ _ _ => l.length - (intOf i).toNat)
      case atStart => exact ⟨0, false, [], Nat.zero_le _, rfl, rfl, .inl ⟨rfl, rfl, fun i _ h => absurd h (Nat.not_lt_zero _)⟩, RowA.new w2 _ (Nat.le_refl _), (Below.refl _ _).alloc (Nat.le_refl _) _⟩
      case round =>
        obtain ⟨j, laid, acc, hj, rfl, rfl, hup, hrow, hbel⟩ := hrel
        have hal := M.addUp_len hup.out hj
        have hzw := hbel.out.size
        have x1 := NB.out
        have x2 := NC.out
        rw [← hbel.out.cell (p := ⟨w.heap.size, 0, none⟩) hw2] at x1
        rw [← hbel.out.cell (p := ⟨w.heap.size, 1, none⟩) hw2] at x2
        have hwr : w.heap.size < wr.heap.size := by omega
        obtain ⟨q5, m5, rfl⟩ := hrow.out.form
        by_cases hjl : j < l.length
        · obtain ⟨b, o, rfl, hlt, hc⟩ := HC0.out (by intro e; rw [e] at hjl; simp at hjl)
          obtain ⟨c1, c2⟩ := hc j hjl
          have hb0 : Hid (Below w.heap.size w wr) := G2.out.below.trans (hbel.out.mono (by omega))
          rw [← hb0.out.cell (p := ⟨b, o + j * 2, none⟩) hlt] at c1
          rw [← hb0.out.cell (p := ⟨b, o + j * 2 + 1, none⟩) hlt] at c2
          have hbr : b < wr.heap.size := by omega
          obtain ⟨y, hy⟩ : ∃ y, l[j] = y := ⟨_, rfl⟩
          rw [hy] at c1 c2
          have HY := hid hy
          clear hy hc
          cases laid with
          | true =>
            obtain ⟨C1, C2⟩ := two_grown hbr c1 c2
            clear x1 x2
            go_wp2_with fail
            refine wp_region_quiet_grown (by assumption) (by kernel_rfl) ?_
            repeat (
              with_reducible refine wpQuiet_step (fun K hK => ?_)
              go_simp
              first
                | (with_reducible refine hK _ ?_; clear hK K)
                | (rw [if_neg (by simp [undef])]; with_reducible refine hK _ ?_; clear hK K)
                | (apply Exists.intro
                   refine ⟨fun _ => ?_, hK _ ?_⟩
                   (fail)
                   clear hK K))
            with_reducible refine wpQuiet_nil ?_
            intro _ hw0
            obtain ⟨⟨nq, osq⟩, hw1⟩ := hw0
            subst hw1
            have hgq := ((Gr.refl wr).drewN nq).grow osq
            rw [← hgq.below.cell (p := ⟨b, o + j * 2, none⟩) hbr] at c1
            rw [← hgq.below.cell (p := ⟨b, o + j * 2 + 1, none⟩) hbr] at c2
            have hrow2 := hid (hrow.out.keep hgq.below)
            have hbel2 := hid (hbel.out.trans (hgq.below.mono hzw))
            clear hrow hbel hgq C1 C2
            generalize grow (wr.drewN nq) osq = w3 at c1 c2 hrow2 hbel2 ⊢
            have hz3 := hbel2.out.size
            go_wp2_with (at_builtin; refine wpList_append_own _ rfl _ _ 29 rfl w2.heap.size 34 i0 (.agg #[.int .i64 0, .int .i64 0]) 2 16 Tryz.underlying29 hi hz0 hz1 hz2 rfl (by decide) (.slice q5 acc.length m5) acc.length (acc.flatMap ac) rfl (hrow2.out.keep ((Gr.refl w3).alloc _).below) ⟨w3.heap.size, 0, none⟩ 1 1 (ac y) rfl rfl (new_ac w3 y _) (by intro u hu; simp [ac] at hu; rcases hu with rfl | rfl <;> rfl) (by unfold maxLen; omega) (by omega) (by simp; omega) ?_; intro v5 w5 hown5 hgrow5 _)
            refine ⟨⟨j + 1, true, acc ++ [y], by omega, by go_num, rfl, ?_, RowA.snoc hown5, (hbel2.out.alloc hz3 _).grown hgrow5 (by simp; omega) (fun k e => hrow2.out.blk k e)⟩, by simp [intOf]; omega⟩
            have := M.addUp_yes hup.out hjl
            rw [HY.out] at this
            exact this
          | false =>
            obtain ⟨C1, C2⟩ := two_grown hbr c1 c2
            obtain ⟨X1, X2⟩ := two_grown (p := 0) hwr x1 x2
            simp only [Nat.zero_add] at X2
            have K3 := fun W => less_any x y W
            unfold av at K3
            cases hlt2 : M.ltA x y with
            | false =>
              rw [hlt2] at K3
              have HK3 := hid K3
              have HL := hid hlt2
              clear K3 hlt2
              go_wp2_with fail
              refine wp_region_quiet_grown (by assumption) (by kernel_rfl) ?_
              repeat (
                with_reducible refine wpQuiet_step (fun K hK => ?_)
                go_simp
                first
                  | (with_reducible refine hK _ ?_; clear hK K)
                  | (rw [if_neg (by simp [undef])]; with_reducible refine hK _ ?_; clear hK K)
                  | (apply Exists.intro
                     refine ⟨fun _ => ?_, hK _ ?_⟩
                     (first | (go_at_call 46; with_reducible exact call_gr HK3.out _ _ _))
                     clear hK K))
              with_reducible refine wpQuiet_nil ?_
              intro _ hw0
              obtain ⟨⟨nq, osq⟩, hw1⟩ := hw0
              subst hw1
              have hgq := ((Gr.refl wr).drewN nq).grow osq
              rw [← hgq.below.cell (p := ⟨b, o + j * 2, none⟩) hbr] at c1
              rw [← hgq.below.cell (p := ⟨b, o + j * 2 + 1, none⟩) hbr] at c2
              have hrow2 := hid (hrow.out.keep hgq.below)
              have hbel2 := hid (hbel.out.trans (hgq.below.mono hzw))
              clear hrow hbel hgq C1 C2 X1 X2 x1 x2
              generalize grow (wr.drewN nq) osq = w3 at c1 c2 hrow2 hbel2 ⊢
              have hz3 := hbel2.out.size
              go_wp2_with (at_builtin; refine wpList_append_own _ rfl _ _ 29 rfl w2.heap.size 34 i0 (.agg #[.int .i64 0, .int .i64 0]) 2 16 Tryz.underlying29 hi hz0 hz1 hz2 rfl (by decide) (.slice q5 acc.length m5) acc.length (acc.flatMap ac) rfl (hrow2.out.keep ((Gr.refl w3).alloc _).below) ⟨w3.heap.size, 0, none⟩ 1 1 (ac y) rfl rfl (new_ac w3 y _) (by intro u hu; simp [ac] at hu; rcases hu with rfl | rfl <;> rfl) (by unfold maxLen; omega) (by omega) (by simp; omega) ?_; intro v5 w5 hown5 hgrow5 _)
              refine ⟨⟨j + 1, false, acc ++ [y], by omega, by go_num, rfl, ?_, RowA.snoc hown5, (hbel2.out.alloc hz3 _).grown hgrow5 (by simp; omega) (fun k e => hrow2.out.blk k e)⟩, by simp [intOf]; omega⟩
              have := M.addUp_no hup.out hjl (by rw [HY.out]; exact HL.out)
              rw [HY.out] at this
              exact this
            | true =>
              rw [hlt2] at K3
              have HK3 := hid K3
              have HL := hid hlt2
              clear K3 hlt2
              go_wp2_with fail
              refine wp_region_quiet_grown (by assumption) (by kernel_rfl) ?_
              repeat (
                with_reducible refine wpQuiet_step (fun K hK => ?_)
                go_simp
                first
                  | (with_reducible refine hK _ ?_; clear hK K)
                  | (rw [if_neg (by simp [undef])]; with_reducible refine hK _ ?_; clear hK K)
                  | (apply Exists.intro
                     refine ⟨fun _ => ?_, hK _ ?_⟩
                     (first | (go_at_call 46; with_reducible exact call_gr HK3.out _ _ _))
                     clear hK K))
              with_reducible refine wpQuiet_nil ?_
              intro _ hw0
              obtain ⟨⟨nq, osq⟩, hw1⟩ := hw0
              subst hw1
              have hgq := ((Gr.refl wr).drewN nq).grow osq
              rw [← hgq.below.cell (p := ⟨b, o + j * 2, none⟩) hbr] at c1
              rw [← hgq.below.cell (p := ⟨b, o + j * 2 + 1, none⟩) hbr] at c2
              rw [← hgq.below.cell (p := ⟨w.heap.size, 0, none⟩) hwr] at x1
              rw [← hgq.below.cell (p := ⟨w.heap.size, 1, none⟩) hwr] at x2
              have hrow2 := hid (hrow.out.keep hgq.below)
              have hbel2 := hid (hbel.out.trans (hgq.below.mono hzw))
              have hz9 := hgq.below.size
              clear hrow hbel hgq C1 C2 X1 X2
              generalize grow (wr.drewN nq) osq = w3 at c1 c2 x1 x2 hz9 hrow2 hbel2 ⊢
              have hz3 := hbel2.out.size
              go_wp2_with (at_builtin; refine wpList_append_own _ rfl _ _ 29 rfl w2.heap.size 34 i0 (.agg #[.int .i64 0, .int .i64 0]) 2 16 Tryz.underlying29 hi hz0 hz1 hz2 rfl (by decide) (.slice q5 acc.length m5) acc.length (acc.flatMap ac) rfl (hrow2.out.keep ((Gr.refl w3).alloc _).below) ⟨w3.heap.size, 0, none⟩ 1 1 (ac x) rfl rfl (new_ac w3 x _) (by intro u hu; simp [ac] at hu; rcases hu with rfl | rfl <;> rfl) (by unfold maxLen; omega) (by omega) (by simp; omega) ?_; intro v5 w5 hown5 hgrow5 _; refine stopHere ?_)
              refine stopAt ?_
              have hrow3 := hid (RowA.snoc hown5)
              have hb3 := hid ((hbel2.out.alloc hz3 _).grown hgrow5 (by simp; omega) (fun k e => hrow2.out.blk k e))
              have cb : Hid (Below w3.heap.size w3 w5 → True) := fun _ => trivial
              have hbY : Hid (Below w.heap.size w w5) := G2.out.below.trans (hb3.out.mono (by omega))
              obtain ⟨d1, d2⟩ : w5.cell? ⟨b, o + j * 2, none⟩ = some (.int .i64 y.k) ∧ w5.cell? ⟨b, o + j * 2 + 1, none⟩ = some (.int .i64 y.n) := by
                obtain ⟨b', o', e', hlt', hc'⟩ := HC0.out (by intro e; rw [e] at hjl; simp at hjl)
                simp only [Option.some.injEq, Addr.mk.injEq, and_true] at e'
                obtain ⟨rfl, rfl⟩ := e'
                obtain ⟨t1, t2⟩ := hc' j hjl
                rw [HY.out] at t1 t2
                exact ⟨by rw [hbY.out.cell (p := ⟨b, o + j * 2, none⟩) hlt]; exact t1, by rw [hbY.out.cell (p := ⟨b, o + j * 2 + 1, none⟩) hlt]; exact t2⟩
              have hz5 := hb3.out.size
              obtain ⟨acc2, ha2⟩ : ∃ a2, acc ++ [x] = a2 := ⟨_, rfl⟩
              rw [ha2] at hrow3
              have hal2 : acc2.length ≤ l.length + 2 := by rw [← ha2]; simp; omega
              have HA2 := hid ha2
              obtain ⟨q6, m6, hv5⟩ := hrow3.out.form
              subst hv5
              clear hown5 hgrow5 cb c1 c2 x1 x2 ha2
              go_wp2_with (at_builtin; refine wpList_append_own _ rfl _ _ 29 rfl w2.heap.size 34 i0 (.agg #[.int .i64 0, .int .i64 0]) 2 16 Tryz.underlying29 hi hz0 hz1 hz2 rfl (by decide) (.slice q6 acc2.length m6) acc2.length (acc2.flatMap ac) rfl (hrow3.out.keep ((Gr.refl w5).alloc _).below) ⟨w5.heap.size, 0, none⟩ 1 1 (ac y) rfl rfl (new_ac w5 y _) (by intro u hu; simp [ac] at hu; rcases hu with rfl | rfl <;> rfl) (by unfold maxLen; omega) (by omega) (by simp; omega) ?_; intro v5 w5 hown5 hgrow5 _)
              refine ⟨⟨j + 1, true, acc2 ++ [y], by omega, by go_num, rfl, ?_, RowA.snoc hown5, (hb3.out.alloc hz5 _).grown hgrow5 (by simp; omega) (fun k e => hrow3.out.blk k e)⟩, by simp [intOf]; omega⟩
              have := M.addUp_now hup.out hjl (by rw [HY.out]; exact HL.out)
              rw [HY.out, HA2.out] at this
              exact this
        · obtain rfl : j = l.length := by omega
          have hend := hid (M.addUp_end hup.out)
          have hbz : Hid (Below w.heap.size w wr) := G2.out.below.trans (hbel.out.mono (by omega))
          have hrr : Hid (∀ z ∈ M.put x l, InR z.n) := fun z hz => by
            rcases (M.mem_put x z l).1 hz with rfl | h
            · exact HXR.out
            · exact RL.out z h
          cases laid with
          | true =>
            go_wp2
            go_ret
            rw [hadd.out]
            have he : M.put x l = acc := hend.out
            have hrr2 := hrr.out
            rw [he] at hrr2 ⊢
            exact ⟨_, rfl, hrow.out.at hrr2, hbz.out, .inr fun k e => by have := hrow.out.blk k e; omega⟩
          | false =>
            have he : M.put x l = acc ++ [x] := hend.out
            go_wp2_with (at_builtin; refine wpList_append_own _ rfl _ _ 29 rfl w2.heap.size 34 i0 (.agg #[.int .i64 0, .int .i64 0]) 2 16 Tryz.underlying29 hi hz0 hz1 hz2 rfl (by decide) (.slice q5 acc.length m5) acc.length (acc.flatMap ac) rfl (hrow.out.keep ((Gr.refl wr).alloc _).below) ⟨wr.heap.size, 0, none⟩ 1 1 (ac x) rfl rfl (new_ac wr x _) (by intro u hu; simp [ac] at hu; rcases hu with rfl | rfl <;> rfl) (by unfold maxLen; omega) (by omega) (by simp; omega) ?_; intro v5 w5 hown5 hgrow5 _)
            have hAt := hid ((RowA.snoc hown5).at (by rw [← he]; exact hrr.out))
            have hbf : Hid (Below w.heap.size w w5) := (hbz.out.alloc hbz.out.size _).grown hgrow5 (by simp; omega) (fun k e => by have := hrow.out.blk k e; omega)
            have hbk : Hid (∀ k, v5.ownBlock = some k → w.heap.size ≤ k) := fun k e => by have := (RowA.snoc hown5).blk k e; omega
            obtain ⟨q6, m6, rfl⟩ := (RowA.snoc hown5).form
            go_wp2
            go_ret
            rw [hadd.out, he]
            exact ⟨_, rfl, hAt.out, hbf.out, .inr hbk.out⟩
theorem add_any (w : World) (v : Value) (l : List M.Atm) (x : M.Atm) (h : AtAt w v l) (hn : l.length ≤ 200000) (hxr : InR x.n) :
    Calls Tryz.prog 68 #[v, av x] w fun e w' => ∃ v', e = .returned v' ∧ AtAt w' v' (M.add l x) ∧ Below w.heap.size w w' :=
  (add_new w v l x h hn hxr).mono fun e w' ⟨v', h1, h2, h3, _⟩ => ⟨v', h1, h2, h3⟩
end Go.Proofs.YtbaaeobdjiglgaaGreat

/-
  The walks of the document's Norm, May, Union and Rename of atoms. Conditions: lists of at most 100000 atoms.
-/
set_option linter.unusedVariables false
set_option linter.unusedSimpArgs false
namespace Go.Proofs.YtbaaeobdjiglgaaGreat
open Go.RowKit Go.Sort

theorem fold_step {l acc : List M.Atm} {j : Nat} (h : j < l.length) : (l.take (j + 1)).foldl M.add acc = M.add ((l.take j).foldl M.add acc) l[j] := by
  rw [List.take_succ_eq_append_getElem h, List.foldl_append]; rfl
theorem fold_len (l acc : List M.Atm) (h : M.Rising acc) : (l.foldl M.add acc).length ≤ acc.length + l.length := (M.fold_norm l acc h).2.2

set_option maxHeartbeats 1000000 in
theorem rnorm_new (w : World) (v : Value) (l : List M.Atm) (h : AtAt w v l) (hn : l.length ≤ 100000) :
    Calls Tryz.prog 63 #[v] w fun e w' => ∃ v', e = .returned v' ∧ AtAt w' v' (M.norm l) ∧ Below w.heap.size w w' ∧ ∀ k, v'.ownBlock = some k → w.heap.size ≤ k := by
  obtain ⟨r1, a1, cp, rfl, g1⟩ := h
  have HC1 : Hid (l ≠ [] → ∃ b o, a1 = some ⟨b, o, none⟩ ∧ b < w.heap.size ∧ ∀ i (h : i < l.length), w.cell? ⟨b, o + i * 2, none⟩ = some (.int .i64 l[i].k) ∧ w.cell? ⟨b, o + i * 2 + 1, none⟩ = some (.int .i64 l[i].n)) := by
    intro hne
    rcases g1 with h | ⟨b, o, h1, h2, _, h3⟩
    · exact absurd h hne
    · exact ⟨b, o, h1, h2, h3⟩
  have R1 := hid r1
  clear g1 r1
  go_enter Tryz.func63, Tryz.ntmps63
  go_wp2
  go_loopw [4, 3] (fun i u w' => ∃ (j : Nat) (acc : List M.Atm), j ≤ l.length ∧ i = .int .i64 j ∧ acc.length ≤ l.length ∧ Hid (acc = (l.take j).foldl M.add []) ∧ Hid (AtAt w' u acc) ∧ Hid (Below w.heap.size w w') ∧ Hid (∀ k, u.ownBlock = some k → w.heap.size ≤ k)) (fun i _ _ => l.length - (intOf i).toNat)
  case atStart => exact ⟨0, [], Nat.zero_le _, rfl, Nat.zero_le _, rfl, (RowA.new w w.heap.size (Nat.le_refl _)).at (by simp), (Below.refl _ _).alloc (Nat.le_refl _) _, fun k e => by cases e; exact Nat.le_refl _⟩
  case round =>
    obtain ⟨j, acc, hj, rfl, hal, hacc, hT, hbel, hnk⟩ := hrel
    obtain ⟨q5, m5, rfl⟩ := hT.out.form
    by_cases hjl : j < l.length
    · obtain ⟨b, o, rfl, hlt, hc⟩ := HC1.out (by intro e; rw [e] at hjl; simp at hjl)
      obtain ⟨c1, c2⟩ := hc j hjl
      rw [← hbel.out.cell (p := ⟨b, o + j * 2, none⟩) hlt] at c1
      rw [← hbel.out.cell (p := ⟨b, o + j * 2 + 1, none⟩) hlt] at c2
      have HR := R1.out _ (List.getElem_mem hjl)
      obtain ⟨x, hx⟩ : ∃ x, l[j] = x := ⟨_, rfl⟩
      rw [hx] at c1 c2 HR
      have HX := hid hx
      clear hx hc
      have K1 := hid (add_new wr _ acc x hT.out (by omega) HR)
      unfold av at K1
      go_wp2_with (go_at_call 68; refine stopHere ?_)
      refine stopAt ?_
      refine K1.out.mono ?_
      rintro e w3 ⟨v3, rfl, hA3, hb3, hk3⟩
      have hAA := hid hA3
      have hkk : Hid (∀ k, v3.ownBlock = some k → w.heap.size ≤ k) := fun k e => by
        rcases hk3 with h | h
        · rw [h] at e; exact hnk.out k e
        · exact Nat.le_trans hbel.out.size (h k e)
      obtain ⟨q6, m6, rfl⟩ := hA3.form
      clear hA3 hk3
      go_wp2
      have hst : Hid (M.add acc x = (l.take (j + 1)).foldl M.add []) := by unfold Hid; rw [fold_step hjl, ← hacc.out, HX.out]
      refine ⟨⟨j + 1, M.add acc x, by omega, by go_num, ?_, hst, hAA, hbel.out.trans (hb3.mono hbel.out.size), hkk⟩, by simp [intOf]; omega⟩
      rw [hst.out]
      have := fold_len (l.take (j + 1)) [] List.Pairwise.nil
      simp at this
      omega
    · go_wp2
      go_ret
      have := hacc.out
      rw [List.take_of_length_le (by omega)] at this
      have hT2 := hT.out
      rw [this] at hT2
      refine ⟨_, rfl, ?_, hbel.out, hnk.out⟩
      rw [this]
      exact hT2

theorem rnorm_any (w : World) (v : Value) (l : List M.Atm) (h : AtAt w v l) (hn : l.length ≤ 100000) :
    Calls Tryz.prog 63 #[v] w fun e w' => ∃ v', e = .returned v' ∧ AtAt w' v' (M.norm l) ∧ Below w.heap.size w w' :=
  (rnorm_new w v l h hn).mono fun e w' ⟨v', h1, h2, h3, _⟩ => ⟨v', h1, h2, h3⟩

set_option maxHeartbeats 1000000 in
theorem rmay_any (w : World) (v : Value) (l : List M.Atm) (h : AtAt w v l) (hn : l.length ≤ 100000) :
    Calls Tryz.prog 44 #[v] w fun e w' => e = .returned (.bool (M.mayL l)) ∧ Below w.heap.size w w' := by
  have T0 := hid h
  obtain ⟨a, cap, rfl⟩ := h.form
  clear h
  go_enter Tryz.func44, Tryz.ntmps44
  go_wp2_with (go_at_call 63; refine stopHere ?_)
  refine stopAt ?_
  refine (rnorm_any w _ l T0.out hn).mono ?_
  rintro e w1 ⟨v1, rfl, hA1, hb1⟩
  have T1 := hid hA1
  obtain ⟨q1, m1, rfl⟩ := hA1.form
  have T2 := hid (T0.out.bel hb1)
  clear hA1
  go_wp2_with (go_at_call 23; refine stopHere ?_)
  refine stopAt ?_
  refine (same_any w1 _ _ l (M.norm l) T2.out T1.out (by omega)).mono ?_
  rintro e w2 ⟨rfl, hb2⟩
  go_wp2
  go_ret
  exact ⟨rfl, hb1.trans (hb2.mono hb1.size)⟩

set_option maxHeartbeats 1000000 in
theorem runion_any (w : World) (va vb : Value) (la lb : List M.Atm) (ha : AtAt w va la) (hb : AtAt w vb lb) (na : la.length ≤ 100000) (nb : lb.length ≤ 100000) :
    Calls Tryz.prog 49 #[va, vb] w fun e w' => ∃ v', e = .returned v' ∧ AtAt w' v' (M.norm (la ++ lb)) ∧ Below w.heap.size w w' := by
  have TA := hid ha
  obtain ⟨a0, c0, rfl⟩ := ha.form
  clear ha
  obtain ⟨r1, a1, cp, rfl, g1⟩ := hb
  have HC1 : Hid (lb ≠ [] → ∃ b o, a1 = some ⟨b, o, none⟩ ∧ b < w.heap.size ∧ ∀ i (h : i < lb.length), w.cell? ⟨b, o + i * 2, none⟩ = some (.int .i64 lb[i].k) ∧ w.cell? ⟨b, o + i * 2 + 1, none⟩ = some (.int .i64 lb[i].n)) := by
    intro hne
    rcases g1 with h | ⟨b, o, h1, h2, _, h3⟩
    · exact absurd h hne
    · exact ⟨b, o, h1, h2, h3⟩
  have R1 := hid r1
  clear g1 r1
  go_enter Tryz.func49, Tryz.ntmps49
  go_wp2_with (go_at_call 63; refine stopHere ?_)
  refine stopAt ?_
  refine (rnorm_any w _ la TA.out na).mono ?_
  rintro e w1 ⟨v1, rfl, hA1, hb1⟩
  have T1 := hid hA1
  have B1 := hid hb1
  obtain ⟨q1, m1, rfl⟩ := hA1.form
  have hnl := M.norm_length la
  clear hA1 hb1
  go_wp2
  go_loopw [6, 5] (fun i u w' => ∃ (j : Nat) (acc : List M.Atm), j ≤ lb.length ∧ i = .int .i64 j ∧ acc.length ≤ la.length + lb.length ∧ Hid (acc = (lb.take j).foldl M.add (M.norm la)) ∧ Hid (AtAt w' u acc) ∧ Hid (Below w.heap.size w w')) (fun i _ _ => lb.length - (intOf i).toNat)
  case atStart => exact ⟨0, M.norm la, Nat.zero_le _, rfl, by omega, rfl, T1, B1⟩
  case round =>
    obtain ⟨j, acc, hj, rfl, hal, hacc, hT, hbel⟩ := hrel
    obtain ⟨q5, m5, rfl⟩ := hT.out.form
    by_cases hjl : j < lb.length
    · obtain ⟨b, o, rfl, hlt, hc⟩ := HC1.out (by intro e; rw [e] at hjl; simp at hjl)
      obtain ⟨c1, c2⟩ := hc j hjl
      rw [← hbel.out.cell (p := ⟨b, o + j * 2, none⟩) hlt] at c1
      rw [← hbel.out.cell (p := ⟨b, o + j * 2 + 1, none⟩) hlt] at c2
      have HR := R1.out _ (List.getElem_mem hjl)
      obtain ⟨x, hx⟩ : ∃ x, lb[j] = x := ⟨_, rfl⟩
      rw [hx] at c1 c2 HR
      have HX := hid hx
      clear hx hc
      have K1 := hid (add_any wr _ acc x hT.out (by omega) HR)
      unfold av at K1
      go_wp2_with (go_at_call 68; refine stopHere ?_)
      refine stopAt ?_
      refine K1.out.mono ?_
      rintro e w3 ⟨v3, rfl, hA3, hb3⟩
      have hAA := hid hA3
      obtain ⟨q6, m6, rfl⟩ := hA3.form
      clear hA3
      go_wp2
      have hst : Hid (M.add acc x = (lb.take (j + 1)).foldl M.add (M.norm la)) := by unfold Hid; rw [fold_step hjl, ← hacc.out, HX.out]
      refine ⟨⟨j + 1, M.add acc x, by omega, by go_num, ?_, hst, hAA, hbel.out.trans (hb3.mono hbel.out.size)⟩, by simp [intOf]; omega⟩
      rw [hst.out]
      have := fold_len (lb.take (j + 1)) (M.norm la) (M.norm_rising la)
      rw [List.length_take] at this
      omega
    · go_wp2
      go_ret
      have := hacc.out
      rw [List.take_of_length_le (by omega), ← M.norm_append] at this
      have hT2 := hT.out
      rw [this] at hT2
      refine ⟨_, rfl, ?_, hbel.out⟩
      rw [this]
      exact hT2
end Go.Proofs.YtbaaeobdjiglgaaGreat
