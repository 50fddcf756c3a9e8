/-
  The walk of the document's Rename of atoms. Conditions: lists of at most 100000 atoms.
-/
import Derived.Test.YtbaaeobdjiglgaaGreatGL
set_option linter.unusedVariables false
set_option linter.unusedSimpArgs false
namespace Go.Proofs.YtbaaeobdjiglgaaGreat
open Go.RowKit Go.Sort

theorem new_ac1 (W : World) (x : M.Atm) (o : Obj) (t : TypeId) : ∀ j u, (ac x)[j]? = some u → ((W.alloc o).alloc (.cells #[.int .i64 x.k, .int .i64 x.n] t)).cell? ((⟨W.heap.size + 1, 0, none⟩ : Addr).add j) = some u := by
  have := new_ac (W.alloc o) x t
  rw [World.size_alloc] at this
  exact this
set_option maxHeartbeats 2000000 in
set_option maxRecDepth 100000 in
theorem rrename_new (w : World) (v : Value) (l : List M.Atm) (s : Int) (h : AtAt w v l) (hn : l.length ≤ 100000) :
    Calls Tryz.prog 38 #[v, .int .i64 s] w fun e w' => ∃ v', e = .returned v' ∧ AtAt w' v' (M.rename l s) ∧ Below w.heap.size w w' ∧ ∀ k, v'.ownBlock = some k → w.heap.size ≤ k := by
  obtain ⟨i0, hi, hz0, hz1, hz2⟩ := info_parts infoAtom
  obtain ⟨r1, a1, cp, rfl, g1⟩ := h
  have HC1 : Hid (l ≠ [] → ∃ b o, a1 = some ⟨b, o, none⟩ ∧ b < w.heap.size ∧ ∀ i (h : i < l.length), w.cell? ⟨b, o + i * 2, none⟩ = some (.int .i64 l[i].k) ∧ w.cell? ⟨b, o + i * 2 + 1, none⟩ = some (.int .i64 l[i].n)) := by
    intro hne
    rcases g1 with h | ⟨b, o, h1, h2, _, h3⟩
    · exact absurd h hne
    · exact ⟨b, o, h1, h2, h3⟩
  have R1 := hid r1
  clear g1 r1
  go_enter Tryz.func38, Tryz.ntmps38
  go_wp2
  go_loopw [6, 5] (fun i u w' => ∃ (j : Nat) (acc : List M.Atm), j ≤ l.length ∧ i = .int .i64 j ∧ acc.length ≤ l.length ∧ Hid (acc = (l.take j).map (M.ren s)) ∧ Hid (RowA w.heap.size w' u acc) ∧ Hid (Below w.heap.size w w')) (fun i _ _ => l.length - (intOf i).toNat)
  case atStart => exact ⟨0, [], Nat.zero_le _, rfl, Nat.zero_le _, rfl, RowA.new w _ (Nat.le_refl _), (Below.refl _ _).alloc (Nat.le_refl _) _⟩
  case round =>
    obtain ⟨j, acc, hj, rfl, hal, hacc, hrow, hbel⟩ := hrel
    obtain ⟨q5, m5, rfl⟩ := hrow.out.form
    have hzw := hbel.out.size
    by_cases hjl : j < l.length
    · obtain ⟨b, o, rfl, hlt, hc⟩ := HC1.out (by intro e; rw [e] at hjl; simp at hjl)
      obtain ⟨c1, c2⟩ := hc j hjl
      rw [← hbel.out.cell (p := ⟨b, o + j * 2, none⟩) hlt] at c1
      rw [← hbel.out.cell (p := ⟨b, o + j * 2 + 1, none⟩) hlt] at c2
      obtain ⟨x, hx⟩ : ∃ x, l[j] = x := ⟨_, rfl⟩
      rw [hx] at c1 c2
      have HX := hid hx
      have hlen2 : Hid (((l.take (j + 1)).map (M.ren s)).length ≤ l.length) := by unfold Hid; simp; omega
      have hst : Hid ((l.take (j + 1)).map (M.ren s) = acc ++ [M.ren s x]) := by
        unfold Hid; rw [List.take_succ_eq_append_getElem hjl, List.map_append, ← hacc.out, HX.out]; rfl
      clear hx hc
      have hrow2 := hid (hrow.out.keep ((Gr.refl wr).alloc (.cells #[.int .i64 x.k, .int .i64 x.n] 34)).below)
      have hrow4 := hid (hrow.out.keep ((Gr.refl wr).alloc (.cells #[.int .i64 5, .int .i64 x.n] 34)).below)
      have hbel2 := hid (hbel.out.alloc hzw (.cells #[.int .i64 x.k, .int .i64 x.n] 34))
      have hbel4 := hid (hbel.out.alloc hzw (.cells #[.int .i64 5, .int .i64 x.n] 34))
      by_cases h4 : x.k = 4
      · by_cases hs : x.n = s
        · have HH : Hid (M.ren s x = ⟨5, x.n⟩) := by unfold Hid M.ren; rw [if_pos ⟨h4, hs⟩]
          have hd1 : (x.k == 4) = true := by simp [h4]
          have hd2 : (x.n == s) = true := by simp [hs]
          clear h4 hs
          go_wp2_with (at_builtin; refine wpList_append_own _ rfl _ _ 29 rfl w.heap.size 34 i0 (.agg #[.int .i64 0, .int .i64 0]) 2 16 Tryz.underlying29 hi hz0 hz1 hz2 rfl (by decide) (.slice q5 acc.length m5) acc.length (acc.flatMap ac) rfl (hrow4.out.keep ((Gr.refl _).alloc _).below) ⟨wr.heap.size + 1, 0, none⟩ 1 1 (ac ⟨5, x.n⟩) rfl rfl (new_ac1 wr ⟨5, x.n⟩ _ _) (by intro u hu; simp [ac] at hu; rcases hu with rfl | rfl <;> rfl) (by unfold maxLen; omega) (by omega) (by simp; omega) ?_; intro v5 w5 hown5 hgrow5 _)
          refine ⟨⟨j + 1, acc ++ [⟨5, x.n⟩], by omega, by go_num, ?_, ?_, RowA.snoc hown5, (hbel4.out.alloc hbel4.out.size _).grown hgrow5 (by simp; omega) (fun k e => hrow.out.blk k e)⟩, by simp [intOf]; omega⟩
          · have := hlen2.out
            rw [hst.out, HH.out] at this
            exact this
          · show _ = _
            rw [hst.out, HH.out]
        · have HH : Hid (M.ren s x = x) := by unfold Hid M.ren; rw [if_neg fun h => hs h.2]
          have hd1 : (x.k == 4) = true := by simp [h4]
          have hd2 : (x.n == s) = false := by simp [hs]
          clear h4 hs
          go_wp2_with (at_builtin; refine wpList_append_own _ rfl _ _ 29 rfl w.heap.size 34 i0 (.agg #[.int .i64 0, .int .i64 0]) 2 16 Tryz.underlying29 hi hz0 hz1 hz2 rfl (by decide) (.slice q5 acc.length m5) acc.length (acc.flatMap ac) rfl (hrow2.out.keep ((Gr.refl _).alloc _).below) ⟨wr.heap.size + 1, 0, none⟩ 1 1 (ac x) rfl rfl (new_ac1 wr x _ _) (by intro u hu; simp [ac] at hu; rcases hu with rfl | rfl <;> rfl) (by unfold maxLen; omega) (by omega) (by simp; omega) ?_; intro v5 w5 hown5 hgrow5 _)
          refine ⟨⟨j + 1, acc ++ [x], by omega, by go_num, ?_, ?_, RowA.snoc hown5, (hbel2.out.alloc hbel2.out.size _).grown hgrow5 (by simp; omega) (fun k e => hrow.out.blk k e)⟩, by simp [intOf]; omega⟩
          · have := hlen2.out
            rw [hst.out, HH.out] at this
            exact this
          · show _ = _
            rw [hst.out, HH.out]
      · have HH : Hid (M.ren s x = x) := by unfold Hid M.ren; rw [if_neg fun h => h4 h.1]
        have hd1 : (x.k == 4) = false := by simp [h4]
        clear h4
        go_wp2_with (at_builtin; refine wpList_append_own _ rfl _ _ 29 rfl w.heap.size 34 i0 (.agg #[.int .i64 0, .int .i64 0]) 2 16 Tryz.underlying29 hi hz0 hz1 hz2 rfl (by decide) (.slice q5 acc.length m5) acc.length (acc.flatMap ac) rfl (hrow2.out.keep ((Gr.refl _).alloc _).below) ⟨wr.heap.size + 1, 0, none⟩ 1 1 (ac x) rfl rfl (new_ac1 wr x _ _) (by intro u hu; simp [ac] at hu; rcases hu with rfl | rfl <;> rfl) (by unfold maxLen; omega) (by omega) (by simp; omega) ?_; intro v5 w5 hown5 hgrow5 _)
        refine ⟨⟨j + 1, acc ++ [x], by omega, by go_num, ?_, ?_, RowA.snoc hown5, (hbel2.out.alloc hbel2.out.size _).grown hgrow5 (by simp; omega) (fun k e => hrow.out.blk k e)⟩, by simp [intOf]; omega⟩
        · have := hlen2.out
          rw [hst.out, HH.out] at this
          exact this
        · show _ = _
          rw [hst.out, HH.out]
    · have he : acc = l.map (M.ren s) := by rw [hacc.out, List.take_of_length_le (by omega)]
      have hAt : AtAt wr (.slice q5 acc.length m5) acc := hrow.out.at fun y hy => by
        rw [he] at hy
        obtain ⟨z, hz, rfl⟩ := List.mem_map.1 hy
        have := R1.out z hz
        unfold M.ren
        split
        · exact this
        · exact this
      have K1 := hid (rnorm_new wr _ acc hAt (by omega))
      have HE := hid he
      clear he hAt
      go_wp2_with (go_at_call 63; refine stopHere ?_)
      refine stopAt ?_
      refine K1.out.mono ?_
      rintro e w3 ⟨v3, rfl, hA3, hb3, hk3⟩
      have hAA := hid hA3
      have hkk : Hid (∀ k, v3.ownBlock = some k → w.heap.size ≤ k) := fun k e => Nat.le_trans hzw (hk3 k e)
      clear hk3
      obtain ⟨q6, m6, rfl⟩ := hA3.form
      clear hA3
      go_wp2
      go_ret
      refine ⟨_, rfl, ?_, hbel.out.trans (hb3.mono hbel.out.size), ?_⟩
      rotate_left
      · first | exact hkk.out | (have := hkk.out; rw [HE.out] at this; exact this)
      have := hAA.out
      rw [HE.out] at this ⊢
      exact this
theorem rrename_any (w : World) (v : Value) (l : List M.Atm) (s : Int) (h : AtAt w v l) (hn : l.length ≤ 100000) :
    Calls Tryz.prog 38 #[v, .int .i64 s] w fun e w' => ∃ v', e = .returned v' ∧ AtAt w' v' (M.rename l s) ∧ Below w.heap.size w w' :=
  (rrename_new w v l s h hn).mono fun e w' ⟨v', h1, h2, h3, _⟩ => ⟨v', h1, h2, h3⟩
end Go.Proofs.YtbaaeobdjiglgaaGreat
