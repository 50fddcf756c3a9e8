/-
  The walks of the document's Loc and Var of states. Conditions: states of at most 100000 of each thing.
-/
import Derived.Test.YtbaaeobdjiglgaaGreatE20
import Derived.Test.YtbaaeobdjiglgaaGreatGI
import Derived.Test.YtbaaeobdjiglgaaGreatGK
set_option linter.unusedVariables false
set_option linter.unusedSimpArgs false
namespace Go.Proofs.YtbaaeobdjiglgaaGreat
open Go.RowKit Go.Sort
namespace M
theorem getK_drop {κ ν : Type} [DecidableEq κ] (l : List (κ × ν)) (k : κ) (j : Nat) (h : j < l.length) : getK (l.drop j) k = if l[j].1 = k then some l[j].2 else getK (l.drop (j + 1)) k := by
  rw [List.drop_eq_getElem_cons h]; rfl
theorem getK_end {κ ν : Type} [DecidableEq κ] (l : List (κ × ν)) (k : κ) (j : Nat) (h : l.length ≤ j) : getK (l.drop j) k = none := by
  rw [List.drop_of_length_le h]; rfl
end M
theorem getL_here {L : List Lcl} {x : M.Atm} {j : Nat} {y : Lcl} (h : j < L.length) (hy : L[j] = y) (e : y.x = x) (hI : M.getK (lclOf L) x = M.getK ((lclOf L).drop j) x) : M.getK (lclOf L) x = some y.s := by
  rw [hI, M.getK_drop _ _ _ (by rw [lclOf_len]; exact h), lclOf_get L j h, hy]
  exact if_pos e
theorem getL_next {L : List Lcl} {x : M.Atm} {j : Nat} {y : Lcl} (h : j < L.length) (hy : L[j] = y) (e : ¬ y.x = x) (hI : M.getK (lclOf L) x = M.getK ((lclOf L).drop j) x) : M.getK (lclOf L) x = M.getK ((lclOf L).drop (j + 1)) x := by
  rw [hI, M.getK_drop _ _ _ (by rw [lclOf_len]; exact h), lclOf_get L j h, hy]
  exact if_neg e
theorem getB_here {L : List Bnd} {x : ByteArray} {j : Nat} {y : Bnd} (h : j < L.length) (hy : L[j] = y) (e : y.nm = x) (hI : M.getK (bndOf L) x = M.getK ((bndOf L).drop j) x) : M.getK (bndOf L) x = some y.vs := by
  rw [hI, M.getK_drop _ _ _ (by rw [bndOf_len]; exact h), bndOf_get L j h, hy]
  exact if_pos e
theorem getB_next {L : List Bnd} {x : ByteArray} {j : Nat} {y : Bnd} (h : j < L.length) (hy : L[j] = y) (e : ¬ y.nm = x) (hI : M.getK (bndOf L) x = M.getK ((bndOf L).drop j) x) : M.getK (bndOf L) x = M.getK ((bndOf L).drop (j + 1)) x := by
  rw [hI, M.getK_drop _ _ _ (by rw [bndOf_len]; exact h), bndOf_get L j h, hy]
  exact if_neg e
theorem none_here {κ ν : Type} [DecidableEq κ] {l : List (κ × ν)} {k : κ} {j : Nat} (h : l.length ≤ j) (hI : M.getK l k = M.getK (l.drop j) k) : M.getK l k = none := by
  rw [hI, M.getK_end _ _ _ h]

set_option maxHeartbeats 8000000 in
set_option maxRecDepth 100000 in
theorem rloc_any (w : World) (v : Value) (s : M.Sta) (x : M.Atm) (h : StAt w v s) (hK : M.SmSt 100000 s) :
    Calls Tryz.prog 20 #[v, av x] w fun e w' => ∃ v', e = .returned (.tuple #[v', .bool (M.getK s.ls x).isSome]) ∧ ShAt w' v' ((M.getK s.ls x).getD M.zeroS) ∧ Below w.heap.size w w' := by
  obtain ⟨B, L, a, c, b, d, hs, rfl, hB, hL⟩ := h.open
  have mixed := mixedP
  obtain ⟨hn, _, hm, _⟩ := smStB hK hs
  have TL := hid hL
  have HSL : Hid (s.ls = lclOf L) := by unfold Hid; rw [hs]
  obtain ⟨dd, hdd⟩ : ∃ x, s.dead = x := ⟨_, rfl⟩
  obtain ⟨r, hr⟩ : ∃ r, M.getK s.ls x = r := ⟨_, rfl⟩
  have HR : Hid (M.getK (lclOf L) x = r) := by unfold Hid; rw [← HSL.out]; exact hr
  rw [hdd, hr]
  clear h hB hL hdd hs hr hK
  unfold av
  obtain ⟨A1, hA1⟩ : ∃ o, (.cells #[.bool dd, .slice a B.length c, .slice b L.length d] 25 : Obj) = o := ⟨_, rfl⟩
  obtain ⟨A2, hA2⟩ : ∃ o, (.cells #[.int .i64 x.k, .int .i64 x.n] 34 : Obj) = o := ⟨_, rfl⟩
  obtain ⟨A3, hA3⟩ : ∃ o, (.cells #[.slice none 0 0, .slice none 0 0] 31 : Obj) = o := ⟨_, rfl⟩
  obtain ⟨W0, hW0⟩ : ∃ W0, ((w.alloc A1).alloc A2).alloc A3 = W0 := ⟨_, rfl⟩
  have b1 := (gr_new w A1).below
  have b2 := (gr_new (w.alloc A1) A2).below
  have b3 := (gr_new ((w.alloc A1).alloc A2) A3).below
  have p3 : W0.heap[w.heap.size]? = some A1 := by rw [← hW0]; exact kept (B := ((w.alloc A1).alloc A2).heap.size) (kept (B := (w.alloc A1).heap.size) (new_at w A1) (by simp) b2) (by simp; omega) b3
  have p4 : W0.heap[w.heap.size + 1]? = some A2 := by
    rw [← hW0]
    have := kept (B := ((w.alloc A1).alloc A2).heap.size) (new_at (w.alloc A1) A2) (by simp) b3
    rw [World.size_alloc] at this
    exact this
  have p5 : W0.heap[w.heap.size + 2]? = some A3 := by
    rw [← hW0]
    have := new_at ((w.alloc A1).alloc A2) A3
    rw [World.size_alloc, World.size_alloc] at this
    exact this
  have hz : w.heap.size + 3 ≤ W0.heap.size := by rw [← hW0]; simp
  have B0 : Hid (Below w.heap.size w W0) := by unfold Hid; rw [← hW0]; exact (b1.trans (b2.mono b1.size)).trans (b3.mono (b1.trans (b2.mono b1.size)).size)
  rw [← hA1] at p3
  rw [← hA2] at p4
  rw [← hA3] at p5
  subst hA1 hA2 hA3
  have P1 := hid p3
  have P2 := hid p4
  have P3 : Hid (W0.heap[w.heap.size + 1 + 1]? = some (.cells #[.slice none 0 0, .slice none 0 0] 31 (0, 0))) := p5
  clear b1 b2 b3 p3 p4 p5
  go_enter Tryz.func20, Tryz.ntmps20
  go_wp2
  clear hW0
  go_loopw [6] (fun i w' => ∃ j : Nat, j ≤ L.length ∧ i = .int .i64 j ∧ Hid (M.getK (lclOf L) x = M.getK ((lclOf L).drop j) x) ∧ Hid (Below W0.heap.size W0 w')) (fun i _ => L.length - (intOf i).toNat)
  case atStart => exact ⟨0, Nat.zero_le _, rfl, hid (by rw [List.drop_zero]), Below.refl _ _⟩
  case round =>
    obtain ⟨j, hj, rfl, hI, hbel⟩ := hrel
    have hBW : Hid (Below w.heap.size w wr) := B0.out.trans (hbel.out.mono (by omega))
    have hzr := hbel.out.size
    have PW1 := hid (kept P1.out (by omega) hbel.out)
    have PW2 := hid (kept P2.out (by omega) hbel.out)
    have PW3 := hid (kept P3.out (by omega) hbel.out)
    obtain ⟨x1, x2, x3, xf⟩ := cells3 PW1.out
    by_cases hjl : j < L.length
    · obtain ⟨bb, o, rfl, hlt, hc⟩ := Ls_some (TL.out.bel hBW.out) hjl
      obtain ⟨c1, c2, c3, c4⟩ := hc j hjl
      have HX := hid ((TL.out.bel hBW.out).2 _ (List.getElem_mem hjl)).2
      obtain ⟨y, hy⟩ : ∃ y, L[j] = y := ⟨_, rfl⟩
      rw [hy] at c1 c2 c3 c4 HX
      have HYE := hid hy
      clear hy hc
      obtain ⟨Y1, Y2, Y3⟩ := bel_box3 PW1.out
      obtain ⟨Z1, Z2⟩ := bel_box2 PW2.out
      have N1 := bel_cell hlt c1
      have N2 := bel_cell hlt c2
      have N3 := hid (bel_cell hlt c3)
      have N4 := hid (bel_cell hlt c4)
      clear c1 c2 c3 c4
      have hg1 := guardA
      have he := fun w' => eql_atm y.x x w'
      by_cases hxy : y.x = x
      · have HXY := hid hxy
        rw [decide_eq_true hxy] at he
        clear hxy
        as_aux_lemma =>
          go_wp2_with fail
          clear x1 x2 x3 xf
          refine wp_region_quiet_bel (by assumption) (by kernel_rfl) ?_
          intro hneq
          repeat (
            with_reducible refine wpQuiet_step (fun K hK => ?_)
            go_simp
            first
              | (with_reducible refine hK _ ?_; clear hK K)
              | (rw [if_neg (by simp [undef])]; with_reducible refine hK _ ?_; clear hK K)
              | (apply Exists.intro
                 refine ⟨fun _ => ?_, hK _ ?_⟩
                 (fail)
                 clear hK K))
          with_reducible refine wpQuiet_nil ?_
          intro _ hw0
          obtain ⟨pq, hw1⟩ := hw0
          subst hw1
          clear hneq
          have x1 := Y1 pq
          have x2 := Y2 pq
          have x3 := Y3 pq
          have x4 := N3.out pq
          have x5 := N4.out pq
          have hP3 := hid (kept PW3.out (by omega) pq.h)
          obtain ⟨z1, z2, zf⟩ := cells2 hP3.out
          have HB : Hid (Below w.heap.size w pq.W) := hBW.out.trans (pq.h.mono hBW.out.size)
          have HXQ := hid (ShAt.bel HX.out pq.h)
          obtain rfl : r = some y.s := by rw [← HR.out]; exact getL_here hjl HYE.out HXY.out hI.out
          clear Y1 Y2 Y3 Z1 Z2 N1 N2 he hg1 HX
          go_wp2
          refine bodyPost_ret (v := .tuple #[y.v, .bool true]) (by simp [results, Tryz.results20, go_sem, Lcl.v, z1, z2]) rfl ?_
          exact ⟨_, rfl, ShAt.off2 HXQ.out hP3.out _ _, set2b HB.out (by omega) _ _⟩
      · have HXY := hid hxy
        rw [decide_eq_false hxy] at he
        clear hxy
        as_aux_lemma =>
          go_wp2_with fail
          clear x1 x2 x3 xf
          refine wp_region_quiet_bel (by assumption) (by kernel_rfl) ?_
          intro hneq
          repeat (
            with_reducible refine wpQuiet_step (fun K hK => ?_)
            go_simp
            first
              | (with_reducible refine hK _ ?_; clear hK K)
              | (rw [if_neg (by simp [undef])]; with_reducible refine hK _ ?_; clear hK K)
              | (apply Exists.intro
                 refine ⟨fun _ => ?_, hK _ ?_⟩
                 (fail)
                 clear hK K))
          with_reducible refine wpQuiet_nil ?_
          intro _ hw0
          obtain ⟨pq, hw1⟩ := hw0
          subst hw1
          clear hneq
          go_wp2
          exact ⟨⟨j + 1, by omega, by go_num, hid (getL_next hjl HYE.out HXY.out hI.out), hid (hbel.out.trans (pq.h.mono hbel.out.size))⟩, by simp [intOf]; omega⟩
    · have HN : Hid (r = none) := by unfold Hid; rw [← HR.out]; exact none_here (by rw [lclOf_len]; omega) hI.out
      obtain ⟨z1, z2, zf⟩ := cells2 PW3.out
      obtain rfl := HN.out
      as_aux_lemma =>
        go_wp2
        refine bodyPost_ret (v := .tuple #[.agg #[.slice none 0 0, .slice none 0 0], .bool false]) (by simp [results, Tryz.results20, go_sem, z1, z2]) rfl ?_
        exact ⟨_, rfl, zero_at _, set2b hBW.out (by omega) _ _⟩

set_option maxHeartbeats 8000000 in
set_option maxRecDepth 100000 in
theorem rvar_any (w : World) (v : Value) (s : M.Sta) (n : ByteArray) (h : StAt w v s) (hK : M.SmSt 100000 s) :
    Calls Tryz.prog 24 #[v, .string n] w fun e w' => ∃ v', e = .returned v' ∧ AtAt w' v' (M.varS s n) ∧ Below w.heap.size w w' := by
  obtain ⟨B, L, a, c, b, d, hs, rfl, hB, hL⟩ := h.open
  have mixed := mixedP
  obtain ⟨hn, _, hm, _⟩ := smStB hK hs
  have TB := hid hB
  have HSL : Hid (s.vs = bndOf B) := by unfold Hid; rw [hs]
  obtain ⟨dd, hdd⟩ : ∃ x, s.dead = x := ⟨_, rfl⟩
  obtain ⟨r, hr⟩ : ∃ r, M.varS s n = r := ⟨_, rfl⟩
  have HR : Hid ((M.getK (bndOf B) n).getD M.nul = r) := by unfold Hid; rw [← HSL.out]; exact hr
  rw [hdd, hr]
  clear h hB hL hdd hs hr hK
  obtain ⟨W0, hW0⟩ : ∃ W0, w.alloc (.cells #[.bool dd, .slice a B.length c, .slice b L.length d] 25) = W0 := ⟨_, rfl⟩
  have B0 : Hid (Below w.heap.size w W0) := by unfold Hid; rw [← hW0]; exact (gr_new _ _).below
  have P0 : Hid (W0.heap[w.heap.size]? = some (.cells #[.bool dd, .slice a B.length c, .slice b L.length d] 25 (0, 0))) := by unfold Hid; rw [← hW0]; exact new_at _ _
  have hz0 : w.heap.size < W0.heap.size := by rw [← hW0]; simp
  obtain ⟨x1, x2, x3, xf⟩ := cells3 P0.out
  go_enter Tryz.func24, Tryz.ntmps24
  go_wp2
  clear hW0 x1 x2 x3 xf
  go_loopw [5] (fun i w' => ∃ j : Nat, j ≤ B.length ∧ i = .int .i64 j ∧ Hid (M.getK (bndOf B) n = M.getK ((bndOf B).drop j) n) ∧ Hid (Below W0.heap.size W0 w')) (fun i _ => B.length - (intOf i).toNat)
  case atStart => exact ⟨0, Nat.zero_le _, rfl, hid (by rw [List.drop_zero]), Below.refl _ _⟩
  case round =>
    obtain ⟨j, hj, rfl, hI, hbel⟩ := hrel
    have hBW : Hid (Below w.heap.size w wr) := B0.out.trans (hbel.out.mono (Nat.le_of_lt hz0))
    have PW := hid (kept P0.out hz0 hbel.out)
    obtain ⟨x1, x2, x3, xf⟩ := cells3 PW.out
    by_cases hjl : j < B.length
    · obtain ⟨bb, o, rfl, hlt, hc⟩ := Bs_some (TB.out.bel hBW.out) hjl
      obtain ⟨c1, c2⟩ := hc j hjl
      have HX := hid ((TB.out.bel hBW.out).2 _ (List.getElem_mem hjl))
      obtain ⟨y, hy⟩ : ∃ y, B[j] = y := ⟨_, rfl⟩
      rw [hy] at c1 c2 HX
      have HYE := hid hy
      clear hy hc
      by_cases hxy : y.nm = n
      · have HXY := hid hxy
        subst hxy
        go_wp2
        go_ret
        refine ⟨_, rfl, ?_, hBW.out⟩
        have e : r = y.vs := by rw [← HR.out, getB_here hjl HYE.out rfl hI.out]; rfl
        rw [e]
        exact HX.out
      · have HXY := hid hxy
        have hd : (y.nm.toList == n.toList) = false := by rw [same_name]; exact decide_eq_false hxy
        clear hxy
        as_aux_lemma =>
          go_wp2
          exact ⟨⟨j + 1, by omega, by go_num, hid (getB_next hjl HYE.out HXY.out hI.out), hbel⟩, by simp [intOf]; omega⟩
    · have HN : Hid (M.getK (bndOf B) n = none) := none_here (by rw [bndOf_len]; omega) hI.out
      have e : r = M.lnull := by rw [← HR.out, HN.out]; rfl
      have HE := hid e
      clear e
      as_aux_lemma =>
        go_wp2_with (go_at_call 26; refine stopHere ?_)
        refine stopAt ?_
        refine (null_any wr).mono ?_
        rintro e w2 ⟨q, m, rfl, hA, hb⟩
        have HA := hid hA
        have HB : Hid (Below w.heap.size w w2) := hBW.out.trans (hb.mono hBW.out.size)
        clear hA hb x1 x2 x3 xf
        go_wp2
        go_ret
        exact ⟨_, rfl, by rw [HE.out]; exact HA.out, HB.out⟩
end Go.Proofs.YtbaaeobdjiglgaaGreat
