/-
  The walks of object.within and object.Within. Conditions: shapes of at most 100000 fields of as many atoms; within: fields that rise.
-/
import Derived.Test.YtcnikcfnfohoeaaS7
set_option linter.unusedVariables false
set_option linter.unusedSimpArgs false
namespace Go.Proofs.Ytcnikcfnfohoeaa
open Go.RowKit Go.Sort

def InA (R Q : List Cel) (j : Nat) : Prop := ∀ i (h : i < R.length), i < j → M.inO (some R[i].f) (M.getF (fldOf Q) R[i].f.nm) = true
def InB (R Q : List Cel) (j : Nat) : Prop := ∀ i (h : i < Q.length), i < j → (!Q[i].f.su || (M.getF (fldOf R) Q[i].f.nm).isSome) = true
theorem inA_step {R Q : List Cel} {j : Nat} {x : Cel} (h : InA R Q j) (hj : j < R.length) (hx : R[j] = x) (e : M.inO (some x.f) (M.getF (fldOf Q) x.f.nm) = true) : InA R Q (j + 1) := fun i hi hij => by
  rcases Nat.lt_succ_iff_lt_or_eq.1 hij with h' | rfl
  · exact h i hi h'
  · rw [hx]; exact e
theorem inB_step {R Q : List Cel} {j : Nat} {x : Cel} (h : InB R Q j) (hj : j < Q.length) (hx : Q[j] = x) (e : (!x.f.su || (M.getF (fldOf R) x.f.nm).isSome) = true) : InB R Q (j + 1) := fun i hi hij => by
  rcases Nat.lt_succ_iff_lt_or_eq.1 hij with h' | rfl
  · exact h i hi h'
  · rw [hx]; exact e
theorem in_end {R Q : List Cel} {j k : Nat} (h1 : InA R Q j) (h2 : InB R Q k) (hj : R.length ≤ j) (hk : Q.length ≤ k) : M.withinF (fldOf R) (fldOf Q) = true := by
  unfold M.withinF
  rw [Bool.and_eq_true, List.all_eq_true, List.all_eq_true]
  constructor
  · intro f hf
    obtain ⟨x, hx, rfl⟩ := List.mem_map.1 hf
    obtain ⟨i, hi, rfl⟩ := List.getElem_of_mem hx
    exact h1 i hi (by omega)
  · intro f hf
    obtain ⟨x, hx, rfl⟩ := List.mem_map.1 hf
    obtain ⟨i, hi, rfl⟩ := List.getElem_of_mem hx
    exact h2 i hi (by omega)
theorem inA_no {R Q : List Cel} {j : Nat} {x : Cel} (hj : j < R.length) (hx : R[j] = x) (e : M.inO (some x.f) (M.getF (fldOf Q) x.f.nm) = false) : M.withinF (fldOf R) (fldOf Q) = false := by
  cases h : M.withinF (fldOf R) (fldOf Q) with
  | false => rfl
  | true =>
    unfold M.withinF at h
    rw [Bool.and_eq_true, List.all_eq_true] at h
    have := h.1 x.f (List.mem_map.2 ⟨x, by rw [← hx]; exact List.getElem_mem hj, rfl⟩)
    rw [e] at this; cases this
theorem inB_no {R Q : List Cel} {j : Nat} {x : Cel} (hj : j < Q.length) (hx : Q[j] = x) (e : (!x.f.su || (M.getF (fldOf R) x.f.nm).isSome) = false) : M.withinF (fldOf R) (fldOf Q) = false := by
  cases h : M.withinF (fldOf R) (fldOf Q) with
  | false => rfl
  | true =>
    unfold M.withinF at h
    rw [Bool.and_eq_true, List.all_eq_true, List.all_eq_true] at h
    have := h.2 x.f (List.mem_map.2 ⟨x, by rw [← hx]; exact List.getElem_mem hj, rfl⟩)
    rw [e] at this; cases this

set_option maxHeartbeats 4000000 in
theorem owithinF_any (w : World) (va vb : Value) (R Q : List Cel) (h1 : RsAt w va R) (h2 : RsAt w vb Q) (n1 : R.length ≤ 100000) (n2 : Q.length ≤ 100000) (s1 : M.RisF (fldOf R)) (s2 : M.RisF (fldOf Q)) (v1 : ∀ x ∈ R, x.f.vs.length ≤ 100000) (v2 : ∀ x ∈ Q, x.f.vs.length ≤ 100000) :
    Calls Try.prog 39 #[va, vb] w fun e w' => e = .returned (.bool (M.withinF (fldOf R) (fldOf Q))) ∧ Below w.heap.size w w' := by
  have mixed := mixedP
  obtain ⟨a, c, rfl⟩ := h1.form
  obtain ⟨b, d, rfl⟩ := h2.form
  have T1 := hid h1
  have T2 := hid h2
  have S1 := hid s1
  have S2 := hid s2
  have V1 := hid v1
  have V2 := hid v2
  clear h1 h2 s1 s2 v1 v2
  go_enter Try.func39, Try.ntmps39
  go_wp2
  go_loopw [15] (fun i w' => ∃ j : Nat, j ≤ R.length ∧ i = .int .i64 j ∧ Hid (InA R Q j) ∧ Hid (Below w.heap.size w w')) (fun i _ => R.length - (intOf i).toNat)
  case atStart => exact ⟨0, Nat.zero_le _, rfl, (fun _ _ h => absurd h (Nat.not_lt_zero _)), Below.refl _ _⟩
  case round =>
    obtain ⟨j, hj, rfl, hm, hbel⟩ := hrel
    by_cases hjl : j < R.length
    · obtain ⟨bb, o, rfl, hlt, hc⟩ := Rs_some T1.out hjl
      obtain ⟨c1, c2, c3⟩ := (hc j hjl).bel hlt hbel.out
      have HX := hid (T1.out.1 _ (List.getElem_mem hjl))
      have hxl := V1.out _ (List.getElem_mem hjl)
      obtain ⟨x, hx⟩ : ∃ x, R[j] = x := ⟨_, rfl⟩
      rw [hx] at c1 c2 c3 HX hxl
      have HXE := hid hx
      clear hx hc
      obtain ⟨W1, hW1⟩ : ∃ W1, wr.alloc (.cells #[.string x.f.nm, .bool x.f.su, .slice x.a x.f.vs.length x.c] 29) = W1 := ⟨_, rfl⟩
      have hB1 : Below wr.heap.size wr W1 := by rw [← hW1]; exact (gr_new _ _).below
      have hsz : wr.heap.size < W1.heap.size := by rw [← hW1]; simp
      have P1 := new_at wr (.cells #[.string x.f.nm, .bool x.f.su, .slice x.a x.f.vs.length x.c] 29)
      rw [hW1] at P1
      obtain ⟨p1, p2, p3, pf⟩ := cells3 P1
      have HP1 := hid P1
      have B1 : Hid (Below w.heap.size w W1) := hbel.out.trans (hB1.mono hbel.out.size)
      have K := hid (find_any W1 _ Q x.f.nm (T2.out.bel B1.out) (by omega) S2.out)
      clear P1
      go_wp2_with (go_at_call 53; refine stopHere ?_)
      refine stopAt ?_
      refine K.out.mono ?_
      rintro e w3 ⟨y, rfl, hyf, hoy, hb3⟩
      have B3 : Hid (Below w.heap.size w w3) := B1.out.trans (hb3.mono B1.out.size)
      have HOY := hid hoy
      have HYF := hid hyf
      obtain ⟨p1', p2', p3', pf'⟩ := cells3 (kept HP1.out hsz hb3)
      have hs3 : wr.heap.size < w3.heap.size := Nat.lt_of_lt_of_le hsz hb3.size
      clear hyf hoy hb3 hW1 p1 p2 p3 pf c1 c2 c3 K
      unfold fv
      obtain ⟨W4, hW4⟩ : ∃ W4, w3.alloc (.cells #[.string y.f.nm, .bool y.f.su, .slice y.a y.f.vs.length y.c] 29) = W4 := ⟨_, rfl⟩
      have hB4 : Below w3.heap.size w3 W4 := by rw [← hW4]; exact (gr_new _ _).below
      have hn4 := cells3 (new_at w3 (.cells #[.string y.f.nm, .bool y.f.su, .slice y.a y.f.vs.length y.c] 29))
      rw [hW4] at hn4
      obtain ⟨q1, q2, q3, qf⟩ := hn4
      have B4 : Hid (Below w.heap.size w W4) := B3.out.trans (hB4.mono B3.out.size)
      have u1 := p1'
      have u2 := p2'
      have u3 := p3'
      rw [← hB4.cell (p := ⟨wr.heap.size, 0, none⟩) hs3] at u1
      rw [← hB4.cell (p := ⟨wr.heap.size, 1, none⟩) hs3] at u2
      rw [← hB4.cell (p := ⟨wr.heap.size, 2, none⟩) hs3] at u3
      have HOY4 := hid (HOY.out.bel hB4)
      have HOX4 := hid (HX.out.bel B4.out)
      cases hg : M.getF (fldOf Q) x.f.nm with
      | none =>
        have HG := hid hg
        clear hg
        simp only [Option.isSome_none]
        go_wp2
        go_ret
        exact ⟨ret_bool (inA_no hjl HXE.out (by rw [HG.out]; rfl)).symm, B4.out⟩
      | some g =>
        have HG := hid hg
        have HYG : Hid (y.f = g) := by rw [hg] at HYF; exact HYF.out
        clear hg
        simp only [Option.isSome_some]
        cases hgs : y.f.su with
        | true =>
          rw [hgs] at q2 hW4
          have HGS := hid hgs
          clear hgs
          cases hxs : x.f.su with
          | false =>
            rw [hxs] at u2
            have HXS := hid hxs
            clear hxs
            go_wp2
            go_ret
            refine ⟨ret_bool (inA_no hjl HXE.out ?_).symm, B4.out⟩
            rw [HG.out, ← HYG.out]
            simp [M.inO, HGS.out, HXS.out]
          | true =>
            rw [hxs] at u2
            have HXS := hid hxs
            clear hxs
            have K2 := within_any W4 _ _ x.f.vs y.f.vs HOX4.out HOY4.out (by omega) (by rw [HYG.out]; obtain ⟨z, hz, hze⟩ := List.mem_map.1 (M.getF_mem HG.out); rw [← hze]; exact V2.out z hz)
            unfold Cel.v at K2
            have hio : Hid (M.inO (some x.f) (M.getF (fldOf Q) x.f.nm) = M.within x.f.vs y.f.vs) := by
              unfold Hid; rw [HG.out, ← HYG.out]; simp [M.inO, HGS.out, HXS.out]
            cases hw : M.within x.f.vs y.f.vs with
            | true =>
              rw [hw] at K2
              have HK2 := hid K2
              have HW := hid hw
              clear K2 hw
              go_wp2_with (go_at_call 38; refine stopHere ?_)
              refine stopAt ?_
              refine HK2.out.mono ?_
              rintro e w5 ⟨rfl, hb5⟩
              clear hW4 q1 q2 q3 qf u1 u2 u3 p1' p2' p3' pf'
              go_wp2
              exact ⟨⟨j + 1, by omega, by go_num, inA_step hm.out hjl HXE.out (by rw [hio.out, HW.out]), B4.out.trans (hb5.mono B4.out.size)⟩, by simp [intOf]; omega⟩
            | false =>
              rw [hw] at K2
              have HK2 := hid K2
              have HW := hid hw
              clear K2 hw
              go_wp2_with (go_at_call 38; refine stopHere ?_)
              refine stopAt ?_
              refine HK2.out.mono ?_
              rintro e w5 ⟨rfl, hb5⟩
              clear hW4 q1 q2 q3 qf u1 u2 u3 p1' p2' p3' pf'
              go_wp2
              go_ret
              exact ⟨ret_bool (inA_no hjl HXE.out (by rw [hio.out, HW.out])).symm, B4.out.trans (hb5.mono B4.out.size)⟩
        | false =>
          rw [hgs] at q2 hW4
          have HGS := hid hgs
          clear hgs
          have K2 := within_any W4 _ _ x.f.vs y.f.vs HOX4.out HOY4.out (by omega) (by rw [HYG.out]; obtain ⟨z, hz, hze⟩ := List.mem_map.1 (M.getF_mem HG.out); rw [← hze]; exact V2.out z hz)
          unfold Cel.v at K2
          have hio : Hid (M.inO (some x.f) (M.getF (fldOf Q) x.f.nm) = M.within x.f.vs y.f.vs) := by
            unfold Hid; rw [HG.out, ← HYG.out]; simp [M.inO, HGS.out]
          cases hw : M.within x.f.vs y.f.vs with
          | true =>
            rw [hw] at K2
            have HK2 := hid K2
            have HW := hid hw
            clear K2 hw
            go_wp2_with (go_at_call 38; refine stopHere ?_)
            refine stopAt ?_
            refine HK2.out.mono ?_
            rintro e w5 ⟨rfl, hb5⟩
            clear hW4 q1 q2 q3 qf u1 u2 u3 p1' p2' p3' pf'
            go_wp2
            exact ⟨⟨j + 1, by omega, by go_num, inA_step hm.out hjl HXE.out (by rw [hio.out, HW.out]), B4.out.trans (hb5.mono B4.out.size)⟩, by simp [intOf]; omega⟩
          | false =>
            rw [hw] at K2
            have HK2 := hid K2
            have HW := hid hw
            clear K2 hw
            go_wp2_with (go_at_call 38; refine stopHere ?_)
            refine stopAt ?_
            refine HK2.out.mono ?_
            rintro e w5 ⟨rfl, hb5⟩
            clear hW4 q1 q2 q3 qf u1 u2 u3 p1' p2' p3' pf'
            go_wp2
            go_ret
            exact ⟨ret_bool (inA_no hjl HXE.out (by rw [hio.out, HW.out])).symm, B4.out.trans (hb5.mono B4.out.size)⟩
    · have HA1 := hm
      have BA := hbel
      go_wp2
      clear hbel
      go_loopw [48] (fun i w' => ∃ j : Nat, j ≤ Q.length ∧ i = .int .i64 j ∧ Hid (InB R Q j) ∧ Hid (Below w.heap.size w w')) (fun i _ => Q.length - (intOf i).toNat)
      case atStart => exact ⟨0, Nat.zero_le _, rfl, (fun _ _ h => absurd h (Nat.not_lt_zero _)), BA⟩
      case round =>
        obtain ⟨k, hk, rfl, hm2, hbel⟩ := hrel
        by_cases hkl : k < Q.length
        · obtain ⟨bb, o, rfl, hlt, hc⟩ := Rs_some T2.out hkl
          obtain ⟨c1, c2, c3⟩ := (hc k hkl).bel hlt hbel.out
          obtain ⟨x, hx⟩ : ∃ x, Q[k] = x := ⟨_, rfl⟩
          rw [hx] at c1 c2 c3
          have HXE := hid hx
          clear hx hc
          obtain ⟨W1, hW1⟩ : ∃ W1, wr.alloc (.cells #[.string x.f.nm, .bool x.f.su, .slice x.a x.f.vs.length x.c] 29) = W1 := ⟨_, rfl⟩
          have hB1 : Below wr.heap.size wr W1 := by rw [← hW1]; exact (gr_new _ _).below
          have hsz : wr.heap.size < W1.heap.size := by rw [← hW1]; simp
          have P1 := new_at wr (.cells #[.string x.f.nm, .bool x.f.su, .slice x.a x.f.vs.length x.c] 29)
          rw [hW1] at P1
          obtain ⟨p1, p2, p3, pf⟩ := cells3 P1
          have HP1 := hid P1
          have B1 : Hid (Below w.heap.size w W1) := hbel.out.trans (hB1.mono hbel.out.size)
          have K := hid (find_any W1 _ R x.f.nm (T1.out.bel B1.out) (by omega) S1.out)
          clear P1
          go_wp2_with (go_at_call 53; refine stopHere ?_)
          refine stopAt ?_
          refine K.out.mono ?_
          rintro e w3 ⟨y, rfl, hyf, hoy, hb3⟩
          have B3 : Hid (Below w.heap.size w w3) := B1.out.trans (hb3.mono B1.out.size)
          obtain ⟨p1', p2', p3', pf'⟩ := cells3 (kept HP1.out hsz hb3)
          have hs3 : wr.heap.size < w3.heap.size := Nat.lt_of_lt_of_le hsz hb3.size
          clear hyf hoy hb3 hW1 p1 p2 p3 pf c1 c2 c3 K
          unfold fv
          obtain ⟨W4, hW4⟩ : ∃ W4, w3.alloc (.cells #[.string y.f.nm, .bool y.f.su, .slice y.a y.f.vs.length y.c] 29) = W4 := ⟨_, rfl⟩
          have hB4 : Below w3.heap.size w3 W4 := by rw [← hW4]; exact (gr_new _ _).below
          have B4 : Hid (Below w.heap.size w W4) := B3.out.trans (hB4.mono B3.out.size)
          have u1 := p1'
          have u2 := p2'
          have u3 := p3'
          rw [← hB4.cell (p := ⟨wr.heap.size, 0, none⟩) hs3] at u1
          rw [← hB4.cell (p := ⟨wr.heap.size, 1, none⟩) hs3] at u2
          rw [← hB4.cell (p := ⟨wr.heap.size, 2, none⟩) hs3] at u3
          cases hxs : x.f.su with
          | false =>
            rw [hxs] at u2
            have HXS := hid hxs
            clear hxs
            go_wp2
            exact ⟨⟨k + 1, by omega, by go_num, inB_step hm2.out hkl HXE.out (by simp [HXS.out]), B4.out⟩, by simp [intOf]; omega⟩
          | true =>
            rw [hxs] at u2
            have HXS := hid hxs
            clear hxs
            cases hg : (M.getF (fldOf R) x.f.nm).isSome with
            | true =>
              have HG := hid hg
              go_wp2
              exact ⟨⟨k + 1, by omega, by go_num, inB_step hm2.out hkl HXE.out (by simp [HXS.out, HG.out]), B4.out⟩, by simp [intOf]; omega⟩
            | false =>
              have HG := hid hg
              go_wp2
              go_ret
              exact ⟨ret_bool (inB_no hkl HXE.out (by simp [HXS.out, HG.out])).symm, B4.out⟩
        · go_wp2
          go_ret
          exact ⟨ret_bool (in_end HA1.out hm2.out (by omega) (by omega)).symm, hbel.out⟩
end Go.Proofs.Ytcnikcfnfohoeaa
