/-
  The walk of the laws' fixed calls. No conditions.
-/
import Derived.Test.YtcnikcfnfohoeaaS18
import Derived.Test.YtcnikcfnfohoeaaBx
set_option linter.unusedVariables false
set_option linter.unusedSimpArgs false
namespace Go.Proofs.Ytcnikcfnfohoeaa
open Go.RowKit Go.Sort

set_option maxHeartbeats 4000000 in
set_option maxRecDepth 100000 in
theorem fixed_any (w : World) : Calls Try.prog 10 #[] w fun e w' => e = .returned (.bool true) ∧ Below w.heap.size w w' := by
  have B0 := hid (Below.refl w.heap.size w)
  have mixed := mixedP
  go_enter Try.func10, Try.ntmps10
  go_wp2_with (first | (go_at_call 31; refine stopHere ?_))
  refine stopAt ?_
  refine (one_any w).mono ?_
  rintro e w1 ⟨qa1, qc1, qb1, qd1, rfl, hsh, hb⟩
  have B1 := hid (B0.out.trans (hb.mono B0.out.size))
  clear B0
  have Fo1 := hid hsh
  clear hsh
  clear hb
  go_wp2_with (first | (go_at_call 29; refine stopHere ?_))
  refine stopAt ?_
  refine (null_any w1).mono ?_
  rintro e w2 ⟨qn2, mn2, rfl, hA, hb⟩
  have B2 := hid (B1.out.trans (hb.mono B1.out.size))
  have Fo2 := hid (Fo1.out.bel hb)
  clear B1 Fo1
  have Fn2 := hid hA
  clear hA
  clear hb
  have hbare : ShAt w2 (.agg #[.slice none 0 0, .slice qn2 1 mn2]) M.bare := ⟨_, _, rfl, ⟨[], rfl, RsAt.nil _⟩, Fn2.out⟩
  go_wp2_with (first | (go_at_call 17; refine stopHere ?_))
  refine stopAt ?_
  refine (ojoin_any w2 _ _ M.one M.bare Fo2.out hbare M.one_sm M.bare_sm).mono ?_
  rintro e w3 ⟨v3, rfl, hsh, hb⟩
  have B3 := hid (B2.out.trans (hb.mono B2.out.size))
  have Fo3 := hid (Fo2.out.bel hb)
  have Fn3 := hid (Fn2.out.bel hb)
  clear B2 Fo2 Fn2
  rw [M.fJ_eq] at hsh
  have Fj3 := hid hsh.at
  obtain ⟨a3, c3, b3, d3, rfl⟩ := hsh.at.form
  clear hsh
  clear hb
  obtain ⟨V4, hV4⟩ : ∃ W, w3.alloc (.cells #[.slice a3 M.fJ.fs.length c3, .slice b3 M.fJ.pr.length d3] 25) = W := ⟨_, rfl⟩
  have hbx : Below w3.heap.size w3 V4 := by rw [← hV4]; exact (gr_new _ _).below
  have Nbj : Hid (V4.heap[w3.heap.size]? = some (.cells #[.slice a3 M.fJ.fs.length c3, .slice b3 M.fJ.pr.length d3] 25 (0, 0))) := by unfold Hid; rw [← hV4]; exact new_at _ _
  have B5 := hid (B3.out.trans (hbx.mono B3.out.size))
  have Fo5 := hid (Fo3.out.bel hbx)
  have Fn5 := hid (Fn3.out.bel hbx)
  have Fj5 := hid (Fj3.out.bel hbx)
  clear B3 Fo3 Fn3 Fj3
  clear hbx
  clear hbare
  obtain ⟨xbj0, xbj1, _⟩ := cells2 Nbj.out
  go_wp2_with (first | (go_at_call 31; refine stopHere ?_))
  refine stopAt ?_
  refine (one_any V4).mono ?_
  rintro e w6 ⟨qa6, qc6, qb6, qd6, rfl, hsh, hb⟩
  have B6 := hid (B5.out.trans (hb.mono B5.out.size))
  have Fj6 := hid (Fj5.out.bel hb)
  have Fbj6 := hid (bx_bel Nbj.out hb)
  clear B5 Fj5 Nbj
  have Fo6 := hid hsh
  clear hsh
  clear hb xbj0 xbj1 hV4
  obtain ⟨xbj0, xbj1, _⟩ := cells2 Fbj6.out
  go_wp2_with (first | (go_at_call 29; refine stopHere ?_))
  refine stopAt ?_
  refine (null_any w6).mono ?_
  rintro e w7 ⟨qn7, mn7, rfl, hA, hb⟩
  have B7 := hid (B6.out.trans (hb.mono B6.out.size))
  have Fj7 := hid (Fj6.out.bel hb)
  have Fbj7 := hid (bx_bel Fbj6.out hb)
  have Fo7 := hid (Fo6.out.bel hb)
  clear B6 Fj6 Fbj6 Fo6
  have Fn7 := hid hA
  clear hA
  clear hb xbj0 xbj1
  obtain ⟨xbj0, xbj1, _⟩ := cells2 Fbj7.out
  go_wp2_with (first | (go_at_call 23; refine stopHere ?_))
  refine stopAt ?_
  refine (oweak_any w7 _ M.one M.nmP _ M.lnull Fo7.out M.one_sm Fn7.out (by decide)).mono ?_
  rintro e w8 ⟨v8, rfl, hsh, hb⟩
  have B8 := hid (B7.out.trans (hb.mono B7.out.size))
  have Fj8 := hid (Fj7.out.bel hb)
  have Fbj8 := hid (bx_bel Fbj7.out hb)
  have Fo8 := hid (Fo7.out.bel hb)
  have Fn8 := hid (Fn7.out.bel hb)
  clear B7 Fj7 Fbj7 Fo7 Fn7
  rw [M.fW_eq] at hsh
  have Fw8 := hid hsh.at
  obtain ⟨a8, c8, b8, d8, rfl⟩ := hsh.at.form
  clear hsh
  clear hb xbj0 xbj1
  obtain ⟨V9, hV9⟩ : ∃ W, w8.alloc (.cells #[.slice a8 M.fW.fs.length c8, .slice b8 M.fW.pr.length d8] 25) = W := ⟨_, rfl⟩
  have hbx : Below w8.heap.size w8 V9 := by rw [← hV9]; exact (gr_new _ _).below
  have Nbw : Hid (V9.heap[w8.heap.size]? = some (.cells #[.slice a8 M.fW.fs.length c8, .slice b8 M.fW.pr.length d8] 25 (0, 0))) := by unfold Hid; rw [← hV9]; exact new_at _ _
  have B10 := hid (B8.out.trans (hbx.mono B8.out.size))
  have Fj10 := hid (Fj8.out.bel hbx)
  have Fbj10 := hid (bx_bel Fbj8.out hbx)
  have Fo10 := hid (Fo8.out.bel hbx)
  have Fn10 := hid (Fn8.out.bel hbx)
  have Fw10 := hid (Fw8.out.bel hbx)
  clear B8 Fj8 Fbj8 Fo8 Fn8 Fw8
  clear hbx
  obtain ⟨xbj0, xbj1, _⟩ := cells2 Fbj10.out
  obtain ⟨xbw0, xbw1, _⟩ := cells2 Nbw.out
  go_wp2_with (first | (go_at_call 11; refine stopHere ?_))
  refine stopAt ?_
  refine (oget_any V9 _ M.fJ M.nmP Fj10.out M.fJ_sm).mono ?_
  rintro e w11 ⟨y11, rfl, hyf, hoy, hb⟩
  have B11 := hid (B10.out.trans (hb.mono B10.out.size))
  have Fj11 := hid (Fj10.out.bel hb)
  have Fbj11 := hid (bx_bel Fbj10.out hb)
  have Fw11 := hid (Fw10.out.bel hb)
  have Fbw11 := hid (bx_bel Nbw.out hb)
  clear B10 Fj10 Fbj10 Fw10 Nbw
  rw [M.fJ_get] at hyf
  have Ff11 := hid hoy
  have Yf := hid hyf
  obtain ⟨⟨ynm11, ysu11, yvs11⟩, ya11, yc11⟩ := y11
  simp only [Option.getD_some, M.Fld.mk.injEq] at hyf
  obtain ⟨rfl, rfl, rfl⟩ := hyf
  clear hoy Yf
  simp only [M.fJ_get, Option.isSome_some]
  unfold fv
  clear hb xbj0 xbj1 xbw0 xbw1 hV9
  obtain ⟨V12, hV12⟩ : ∃ W, w11.alloc (.cells #[.string M.nmP, .bool false, .slice ya11 (M.lnum : List M.Atm).length yc11] 29) = W := ⟨_, rfl⟩
  have hbx : Below w11.heap.size w11 V12 := by rw [← hV12]; exact (gr_new _ _).below
  have Nbf : Hid (V12.heap[w11.heap.size]? = some (.cells #[.string M.nmP, .bool false, .slice ya11 (M.lnum : List M.Atm).length yc11] 29 (0, 0))) := by unfold Hid; rw [← hV12]; exact new_at _ _
  have B13 := hid (B11.out.trans (hbx.mono B11.out.size))
  have Fj13 := hid (Fj11.out.bel hbx)
  have Fbj13 := hid (bx_bel Fbj11.out hbx)
  have Fw13 := hid (Fw11.out.bel hbx)
  have Fbw13 := hid (bx_bel Fbw11.out hbx)
  have Ff13 := hid (Ff11.out.bel hbx)
  clear B11 Fj11 Fbj11 Fw11 Fbw11 Ff11
  clear hbx
  obtain ⟨xbj0, xbj1, _⟩ := cells2 Fbj13.out
  obtain ⟨xbw0, xbw1, _⟩ := cells2 Fbw13.out
  obtain ⟨xbf0, xbf1, xbf2, _⟩ := cells3 Nbf.out
  go_wp2_with (first | (go_at_call 11; refine stopHere ?_))
  refine stopAt ?_
  refine (oget_any V12 _ M.fW M.nmP Fw13.out M.fW_sm).mono ?_
  rintro e w14 ⟨y14, rfl, hyf, hoy, hb⟩
  have B14 := hid (B13.out.trans (hb.mono B13.out.size))
  have Fj14 := hid (Fj13.out.bel hb)
  have Fbj14 := hid (bx_bel Fbj13.out hb)
  have Fw14 := hid (Fw13.out.bel hb)
  have Fbw14 := hid (bx_bel Fbw13.out hb)
  have Ff14 := hid (Ff13.out.bel hb)
  have Fbf14 := hid (bx_bel Nbf.out hb)
  clear B13 Fj13 Fbj13 Fw13 Fbw13 Ff13 Nbf
  rw [M.fW_get] at hyf
  have Fg14 := hid hoy
  have Yg := hid hyf
  obtain ⟨⟨ynm14, ysu14, yvs14⟩, ya14, yc14⟩ := y14
  simp only [Option.getD_some, M.Fld.mk.injEq] at hyf
  obtain ⟨rfl, rfl, rfl⟩ := hyf
  clear hoy Yg
  simp only [M.fW_get, Option.isSome_some]
  unfold fv
  clear hb xbj0 xbj1 xbw0 xbw1 xbf0 xbf1 xbf2 hV12
  obtain ⟨V15, hV15⟩ : ∃ W, w14.alloc (.cells #[.string M.nmP, .bool true, .slice ya14 (M.lboth : List M.Atm).length yc14] 29) = W := ⟨_, rfl⟩
  have hbx : Below w14.heap.size w14 V15 := by rw [← hV15]; exact (gr_new _ _).below
  have Nbg : Hid (V15.heap[w14.heap.size]? = some (.cells #[.string M.nmP, .bool true, .slice ya14 (M.lboth : List M.Atm).length yc14] 29 (0, 0))) := by unfold Hid; rw [← hV15]; exact new_at _ _
  have B16 := hid (B14.out.trans (hbx.mono B14.out.size))
  have Fj16 := hid (Fj14.out.bel hbx)
  have Fbj16 := hid (bx_bel Fbj14.out hbx)
  have Fw16 := hid (Fw14.out.bel hbx)
  have Fbw16 := hid (bx_bel Fbw14.out hbx)
  have Ff16 := hid (Ff14.out.bel hbx)
  have Fbf16 := hid (bx_bel Fbf14.out hbx)
  have Fg16 := hid (Fg14.out.bel hbx)
  clear B14 Fj14 Fbj14 Fw14 Fbw14 Ff14 Fbf14 Fg14
  clear hbx
  obtain ⟨xbj0, xbj1, _⟩ := cells2 Fbj16.out
  obtain ⟨xbw0, xbw1, _⟩ := cells2 Fbw16.out
  obtain ⟨xbf0, xbf1, xbf2, _⟩ := cells3 Fbf16.out
  obtain ⟨xbg0, xbg1, xbg2, _⟩ := cells3 Nbg.out
  go_wp2_with (first | (go_at_call 31; refine stopHere ?_))
  refine stopAt ?_
  refine (one_any V15).mono ?_
  rintro e w17 ⟨qa17, qc17, qb17, qd17, rfl, hsh, hb⟩
  have B17 := hid (B16.out.trans (hb.mono B16.out.size))
  have Fj17 := hid (Fj16.out.bel hb)
  have Fbj17 := hid (bx_bel Fbj16.out hb)
  have Fw17 := hid (Fw16.out.bel hb)
  have Fbw17 := hid (bx_bel Fbw16.out hb)
  have Ff17 := hid (Ff16.out.bel hb)
  have Fbf17 := hid (bx_bel Fbf16.out hb)
  have Fg17 := hid (Fg16.out.bel hb)
  have Fbg17 := hid (bx_bel Nbg.out hb)
  clear B16 Fj16 Fbj16 Fw16 Fbw16 Ff16 Fbf16 Fg16 Nbg
  have Fo17 := hid hsh
  clear hsh
  clear hb xbj0 xbj1 xbw0 xbw1 xbf0 xbf1 xbf2 xbg0 xbg1 xbg2 hV15
  obtain ⟨xbj0, xbj1, _⟩ := cells2 Fbj17.out
  obtain ⟨xbw0, xbw1, _⟩ := cells2 Fbw17.out
  obtain ⟨xbf0, xbf1, xbf2, _⟩ := cells3 Fbf17.out
  obtain ⟨xbg0, xbg1, xbg2, _⟩ := cells3 Fbg17.out
  go_wp2_with (first | (go_at_call 29; refine stopHere ?_))
  refine stopAt ?_
  refine (null_any w17).mono ?_
  rintro e w18 ⟨qn18, mn18, rfl, hA, hb⟩
  have B18 := hid (B17.out.trans (hb.mono B17.out.size))
  have Fj18 := hid (Fj17.out.bel hb)
  have Fbj18 := hid (bx_bel Fbj17.out hb)
  have Fw18 := hid (Fw17.out.bel hb)
  have Fbw18 := hid (bx_bel Fbw17.out hb)
  have Ff18 := hid (Ff17.out.bel hb)
  have Fbf18 := hid (bx_bel Fbf17.out hb)
  have Fg18 := hid (Fg17.out.bel hb)
  have Fbg18 := hid (bx_bel Fbg17.out hb)
  have Fo18 := hid (Fo17.out.bel hb)
  clear B17 Fj17 Fbj17 Fw17 Fbw17 Ff17 Fbf17 Fg17 Fbg17 Fo17
  have Fn18 := hid hA
  clear hA
  clear hb xbj0 xbj1 xbw0 xbw1 xbf0 xbf1 xbf2 xbg0 xbg1 xbg2
  obtain ⟨xbj0, xbj1, _⟩ := cells2 Fbj18.out
  obtain ⟨xbw0, xbw1, _⟩ := cells2 Fbw18.out
  obtain ⟨xbf0, xbf1, xbf2, _⟩ := cells3 Fbf18.out
  obtain ⟨xbg0, xbg1, xbg2, _⟩ := cells3 Fbg18.out
  go_wp2_with (first | (go_at_call 21; refine stopHere ?_))
  refine stopAt ?_
  refine (ostrong_any w18 _ M.one M.nmP _ M.lnull Fo18.out M.one_sm Fn18.out (by decide)).mono ?_
  rintro e w19 ⟨v19, rfl, hsh, hb⟩
  have B19 := hid (B18.out.trans (hb.mono B18.out.size))
  have Fj19 := hid (Fj18.out.bel hb)
  have Fbj19 := hid (bx_bel Fbj18.out hb)
  have Fw19 := hid (Fw18.out.bel hb)
  have Fbw19 := hid (bx_bel Fbw18.out hb)
  have Ff19 := hid (Ff18.out.bel hb)
  have Fbf19 := hid (bx_bel Fbf18.out hb)
  have Fg19 := hid (Fg18.out.bel hb)
  have Fbg19 := hid (bx_bel Fbg18.out hb)
  have Fo19 := hid (Fo18.out.bel hb)
  have Fn19 := hid (Fn18.out.bel hb)
  clear B18 Fj18 Fbj18 Fw18 Fbw18 Ff18 Fbf18 Fg18 Fbg18 Fo18 Fn18
  rw [M.fS_eq] at hsh
  have Fs19 := hid hsh.at
  obtain ⟨a19, c19, b19, d19, rfl⟩ := hsh.at.form
  clear hsh
  clear hb xbj0 xbj1 xbw0 xbw1 xbf0 xbf1 xbf2 xbg0 xbg1 xbg2
  obtain ⟨V20, hV20⟩ : ∃ W, w19.alloc (.cells #[.slice a19 M.fS.fs.length c19, .slice b19 M.fS.pr.length d19] 25) = W := ⟨_, rfl⟩
  have hbx : Below w19.heap.size w19 V20 := by rw [← hV20]; exact (gr_new _ _).below
  have Nbs : Hid (V20.heap[w19.heap.size]? = some (.cells #[.slice a19 M.fS.fs.length c19, .slice b19 M.fS.pr.length d19] 25 (0, 0))) := by unfold Hid; rw [← hV20]; exact new_at _ _
  have B21 := hid (B19.out.trans (hbx.mono B19.out.size))
  have Fj21 := hid (Fj19.out.bel hbx)
  have Fbj21 := hid (bx_bel Fbj19.out hbx)
  have Fw21 := hid (Fw19.out.bel hbx)
  have Fbw21 := hid (bx_bel Fbw19.out hbx)
  have Ff21 := hid (Ff19.out.bel hbx)
  have Fbf21 := hid (bx_bel Fbf19.out hbx)
  have Fg21 := hid (Fg19.out.bel hbx)
  have Fbg21 := hid (bx_bel Fbg19.out hbx)
  have Fo21 := hid (Fo19.out.bel hbx)
  have Fn21 := hid (Fn19.out.bel hbx)
  have Fs21 := hid (Fs19.out.bel hbx)
  clear B19 Fj19 Fbj19 Fw19 Fbw19 Ff19 Fbf19 Fg19 Fbg19 Fo19 Fn19 Fs19
  clear hbx
  obtain ⟨xbj0, xbj1, _⟩ := cells2 Fbj21.out
  obtain ⟨xbw0, xbw1, _⟩ := cells2 Fbw21.out
  obtain ⟨xbf0, xbf1, xbf2, _⟩ := cells3 Fbf21.out
  obtain ⟨xbg0, xbg1, xbg2, _⟩ := cells3 Fbg21.out
  obtain ⟨xbs0, xbs1, _⟩ := cells2 Nbs.out
  go_wp2_with (first | (go_at_call 11; refine stopHere ?_))
  refine stopAt ?_
  refine (oget_any V20 _ M.fS M.nmP Fs21.out M.fS_sm).mono ?_
  rintro e w22 ⟨y22, rfl, hyf, hoy, hb⟩
  have B22 := hid (B21.out.trans (hb.mono B21.out.size))
  have Fj22 := hid (Fj21.out.bel hb)
  have Fbj22 := hid (bx_bel Fbj21.out hb)
  have Fw22 := hid (Fw21.out.bel hb)
  have Fbw22 := hid (bx_bel Fbw21.out hb)
  have Ff22 := hid (Ff21.out.bel hb)
  have Fbf22 := hid (bx_bel Fbf21.out hb)
  have Fg22 := hid (Fg21.out.bel hb)
  have Fbg22 := hid (bx_bel Fbg21.out hb)
  have Fs22 := hid (Fs21.out.bel hb)
  have Fbs22 := hid (bx_bel Nbs.out hb)
  clear B21 Fj21 Fbj21 Fw21 Fbw21 Ff21 Fbf21 Fg21 Fbg21 Fs21 Nbs
  rw [M.fS_get] at hyf
  have Fh22 := hid hoy
  have Yh := hid hyf
  obtain ⟨⟨ynm22, ysu22, yvs22⟩, ya22, yc22⟩ := y22
  simp only [Option.getD_some, M.Fld.mk.injEq] at hyf
  obtain ⟨rfl, rfl, rfl⟩ := hyf
  clear hoy Yh
  simp only [M.fS_get, Option.isSome_some]
  unfold fv
  clear hb xbj0 xbj1 xbw0 xbw1 xbf0 xbf1 xbf2 xbg0 xbg1 xbg2 xbs0 xbs1 hV20
  obtain ⟨V23, hV23⟩ : ∃ W, w22.alloc (.cells #[.string M.nmP, .bool true, .slice ya22 (M.lnull : List M.Atm).length yc22] 29) = W := ⟨_, rfl⟩
  have hbx : Below w22.heap.size w22 V23 := by rw [← hV23]; exact (gr_new _ _).below
  have Nbh : Hid (V23.heap[w22.heap.size]? = some (.cells #[.string M.nmP, .bool true, .slice ya22 (M.lnull : List M.Atm).length yc22] 29 (0, 0))) := by unfold Hid; rw [← hV23]; exact new_at _ _
  have B24 := hid (B22.out.trans (hbx.mono B22.out.size))
  have Fj24 := hid (Fj22.out.bel hbx)
  have Fbj24 := hid (bx_bel Fbj22.out hbx)
  have Fw24 := hid (Fw22.out.bel hbx)
  have Fbw24 := hid (bx_bel Fbw22.out hbx)
  have Ff24 := hid (Ff22.out.bel hbx)
  have Fbf24 := hid (bx_bel Fbf22.out hbx)
  have Fg24 := hid (Fg22.out.bel hbx)
  have Fbg24 := hid (bx_bel Fbg22.out hbx)
  have Fs24 := hid (Fs22.out.bel hbx)
  have Fbs24 := hid (bx_bel Fbs22.out hbx)
  have Fh24 := hid (Fh22.out.bel hbx)
  clear B22 Fj22 Fbj22 Fw22 Fbw22 Ff22 Fbf22 Fg22 Fbg22 Fs22 Fbs22 Fh22
  clear hbx
  have hl2 : ((M.lboth.length : Int) == 2) = true := by decide
  obtain ⟨xbj0, xbj1, _⟩ := cells2 Fbj24.out
  obtain ⟨xbf0, xbf1, xbf2, _⟩ := cells3 Fbf24.out
  obtain ⟨xbg0, xbg1, xbg2, _⟩ := cells3 Fbg24.out
  obtain ⟨xbh0, xbh1, xbh2, _⟩ := cells3 Nbh.out
  go_wp2_with fail
  have KH : Hid (∀ W, Below V23.heap.size V23 W → (W.cell? ⟨w3.heap.size, 0, none⟩ = some (.slice a3 M.fJ.fs.length c3) ∧ W.cell? ⟨w3.heap.size, 1, none⟩ = some (.slice b3 M.fJ.pr.length d3) ∧ W.cell? ⟨w11.heap.size, 0, none⟩ = some (.string M.nmP) ∧ W.cell? ⟨w11.heap.size, 1, none⟩ = some (.bool false) ∧ W.cell? ⟨w11.heap.size, 2, none⟩ = some (.slice ya11 (M.lnum : List M.Atm).length yc11) ∧ W.cell? ⟨w14.heap.size, 0, none⟩ = some (.string M.nmP) ∧ W.cell? ⟨w14.heap.size, 1, none⟩ = some (.bool true) ∧ W.cell? ⟨w14.heap.size, 2, none⟩ = some (.slice ya14 (M.lboth : List M.Atm).length yc14) ∧ W.cell? ⟨w22.heap.size, 0, none⟩ = some (.string M.nmP) ∧ W.cell? ⟨w22.heap.size, 1, none⟩ = some (.bool true) ∧ W.cell? ⟨w22.heap.size, 2, none⟩ = some (.slice ya22 (M.lnull : List M.Atm).length yc22))) := fun W hb => by
    obtain ⟨ybj0, ybj1, _⟩ := cells2 (bx_bel Fbj24.out hb)
    obtain ⟨ybf0, ybf1, ybf2, _⟩ := cells3 (bx_bel Fbf24.out hb)
    obtain ⟨ybg0, ybg1, ybg2, _⟩ := cells3 (bx_bel Fbg24.out hb)
    obtain ⟨ybh0, ybh1, ybh2, _⟩ := cells3 (bx_bel Nbh.out hb)
    exact ⟨ybj0, ybj1, ybf0, ybf1, ybf2, ybg0, ybg1, ybg2, ybh0, ybh1, ybh2⟩
  clear xbj0 xbj1 xbf0 xbf1 xbf2 xbg0 xbg1 xbg2 xbh0 xbh1 xbh2
  clear hV23
  refine wp_region_held_drew (S := fun W => W.cell? ⟨w3.heap.size, 0, none⟩ = some (.slice a3 M.fJ.fs.length c3) ∧ W.cell? ⟨w3.heap.size, 1, none⟩ = some (.slice b3 M.fJ.pr.length d3) ∧ W.cell? ⟨w11.heap.size, 0, none⟩ = some (.string M.nmP) ∧ W.cell? ⟨w11.heap.size, 1, none⟩ = some (.bool false) ∧ W.cell? ⟨w11.heap.size, 2, none⟩ = some (.slice ya11 (M.lnum : List M.Atm).length yc11) ∧ W.cell? ⟨w14.heap.size, 0, none⟩ = some (.string M.nmP) ∧ W.cell? ⟨w14.heap.size, 1, none⟩ = some (.bool true) ∧ W.cell? ⟨w14.heap.size, 2, none⟩ = some (.slice ya14 (M.lboth : List M.Atm).length yc14) ∧ W.cell? ⟨w22.heap.size, 0, none⟩ = some (.string M.nmP) ∧ W.cell? ⟨w22.heap.size, 1, none⟩ = some (.bool true) ∧ W.cell? ⟨w22.heap.size, 2, none⟩ = some (.slice ya22 (M.lnull : List M.Atm).length yc22)) (by kernel_rfl) (KH.out _ (Below.refl _ _).drew) (fun hHeld => ?_)
  have hbd : Below V23.heap.size V23 V23.drew := (Gr.refl _).drew.below
  have RB0 := hid hbd
  have B25 := hid (B24.out.trans (hbd.mono B24.out.size))
  have Fj25 := hid (Fj24.out.bel hbd)
  have Fbj25 := hid (bx_bel Fbj24.out hbd)
  have Ff25 := hid (Ff24.out.bel hbd)
  have Fbf25 := hid (bx_bel Fbf24.out hbd)
  have Fg25 := hid (Fg24.out.bel hbd)
  have Fbg25 := hid (bx_bel Fbg24.out hbd)
  have Fh25 := hid (Fh24.out.bel hbd)
  have Fbh25 := hid (bx_bel Nbh.out hbd)
  clear B24 Fj24 Fbj24 Ff24 Fbf24 Fg24 Fbg24 Fh24 Nbh
  clear hbd
  refine wpAnyH_take (i := 0) (oi := { dst := some 35, op := Op.move (Operand.tmp 4), type := 4, pos := "law.go:24", after := #[], guard := none }) (v := ?_) rfl (by kernel_rfl) (by kernel_rfl) (by kernel_rfl) (fun _ _ _ h => h) (Or.inl ⟨by rfl, ?_⟩) hHeld ?_
  rotate_left
  · intro w hSw; (try dsimp only at hSw); go_simp; (try with_reducible rfl)
  simp only [Act.put, List.setIfInBounds_toArray, List.set_cons_zero, List.set_cons_succ]
  refine wpAnyH_take (i := 1) (oi := { dst := some 36, op := Op.move (Operand.tmp 35), type := 4, pos := "law.go:24", after := #[{ on := 0, ground := Ground.data }], guard := none }) (v := ?_) rfl (by kernel_rfl) (by kernel_rfl) (by kernel_rfl) (fun _ _ _ h => h) (Or.inl ⟨by rfl, ?_⟩) hHeld ?_
  rotate_left
  · intro w hSw; (try dsimp only at hSw); go_simp; (try with_reducible rfl)
  simp only [Act.put, List.setIfInBounds_toArray, List.set_cons_zero, List.set_cons_succ]
  refine wpAnyH_take (i := 2) (oi := { dst := some 37, op := Op.fieldAddr 29 (Operand.tmp 3) 1, type := 0, pos := "law.go:24", after := #[{ on := 1, ground := Ground.guard }], guard := some (1, true) }) (v := ?_) rfl (by kernel_rfl) (by kernel_rfl) (by kernel_rfl) (fun _ _ _ h => h) (Or.inl ⟨by rfl, ?_⟩) hHeld ?_
  rotate_left
  · intro w hSw; (try dsimp only at hSw); go_simp; (try with_reducible rfl)
  simp only [Act.put, List.setIfInBounds_toArray, List.set_cons_zero, List.set_cons_succ]
  refine wpAnyH_take (i := 3) (oi := { dst := some 38, op := Op.load 4 (Operand.tmp 37), type := 4, pos := "law.go:24", after := #[{ on := 2, ground := Ground.data }, { on := 1, ground := Ground.guard }], guard := some (1, true) }) (v := ?_) rfl (by kernel_rfl) (by kernel_rfl) (by kernel_rfl) (fun _ _ _ h => h) (Or.inl ⟨by rfl, ?_⟩) hHeld ?_
  rotate_left
  · intro w hSw; (try dsimp only at hSw); go_simp; (try with_reducible rfl)
  simp only [Act.put, List.setIfInBounds_toArray, List.set_cons_zero, List.set_cons_succ]
  refine wpAnyH_take (i := 4) (oi := { dst := some 39, op := Op.unOp UnOp.not 4 (Operand.tmp 38), type := 4, pos := "law.go:24", after := #[{ on := 3, ground := Ground.data }, { on := 1, ground := Ground.guard }], guard := some (1, true) }) (v := ?_) rfl (by kernel_rfl) (by kernel_rfl) (by kernel_rfl) (fun _ _ _ h => h) (Or.inl ⟨by rfl, ?_⟩) hHeld ?_
  rotate_left
  · intro w hSw; (try dsimp only at hSw); go_simp; (try with_reducible rfl)
  simp only [Act.put, List.setIfInBounds_toArray, List.set_cons_zero, List.set_cons_succ]
  refine wpAnyH_take (i := 5) (oi := { dst := some 40, op := Op.pick (Operand.tmp 36) (Operand.tmp 39) (Operand.const (Value.bool false)), type := 4, pos := "law.go:24", after := #[{ on := 1, ground := Ground.data }, { on := 4, ground := Ground.data }], guard := none }) (v := ?_) rfl (by kernel_rfl) (by kernel_rfl) (by kernel_rfl) (fun _ _ _ h => h) (Or.inl ⟨by rfl, ?_⟩) hHeld ?_
  rotate_left
  · intro w hSw; (try dsimp only at hSw); go_simp; (try with_reducible rfl)
  simp only [Act.put, List.setIfInBounds_toArray, List.set_cons_zero, List.set_cons_succ]
  refine wpAnyH_take (i := 6) (oi := { dst := some 41, op := Op.move (Operand.tmp 40), type := 4, pos := "law.go:24", after := #[{ on := 5, ground := Ground.data }, { on := 1, ground := Ground.chain }], guard := none }) (v := ?_) rfl (by kernel_rfl) (by kernel_rfl) (by kernel_rfl) (fun _ _ _ h => h) (Or.inl ⟨by rfl, ?_⟩) hHeld ?_
  rotate_left
  · intro w hSw; (try dsimp only at hSw); go_simp; (try with_reducible rfl)
  simp only [Act.put, List.setIfInBounds_toArray, List.set_cons_zero, List.set_cons_succ]
  refine wpAnyH_take (i := 7) (oi := { dst := some 42, op := Op.fieldAddr 29 (Operand.tmp 3) 2, type := 0, pos := "law.go:24", after := #[{ on := 6, ground := Ground.guard }], guard := some (6, true) }) (v := ?_) rfl (by kernel_rfl) (by kernel_rfl) (by kernel_rfl) (fun _ _ _ h => h) (Or.inl ⟨by rfl, ?_⟩) hHeld ?_
  rotate_left
  · intro w hSw; (try dsimp only at hSw); go_simp; (try with_reducible rfl)
  simp only [Act.put, List.setIfInBounds_toArray, List.set_cons_zero, List.set_cons_succ]
  refine wpAnyH_take (i := 8) (oi := { dst := some 43, op := Op.load 23 (Operand.tmp 42), type := 23, pos := "law.go:24", after := #[{ on := 7, ground := Ground.data }, { on := 6, ground := Ground.guard }], guard := some (6, true) }) (v := ?_) rfl (by kernel_rfl) (by kernel_rfl) (by kernel_rfl) (fun _ _ _ h => h) (Or.inl ⟨by rfl, ?_⟩) hHeld ?_
  rotate_left
  · intro w hSw; (try dsimp only at hSw); go_simp; (try with_reducible rfl)
  simp only [Act.put, List.setIfInBounds_toArray, List.set_cons_zero, List.set_cons_succ]
  refine wpAnyH_ready (rs := [9]) (by kernel_rfl) (by simp) ?_
  refine AllReadyH.cons (o := { dst := some 44, op := Op.call { callee := Callee.value (Operand.func 32), args := #[], argTypes := #[] }, type := 23, pos := "law.go:24", after := #[{ on := 6, ground := Ground.chain }, { on := 6, ground := Ground.guard }], guard := some (6, true) }) rfl (fun K hK => ?_) AllReadyH.nil
  go_simp
  refine (num_any V23.drew).mono ?_
  rintro e z26 ⟨qn26, mn26, rfl, hA, hb⟩
  have B26 := hid (B25.out.trans (hb.mono B25.out.size))
  have Fj26 := hid (Fj25.out.bel hb)
  have Fbj26 := hid (bx_bel Fbj25.out hb)
  have Ff26 := hid (Ff25.out.bel hb)
  have Fbf26 := hid (bx_bel Fbf25.out hb)
  have Fg26 := hid (Fg25.out.bel hb)
  have Fbg26 := hid (bx_bel Fbg25.out hb)
  have Fh26 := hid (Fh25.out.bel hb)
  have Fbh26 := hid (bx_bel Fbh25.out hb)
  have RB26 := hid (RB0.out.trans (hb.mono RB0.out.size))
  clear B25 Fj25 Fbj25 Ff25 Fbf25 Fg25 Fbg25 Fh25 Fbh25 RB0
  have Fn26 := hid hA
  clear hA
  clear hb
  refine hK.out _ _ (KH.out _ RB26.out) (fun hHeld => ?_)
  refine wpAnyH_ready (rs := [10]) (by kernel_rfl) (by simp) ?_
  refine AllReadyH.cons (o := { dst := some 45, op := Op.call { callee := Callee.value (Operand.func 15), args := #[Operand.tmp 43, Operand.tmp 44], argTypes := #[23, 23] }, type := 4, pos := "law.go:24", after := #[{ on := 8, ground := Ground.data }, { on := 9, ground := Ground.data }, { on := 9, ground := Ground.chain }, { on := 6, ground := Ground.guard }], guard := some (6, true) }) rfl (fun K hK => ?_) AllReadyH.nil
  go_simp
  refine (same_any z26 _ _ M.lnum M.lnum Ff26.out Fn26.out (by decide)).mono ?_
  rw [M.same_num]
  rintro e z27 ⟨rfl, hb⟩
  have B27 := hid (B26.out.trans (hb.mono B26.out.size))
  have Fj27 := hid (Fj26.out.bel hb)
  have Fbj27 := hid (bx_bel Fbj26.out hb)
  have Ff27 := hid (Ff26.out.bel hb)
  have Fbf27 := hid (bx_bel Fbf26.out hb)
  have Fg27 := hid (Fg26.out.bel hb)
  have Fbg27 := hid (bx_bel Fbg26.out hb)
  have Fh27 := hid (Fh26.out.bel hb)
  have Fbh27 := hid (bx_bel Fbh26.out hb)
  have Fn27 := hid (Fn26.out.bel hb)
  have RB27 := hid (RB26.out.trans (hb.mono RB26.out.size))
  clear B26 Fj26 Fbj26 Ff26 Fbf26 Fg26 Fbg26 Fh26 Fbh26 Fn26 RB26
  clear hb
  refine hK.out _ _ (KH.out _ RB27.out) (fun hHeld => ?_)
  refine wpAnyH_take (i := 11) (oi := { dst := some 46, op := Op.pick (Operand.tmp 41) (Operand.tmp 45) (Operand.const (Value.bool false)), type := 4, pos := "law.go:24", after := #[{ on := 6, ground := Ground.data }, { on := 10, ground := Ground.data }], guard := none }) (v := ?_) rfl (by kernel_rfl) (by kernel_rfl) (by kernel_rfl) (fun _ _ _ h => h) (Or.inl ⟨by rfl, ?_⟩) hHeld ?_
  rotate_left
  · intro w hSw; (try dsimp only at hSw); go_simp; (try with_reducible rfl)
  simp only [Act.put, List.setIfInBounds_toArray, List.set_cons_zero, List.set_cons_succ]
  refine wpAnyH_take (i := 12) (oi := { dst := some 47, op := Op.move (Operand.tmp 46), type := 4, pos := "law.go:24", after := #[{ on := 11, ground := Ground.data }, { on := 10, ground := Ground.chain }], guard := none }) (v := ?_) rfl (by kernel_rfl) (by kernel_rfl) (by kernel_rfl) (fun _ _ _ h => h) (Or.inl ⟨by rfl, ?_⟩) hHeld ?_
  rotate_left
  · intro w hSw; (try dsimp only at hSw); go_simp; (try with_reducible rfl)
  simp only [Act.put, List.setIfInBounds_toArray, List.set_cons_zero, List.set_cons_succ]
  refine wpAnyH_take (i := 13) (oi := { dst := some 48, op := Op.move (Operand.tmp 6), type := 4, pos := "law.go:24", after := #[{ on := 12, ground := Ground.guard }], guard := some (12, true) }) (v := ?_) rfl (by kernel_rfl) (by kernel_rfl) (by kernel_rfl) (fun _ _ _ h => h) (Or.inl ⟨by rfl, ?_⟩) hHeld ?_
  rotate_left
  · intro w hSw; (try dsimp only at hSw); go_simp; (try with_reducible rfl)
  simp only [Act.put, List.setIfInBounds_toArray, List.set_cons_zero, List.set_cons_succ]
  refine wpAnyH_take (i := 14) (oi := { dst := some 49, op := Op.pick (Operand.tmp 47) (Operand.tmp 48) (Operand.const (Value.bool false)), type := 4, pos := "law.go:24", after := #[{ on := 12, ground := Ground.data }, { on := 13, ground := Ground.data }], guard := none }) (v := ?_) rfl (by kernel_rfl) (by kernel_rfl) (by kernel_rfl) (fun _ _ _ h => h) (Or.inl ⟨by rfl, ?_⟩) hHeld ?_
  rotate_left
  · intro w hSw; (try dsimp only at hSw); go_simp; (try with_reducible rfl)
  simp only [Act.put, List.setIfInBounds_toArray, List.set_cons_zero, List.set_cons_succ]
  refine wpAnyH_take (i := 15) (oi := { dst := some 50, op := Op.move (Operand.tmp 49), type := 4, pos := "law.go:24", after := #[{ on := 14, ground := Ground.data }, { on := 12, ground := Ground.chain }], guard := none }) (v := ?_) rfl (by kernel_rfl) (by kernel_rfl) (by kernel_rfl) (fun _ _ _ h => h) (Or.inl ⟨by rfl, ?_⟩) hHeld ?_
  rotate_left
  · intro w hSw; (try dsimp only at hSw); go_simp; (try with_reducible rfl)
  simp only [Act.put, List.setIfInBounds_toArray, List.set_cons_zero, List.set_cons_succ]
  refine wpAnyH_take (i := 16) (oi := { dst := some 51, op := Op.fieldAddr 29 (Operand.tmp 5) 1, type := 0, pos := "law.go:24", after := #[{ on := 15, ground := Ground.guard }], guard := some (15, true) }) (v := ?_) rfl (by kernel_rfl) (by kernel_rfl) (by kernel_rfl) (fun _ _ _ h => h) (Or.inl ⟨by rfl, ?_⟩) hHeld ?_
  rotate_left
  · intro w hSw; (try dsimp only at hSw); go_simp; (try with_reducible rfl)
  simp only [Act.put, List.setIfInBounds_toArray, List.set_cons_zero, List.set_cons_succ]
  refine wpAnyH_take (i := 17) (oi := { dst := some 52, op := Op.load 4 (Operand.tmp 51), type := 4, pos := "law.go:24", after := #[{ on := 16, ground := Ground.data }, { on := 15, ground := Ground.guard }], guard := some (15, true) }) (v := ?_) rfl (by kernel_rfl) (by kernel_rfl) (by kernel_rfl) (fun _ _ _ h => h) (Or.inl ⟨by rfl, ?_⟩) hHeld ?_
  rotate_left
  · intro w hSw; (try dsimp only at hSw); go_simp; (try with_reducible rfl)
  simp only [Act.put, List.setIfInBounds_toArray, List.set_cons_zero, List.set_cons_succ]
  refine wpAnyH_take (i := 18) (oi := { dst := some 53, op := Op.pick (Operand.tmp 50) (Operand.tmp 52) (Operand.const (Value.bool false)), type := 4, pos := "law.go:24", after := #[{ on := 15, ground := Ground.data }, { on := 17, ground := Ground.data }], guard := none }) (v := ?_) rfl (by kernel_rfl) (by kernel_rfl) (by kernel_rfl) (fun _ _ _ h => h) (Or.inl ⟨by rfl, ?_⟩) hHeld ?_
  rotate_left
  · intro w hSw; (try dsimp only at hSw); go_simp; (try with_reducible rfl)
  simp only [Act.put, List.setIfInBounds_toArray, List.set_cons_zero, List.set_cons_succ]
  refine wpAnyH_take (i := 19) (oi := { dst := some 54, op := Op.move (Operand.tmp 53), type := 4, pos := "law.go:24", after := #[{ on := 18, ground := Ground.data }, { on := 15, ground := Ground.chain }], guard := none }) (v := ?_) rfl (by kernel_rfl) (by kernel_rfl) (by kernel_rfl) (fun _ _ _ h => h) (Or.inl ⟨by rfl, ?_⟩) hHeld ?_
  rotate_left
  · intro w hSw; (try dsimp only at hSw); go_simp; (try with_reducible rfl)
  simp only [Act.put, List.setIfInBounds_toArray, List.set_cons_zero, List.set_cons_succ]
  refine wpAnyH_take (i := 20) (oi := { dst := some 55, op := Op.fieldAddr 29 (Operand.tmp 5) 2, type := 0, pos := "law.go:24", after := #[{ on := 19, ground := Ground.guard }], guard := some (19, true) }) (v := ?_) rfl (by kernel_rfl) (by kernel_rfl) (by kernel_rfl) (fun _ _ _ h => h) (Or.inl ⟨by rfl, ?_⟩) hHeld ?_
  rotate_left
  · intro w hSw; (try dsimp only at hSw); go_simp; (try with_reducible rfl)
  simp only [Act.put, List.setIfInBounds_toArray, List.set_cons_zero, List.set_cons_succ]
  refine wpAnyH_take (i := 21) (oi := { dst := some 56, op := Op.load 23 (Operand.tmp 55), type := 23, pos := "law.go:24", after := #[{ on := 20, ground := Ground.data }, { on := 19, ground := Ground.guard }], guard := some (19, true) }) (v := ?_) rfl (by kernel_rfl) (by kernel_rfl) (by kernel_rfl) (fun _ _ _ h => h) (Or.inl ⟨by rfl, ?_⟩) hHeld ?_
  rotate_left
  · intro w hSw; (try dsimp only at hSw); go_simp; (try with_reducible rfl)
  simp only [Act.put, List.setIfInBounds_toArray, List.set_cons_zero, List.set_cons_succ]
  refine wpAnyH_take (i := 22) (oi := { dst := some 57, op := Op.call { callee := Callee.builtin Builtin.len, args := #[Operand.tmp 56], argTypes := #[23] }, type := 3, pos := "law.go:24", after := #[{ on := 21, ground := Ground.data }, { on := 19, ground := Ground.guard }], guard := some (19, true) }) (v := ?_) rfl (by kernel_rfl) (by kernel_rfl) (by kernel_rfl) (fun _ _ _ h => h) (Or.inl ⟨by rfl, ?_⟩) hHeld ?_
  rotate_left
  · intro w hSw; (try dsimp only at hSw); go_simp; (try with_reducible rfl)
  simp only [Act.put, List.setIfInBounds_toArray, List.set_cons_zero, List.set_cons_succ]
  refine wpAnyH_take (i := 23) (oi := { dst := some 58, op := Op.binOp BinOp.eql 3 (Operand.tmp 57) (Operand.const (Value.int IntKind.i64 2)) 3, type := 4, pos := "law.go:24", after := #[{ on := 22, ground := Ground.data }, { on := 19, ground := Ground.guard }], guard := some (19, true) }) (v := ?_) rfl (by kernel_rfl) (by kernel_rfl) (by kernel_rfl) (fun _ _ _ h => h) (Or.inl ⟨by rfl, ?_⟩) hHeld ?_
  rotate_left
  · intro w hSw; (try dsimp only at hSw); go_simp; (try with_reducible rfl)
  simp only [Act.put, List.setIfInBounds_toArray, List.set_cons_zero, List.set_cons_succ]
  refine wpAnyH_take (i := 24) (oi := { dst := some 59, op := Op.pick (Operand.tmp 54) (Operand.tmp 58) (Operand.const (Value.bool false)), type := 4, pos := "law.go:24", after := #[{ on := 19, ground := Ground.data }, { on := 23, ground := Ground.data }], guard := none }) (v := ?_) rfl (by kernel_rfl) (by kernel_rfl) (by kernel_rfl) (fun _ _ _ h => h) (Or.inl ⟨by rfl, ?_⟩) hHeld ?_
  rotate_left
  · intro w hSw; (try dsimp only at hSw); go_simp; (try with_reducible rfl)
  simp only [Act.put, List.setIfInBounds_toArray, List.set_cons_zero, List.set_cons_succ]
  refine wpAnyH_take (i := 25) (oi := { dst := some 60, op := Op.move (Operand.tmp 59), type := 4, pos := "law.go:24", after := #[{ on := 24, ground := Ground.data }, { on := 19, ground := Ground.chain }], guard := none }) (v := ?_) rfl (by kernel_rfl) (by kernel_rfl) (by kernel_rfl) (fun _ _ _ h => h) (Or.inl ⟨by rfl, ?_⟩) hHeld ?_
  rotate_left
  · intro w hSw; (try dsimp only at hSw); go_simp; (try with_reducible rfl)
  simp only [Act.put, List.setIfInBounds_toArray, List.set_cons_zero, List.set_cons_succ]
  refine wpAnyH_take (i := 26) (oi := { dst := some 61, op := Op.move (Operand.tmp 9), type := 4, pos := "law.go:24", after := #[{ on := 25, ground := Ground.guard }], guard := some (25, true) }) (v := ?_) rfl (by kernel_rfl) (by kernel_rfl) (by kernel_rfl) (fun _ _ _ h => h) (Or.inl ⟨by rfl, ?_⟩) hHeld ?_
  rotate_left
  · intro w hSw; (try dsimp only at hSw); go_simp; (try with_reducible rfl)
  simp only [Act.put, List.setIfInBounds_toArray, List.set_cons_zero, List.set_cons_succ]
  refine wpAnyH_take (i := 27) (oi := { dst := some 62, op := Op.pick (Operand.tmp 60) (Operand.tmp 61) (Operand.const (Value.bool false)), type := 4, pos := "law.go:24", after := #[{ on := 25, ground := Ground.data }, { on := 26, ground := Ground.data }], guard := none }) (v := ?_) rfl (by kernel_rfl) (by kernel_rfl) (by kernel_rfl) (fun _ _ _ h => h) (Or.inl ⟨by rfl, ?_⟩) hHeld ?_
  rotate_left
  · intro w hSw; (try dsimp only at hSw); go_simp; (try with_reducible rfl)
  simp only [Act.put, List.setIfInBounds_toArray, List.set_cons_zero, List.set_cons_succ]
  refine wpAnyH_take (i := 28) (oi := { dst := some 63, op := Op.move (Operand.tmp 62), type := 4, pos := "law.go:24", after := #[{ on := 27, ground := Ground.data }, { on := 25, ground := Ground.chain }], guard := none }) (v := ?_) rfl (by kernel_rfl) (by kernel_rfl) (by kernel_rfl) (fun _ _ _ h => h) (Or.inl ⟨by rfl, ?_⟩) hHeld ?_
  rotate_left
  · intro w hSw; (try dsimp only at hSw); go_simp; (try with_reducible rfl)
  simp only [Act.put, List.setIfInBounds_toArray, List.set_cons_zero, List.set_cons_succ]
  refine wpAnyH_take (i := 29) (oi := { dst := some 64, op := Op.fieldAddr 29 (Operand.tmp 8) 1, type := 0, pos := "law.go:24", after := #[{ on := 28, ground := Ground.guard }], guard := some (28, true) }) (v := ?_) rfl (by kernel_rfl) (by kernel_rfl) (by kernel_rfl) (fun _ _ _ h => h) (Or.inl ⟨by rfl, ?_⟩) hHeld ?_
  rotate_left
  · intro w hSw; (try dsimp only at hSw); go_simp; (try with_reducible rfl)
  simp only [Act.put, List.setIfInBounds_toArray, List.set_cons_zero, List.set_cons_succ]
  refine wpAnyH_take (i := 30) (oi := { dst := some 65, op := Op.load 4 (Operand.tmp 64), type := 4, pos := "law.go:24", after := #[{ on := 29, ground := Ground.data }, { on := 28, ground := Ground.guard }], guard := some (28, true) }) (v := ?_) rfl (by kernel_rfl) (by kernel_rfl) (by kernel_rfl) (fun _ _ _ h => h) (Or.inl ⟨by rfl, ?_⟩) hHeld ?_
  rotate_left
  · intro w hSw; (try dsimp only at hSw); go_simp; (try with_reducible rfl)
  simp only [Act.put, List.setIfInBounds_toArray, List.set_cons_zero, List.set_cons_succ]
  refine wpAnyH_take (i := 31) (oi := { dst := some 66, op := Op.pick (Operand.tmp 63) (Operand.tmp 65) (Operand.const (Value.bool false)), type := 4, pos := "law.go:24", after := #[{ on := 28, ground := Ground.data }, { on := 30, ground := Ground.data }], guard := none }) (v := ?_) rfl (by kernel_rfl) (by kernel_rfl) (by kernel_rfl) (fun _ _ _ h => h) (Or.inl ⟨by rfl, ?_⟩) hHeld ?_
  rotate_left
  · intro w hSw; (try dsimp only at hSw); go_simp; (try with_reducible rfl)
  simp only [Act.put, List.setIfInBounds_toArray, List.set_cons_zero, List.set_cons_succ]
  refine wpAnyH_take (i := 32) (oi := { dst := some 67, op := Op.move (Operand.tmp 66), type := 4, pos := "law.go:24", after := #[{ on := 31, ground := Ground.data }, { on := 28, ground := Ground.chain }], guard := none }) (v := ?_) rfl (by kernel_rfl) (by kernel_rfl) (by kernel_rfl) (fun _ _ _ h => h) (Or.inl ⟨by rfl, ?_⟩) hHeld ?_
  rotate_left
  · intro w hSw; (try dsimp only at hSw); go_simp; (try with_reducible rfl)
  simp only [Act.put, List.setIfInBounds_toArray, List.set_cons_zero, List.set_cons_succ]
  refine wpAnyH_take (i := 33) (oi := { dst := some 68, op := Op.fieldAddr 29 (Operand.tmp 8) 2, type := 0, pos := "law.go:24", after := #[{ on := 32, ground := Ground.guard }], guard := some (32, true) }) (v := ?_) rfl (by kernel_rfl) (by kernel_rfl) (by kernel_rfl) (fun _ _ _ h => h) (Or.inl ⟨by rfl, ?_⟩) hHeld ?_
  rotate_left
  · intro w hSw; (try dsimp only at hSw); go_simp; (try with_reducible rfl)
  simp only [Act.put, List.setIfInBounds_toArray, List.set_cons_zero, List.set_cons_succ]
  refine wpAnyH_take (i := 34) (oi := { dst := some 69, op := Op.load 23 (Operand.tmp 68), type := 23, pos := "law.go:24", after := #[{ on := 33, ground := Ground.data }, { on := 32, ground := Ground.guard }], guard := some (32, true) }) (v := ?_) rfl (by kernel_rfl) (by kernel_rfl) (by kernel_rfl) (fun _ _ _ h => h) (Or.inl ⟨by rfl, ?_⟩) hHeld ?_
  rotate_left
  · intro w hSw; (try dsimp only at hSw); go_simp; (try with_reducible rfl)
  simp only [Act.put, List.setIfInBounds_toArray, List.set_cons_zero, List.set_cons_succ]
  refine wpAnyH_ready (rs := [35]) (by kernel_rfl) (by simp) ?_
  refine AllReadyH.cons (o := { dst := some 70, op := Op.call { callee := Callee.value (Operand.func 29), args := #[], argTypes := #[] }, type := 23, pos := "law.go:24", after := #[{ on := 32, ground := Ground.chain }, { on := 32, ground := Ground.guard }], guard := some (32, true) }) rfl (fun K hK => ?_) AllReadyH.nil
  go_simp
  refine (null_any z27).mono ?_
  rintro e z28 ⟨qn28, mn28, rfl, hA, hb⟩
  have B28 := hid (B27.out.trans (hb.mono B27.out.size))
  have Fj28 := hid (Fj27.out.bel hb)
  have Fbj28 := hid (bx_bel Fbj27.out hb)
  have Ff28 := hid (Ff27.out.bel hb)
  have Fbf28 := hid (bx_bel Fbf27.out hb)
  have Fg28 := hid (Fg27.out.bel hb)
  have Fbg28 := hid (bx_bel Fbg27.out hb)
  have Fh28 := hid (Fh27.out.bel hb)
  have Fbh28 := hid (bx_bel Fbh27.out hb)
  have RB28 := hid (RB27.out.trans (hb.mono RB27.out.size))
  clear B27 Fj27 Fbj27 Ff27 Fbf27 Fg27 Fbg27 Fh27 Fbh27 RB27
  have Fn28 := hid hA
  clear hA
  clear hb
  refine hK.out _ _ (KH.out _ RB28.out) (fun hHeld => ?_)
  refine wpAnyH_ready (rs := [36]) (by kernel_rfl) (by simp) ?_
  refine AllReadyH.cons (o := { dst := some 71, op := Op.call { callee := Callee.value (Operand.func 15), args := #[Operand.tmp 69, Operand.tmp 70], argTypes := #[23, 23] }, type := 4, pos := "law.go:24", after := #[{ on := 34, ground := Ground.data }, { on := 35, ground := Ground.data }, { on := 35, ground := Ground.chain }, { on := 32, ground := Ground.guard }], guard := some (32, true) }) rfl (fun K hK => ?_) AllReadyH.nil
  go_simp
  refine (same_any z28 _ _ M.lnull M.lnull Fh28.out Fn28.out (by decide)).mono ?_
  rw [M.same_null]
  rintro e z29 ⟨rfl, hb⟩
  have B29 := hid (B28.out.trans (hb.mono B28.out.size))
  have Fj29 := hid (Fj28.out.bel hb)
  have Fbj29 := hid (bx_bel Fbj28.out hb)
  have Ff29 := hid (Ff28.out.bel hb)
  have Fbf29 := hid (bx_bel Fbf28.out hb)
  have Fg29 := hid (Fg28.out.bel hb)
  have Fbg29 := hid (bx_bel Fbg28.out hb)
  have Fh29 := hid (Fh28.out.bel hb)
  have Fbh29 := hid (bx_bel Fbh28.out hb)
  have Fn29 := hid (Fn28.out.bel hb)
  have RB29 := hid (RB28.out.trans (hb.mono RB28.out.size))
  clear B28 Fj28 Fbj28 Ff28 Fbf28 Fg28 Fbg28 Fh28 Fbh28 Fn28 RB28
  clear hb
  refine hK.out _ _ (KH.out _ RB29.out) (fun hHeld => ?_)
  refine wpAnyH_take (i := 37) (oi := { dst := some 72, op := Op.pick (Operand.tmp 67) (Operand.tmp 71) (Operand.const (Value.bool false)), type := 4, pos := "law.go:24", after := #[{ on := 32, ground := Ground.data }, { on := 36, ground := Ground.data }], guard := none }) (v := ?_) rfl (by kernel_rfl) (by kernel_rfl) (by kernel_rfl) (fun _ _ _ h => h) (Or.inl ⟨by rfl, ?_⟩) hHeld ?_
  rotate_left
  · intro w hSw; (try dsimp only at hSw); go_simp; (try with_reducible rfl)
  simp only [Act.put, List.setIfInBounds_toArray, List.set_cons_zero, List.set_cons_succ]
  refine wpAnyH_take (i := 38) (oi := { dst := some 73, op := Op.move (Operand.tmp 72), type := 4, pos := "law.go:24", after := #[{ on := 37, ground := Ground.data }, { on := 36, ground := Ground.chain }], guard := none }) (v := ?_) rfl (by kernel_rfl) (by kernel_rfl) (by kernel_rfl) (fun _ _ _ h => h) (Or.inl ⟨by rfl, ?_⟩) hHeld ?_
  rotate_left
  · intro w hSw; (try dsimp only at hSw); go_simp; (try with_reducible rfl)
  simp only [Act.put, List.setIfInBounds_toArray, List.set_cons_zero, List.set_cons_succ]
  refine wpAnyH_ready (rs := [39]) (by kernel_rfl) (by simp) ?_
  refine AllReadyH.cons (o := { dst := some 74, op := Op.call { callee := Callee.value (Operand.func 31), args := #[], argTypes := #[] }, type := 25, pos := "law.go:24", after := #[{ on := 38, ground := Ground.chain }, { on := 38, ground := Ground.guard }], guard := some (38, true) }) rfl (fun K hK => ?_) AllReadyH.nil
  go_simp
  refine (one_any z29).mono ?_
  rintro e z30 ⟨qa30, qc30, qb30, qd30, rfl, hsh, hb⟩
  have B30 := hid (B29.out.trans (hb.mono B29.out.size))
  have Fj30 := hid (Fj29.out.bel hb)
  have Fbj30 := hid (bx_bel Fbj29.out hb)
  have Ff30 := hid (Ff29.out.bel hb)
  have Fbf30 := hid (bx_bel Fbf29.out hb)
  have Fg30 := hid (Fg29.out.bel hb)
  have Fbg30 := hid (bx_bel Fbg29.out hb)
  have Fh30 := hid (Fh29.out.bel hb)
  have Fbh30 := hid (bx_bel Fbh29.out hb)
  have RB30 := hid (RB29.out.trans (hb.mono RB29.out.size))
  clear B29 Fj29 Fbj29 Ff29 Fbf29 Fg29 Fbg29 Fh29 Fbh29 RB29
  have Fo30 := hid hsh
  clear hsh
  clear hb
  refine hK.out _ _ (KH.out _ RB30.out) (fun hHeld => ?_)
  refine wpAnyH_ready (rs := [40]) (by kernel_rfl) (by simp) ?_
  refine AllReadyH.cons (o := { dst := some 75, op := Op.call { callee := Callee.value (Operand.func 13), args := #[Operand.tmp 74], argTypes := #[25] }, type := 4, pos := "law.go:24", after := #[{ on := 39, ground := Ground.data }, { on := 39, ground := Ground.chain }, { on := 38, ground := Ground.guard }], guard := some (38, true) }) rfl (fun K hK => ?_) AllReadyH.nil
  go_simp
  refine (omay_any z30 _ M.one Fo30.out M.one_sm).mono ?_
  rw [M.one_may]
  rintro e z31 ⟨rfl, hb⟩
  have B31 := hid (B30.out.trans (hb.mono B30.out.size))
  have Fj31 := hid (Fj30.out.bel hb)
  have Fbj31 := hid (bx_bel Fbj30.out hb)
  have Ff31 := hid (Ff30.out.bel hb)
  have Fbf31 := hid (bx_bel Fbf30.out hb)
  have Fg31 := hid (Fg30.out.bel hb)
  have Fbg31 := hid (bx_bel Fbg30.out hb)
  have Fh31 := hid (Fh30.out.bel hb)
  have Fbh31 := hid (bx_bel Fbh30.out hb)
  have Fo31 := hid (Fo30.out.bel hb)
  have RB31 := hid (RB30.out.trans (hb.mono RB30.out.size))
  clear B30 Fj30 Fbj30 Ff30 Fbf30 Fg30 Fbg30 Fh30 Fbh30 Fo30 RB30
  clear hb
  refine hK.out _ _ (KH.out _ RB31.out) (fun hHeld => ?_)
  refine wpAnyH_take (i := 41) (oi := { dst := some 76, op := Op.pick (Operand.tmp 73) (Operand.tmp 75) (Operand.const (Value.bool false)), type := 4, pos := "law.go:24", after := #[{ on := 38, ground := Ground.data }, { on := 40, ground := Ground.data }], guard := none }) (v := ?_) rfl (by kernel_rfl) (by kernel_rfl) (by kernel_rfl) (fun _ _ _ h => h) (Or.inl ⟨by rfl, ?_⟩) hHeld ?_
  rotate_left
  · intro w hSw; (try dsimp only at hSw); go_simp; (try with_reducible rfl)
  simp only [Act.put, List.setIfInBounds_toArray, List.set_cons_zero, List.set_cons_succ]
  refine wpAnyH_take (i := 42) (oi := { dst := some 77, op := Op.move (Operand.tmp 76), type := 4, pos := "law.go:24", after := #[{ on := 41, ground := Ground.data }, { on := 40, ground := Ground.chain }], guard := none }) (v := ?_) rfl (by kernel_rfl) (by kernel_rfl) (by kernel_rfl) (fun _ _ _ h => h) (Or.inl ⟨by rfl, ?_⟩) hHeld ?_
  rotate_left
  · intro w hSw; (try dsimp only at hSw); go_simp; (try with_reducible rfl)
  simp only [Act.put, List.setIfInBounds_toArray, List.set_cons_zero, List.set_cons_succ]
  refine wpAnyH_take (i := 44) (oi := { dst := some 79, op := Op.load 25 (Operand.tmp 1), type := 25, pos := "law.go:24", after := #[{ on := 42, ground := Ground.guard }], guard := some (42, true) }) (v := ?_) rfl (by kernel_rfl) (by kernel_rfl) (by kernel_rfl) (fun _ _ _ h => h) (Or.inl ⟨by rfl, ?_⟩) hHeld ?_
  rotate_left
  · intro w hSw; (try dsimp only at hSw); go_simp; (try with_reducible rfl)
  simp only [Act.put, List.setIfInBounds_toArray, List.set_cons_zero, List.set_cons_succ]
  refine wpAnyH_ready (rs := [43]) (by kernel_rfl) (by simp) ?_
  refine AllReadyH.cons (o := { dst := some 78, op := Op.call { callee := Callee.value (Operand.func 31), args := #[], argTypes := #[] }, type := 25, pos := "law.go:24", after := #[{ on := 42, ground := Ground.chain }, { on := 42, ground := Ground.guard }], guard := some (42, true) }) rfl (fun K hK => ?_) AllReadyH.nil
  go_simp
  refine (one_any z31).mono ?_
  rintro e z32 ⟨qa32, qc32, qb32, qd32, rfl, hsh, hb⟩
  have B32 := hid (B31.out.trans (hb.mono B31.out.size))
  have Fj32 := hid (Fj31.out.bel hb)
  have Fbj32 := hid (bx_bel Fbj31.out hb)
  have Ff32 := hid (Ff31.out.bel hb)
  have Fbf32 := hid (bx_bel Fbf31.out hb)
  have Fg32 := hid (Fg31.out.bel hb)
  have Fbg32 := hid (bx_bel Fbg31.out hb)
  have Fh32 := hid (Fh31.out.bel hb)
  have Fbh32 := hid (bx_bel Fbh31.out hb)
  have RB32 := hid (RB31.out.trans (hb.mono RB31.out.size))
  clear B31 Fj31 Fbj31 Ff31 Fbf31 Fg31 Fbg31 Fh31 Fbh31 RB31
  have Fo32 := hid hsh
  clear hsh
  clear hb
  refine hK.out _ _ (KH.out _ RB32.out) (fun hHeld => ?_)
  refine wpAnyH_ready (rs := [45]) (by kernel_rfl) (by simp) ?_
  refine AllReadyH.cons (o := { dst := some 80, op := Op.call { callee := Callee.value (Operand.func 19), args := #[Operand.tmp 78, Operand.tmp 79], argTypes := #[25, 25] }, type := 4, pos := "law.go:24", after := #[{ on := 43, ground := Ground.data }, { on := 44, ground := Ground.data }, { on := 43, ground := Ground.chain }, { on := 42, ground := Ground.guard }], guard := some (42, true) }) rfl (fun K hK => ?_) AllReadyH.nil
  go_simp
  refine (owithin_any z32 _ _ M.one M.fJ Fo32.out Fj32.out M.one_sm M.fJ_sm).mono ?_
  rw [M.one_in]
  rintro e z33 ⟨rfl, hb⟩
  have B33 := hid (B32.out.trans (hb.mono B32.out.size))
  have Fj33 := hid (Fj32.out.bel hb)
  have Fbj33 := hid (bx_bel Fbj32.out hb)
  have Ff33 := hid (Ff32.out.bel hb)
  have Fbf33 := hid (bx_bel Fbf32.out hb)
  have Fg33 := hid (Fg32.out.bel hb)
  have Fbg33 := hid (bx_bel Fbg32.out hb)
  have Fh33 := hid (Fh32.out.bel hb)
  have Fbh33 := hid (bx_bel Fbh32.out hb)
  have Fo33 := hid (Fo32.out.bel hb)
  have RB33 := hid (RB32.out.trans (hb.mono RB32.out.size))
  clear B32 Fj32 Fbj32 Ff32 Fbf32 Fg32 Fbg32 Fh32 Fbh32 Fo32 RB32
  clear hb
  refine hK.out _ _ (KH.out _ RB33.out) (fun hHeld => ?_)
  refine wpAnyH_take (i := 46) (oi := { dst := some 81, op := Op.pick (Operand.tmp 77) (Operand.tmp 80) (Operand.const (Value.bool false)), type := 4, pos := "law.go:24", after := #[{ on := 42, ground := Ground.data }, { on := 45, ground := Ground.data }], guard := none }) (v := ?_) rfl (by kernel_rfl) (by kernel_rfl) (by kernel_rfl) (fun _ _ _ h => h) (Or.inl ⟨by rfl, ?_⟩) hHeld ?_
  rotate_left
  · intro w hSw; (try dsimp only at hSw); go_simp; (try with_reducible rfl)
  simp only [Act.put, List.setIfInBounds_toArray, List.set_cons_zero, List.set_cons_succ]
  refine wpAnyH_take (i := 47) (oi := { dst := some 82, op := Op.move (Operand.tmp 81), type := 4, pos := "law.go:24", after := #[{ on := 46, ground := Ground.data }, { on := 45, ground := Ground.chain }], guard := none }) (v := ?_) rfl (by kernel_rfl) (by kernel_rfl) (by kernel_rfl) (fun _ _ _ h => h) (Or.inl ⟨by rfl, ?_⟩) hHeld ?_
  rotate_left
  · intro w hSw; (try dsimp only at hSw); go_simp; (try with_reducible rfl)
  simp only [Act.put, List.setIfInBounds_toArray, List.set_cons_zero, List.set_cons_succ]
  refine wpAnyH_take (i := 48) (oi := { dst := some 83, op := Op.load 25 (Operand.tmp 1), type := 25, pos := "law.go:24", after := #[{ on := 47, ground := Ground.guard }], guard := some (47, true) }) (v := ?_) rfl (by kernel_rfl) (by kernel_rfl) (by kernel_rfl) (fun _ _ _ h => h) (Or.inl ⟨by rfl, ?_⟩) hHeld ?_
  rotate_left
  · intro w hSw; (try dsimp only at hSw); go_simp; (try with_reducible rfl)
  simp only [Act.put, List.setIfInBounds_toArray, List.set_cons_zero, List.set_cons_succ]
  refine wpAnyH_ready (rs := [49]) (by kernel_rfl) (by simp) ?_
  refine AllReadyH.cons (o := { dst := some 84, op := Op.call { callee := Callee.value (Operand.func 31), args := #[], argTypes := #[] }, type := 25, pos := "law.go:24", after := #[{ on := 47, ground := Ground.chain }, { on := 47, ground := Ground.guard }], guard := some (47, true) }) rfl (fun K hK => ?_) AllReadyH.nil
  go_simp
  refine (one_any z33).mono ?_
  rintro e z34 ⟨qa34, qc34, qb34, qd34, rfl, hsh, hb⟩
  have B34 := hid (B33.out.trans (hb.mono B33.out.size))
  have Fj34 := hid (Fj33.out.bel hb)
  have Fbj34 := hid (bx_bel Fbj33.out hb)
  have Ff34 := hid (Ff33.out.bel hb)
  have Fbf34 := hid (bx_bel Fbf33.out hb)
  have Fg34 := hid (Fg33.out.bel hb)
  have Fbg34 := hid (bx_bel Fbg33.out hb)
  have Fh34 := hid (Fh33.out.bel hb)
  have Fbh34 := hid (bx_bel Fbh33.out hb)
  have RB34 := hid (RB33.out.trans (hb.mono RB33.out.size))
  clear B33 Fj33 Fbj33 Ff33 Fbf33 Fg33 Fbg33 Fh33 Fbh33 RB33
  have Fo34 := hid hsh
  clear hsh
  clear hb
  refine hK.out _ _ (KH.out _ RB34.out) (fun hHeld => ?_)
  refine wpAnyH_ready (rs := [50]) (by kernel_rfl) (by simp) ?_
  refine AllReadyH.cons (o := { dst := some 85, op := Op.call { callee := Callee.value (Operand.func 19), args := #[Operand.tmp 83, Operand.tmp 84], argTypes := #[25, 25] }, type := 4, pos := "law.go:24", after := #[{ on := 48, ground := Ground.data }, { on := 49, ground := Ground.data }, { on := 49, ground := Ground.chain }, { on := 47, ground := Ground.guard }], guard := some (47, true) }) rfl (fun K hK => ?_) AllReadyH.nil
  go_simp
  refine (owithin_any z34 _ _ M.fJ M.one Fj34.out Fo34.out M.fJ_sm M.one_sm).mono ?_
  rw [M.not_in]
  rintro e z35 ⟨rfl, hb⟩
  have B35 := hid (B34.out.trans (hb.mono B34.out.size))
  have Fj35 := hid (Fj34.out.bel hb)
  have Fbj35 := hid (bx_bel Fbj34.out hb)
  have Ff35 := hid (Ff34.out.bel hb)
  have Fbf35 := hid (bx_bel Fbf34.out hb)
  have Fg35 := hid (Fg34.out.bel hb)
  have Fbg35 := hid (bx_bel Fbg34.out hb)
  have Fh35 := hid (Fh34.out.bel hb)
  have Fbh35 := hid (bx_bel Fbh34.out hb)
  have Fo35 := hid (Fo34.out.bel hb)
  have RB35 := hid (RB34.out.trans (hb.mono RB34.out.size))
  clear B34 Fj34 Fbj34 Ff34 Fbf34 Fg34 Fbg34 Fh34 Fbh34 Fo34 RB34
  clear hb
  refine hK.out _ _ (KH.out _ RB35.out) (fun hHeld => ?_)
  refine wpAnyH_take (i := 51) (oi := { dst := some 86, op := Op.unOp UnOp.not 4 (Operand.tmp 85), type := 4, pos := "law.go:24", after := #[{ on := 50, ground := Ground.data }, { on := 47, ground := Ground.guard }], guard := some (47, true) }) (v := ?_) rfl (by kernel_rfl) (by kernel_rfl) (by kernel_rfl) (fun _ _ _ h => h) (Or.inl ⟨by rfl, ?_⟩) hHeld ?_
  rotate_left
  · intro w hSw; (try dsimp only at hSw); go_simp; (try with_reducible rfl)
  simp only [Act.put, List.setIfInBounds_toArray, List.set_cons_zero, List.set_cons_succ]
  refine wpAnyH_take (i := 52) (oi := { dst := some 87, op := Op.pick (Operand.tmp 82) (Operand.tmp 86) (Operand.const (Value.bool false)), type := 4, pos := "law.go:24", after := #[{ on := 47, ground := Ground.data }, { on := 51, ground := Ground.data }], guard := none }) (v := ?_) rfl (by kernel_rfl) (by kernel_rfl) (by kernel_rfl) (fun _ _ _ h => h) (Or.inl ⟨by rfl, ?_⟩) hHeld ?_
  rotate_left
  · intro w hSw; (try dsimp only at hSw); go_simp; (try with_reducible rfl)
  simp only [Act.put, List.setIfInBounds_toArray, List.set_cons_zero, List.set_cons_succ]
  refine wpAnyH_take (i := 53) (oi := { dst := some 0, op := Op.assign (Operand.tmp 87), type := 4, pos := "law.go:24", after := #[{ on := 52, ground := Ground.data }, { on := 50, ground := Ground.chain }, { on := 0, ground := Ground.phase }, { on := 1, ground := Ground.phase }, { on := 2, ground := Ground.phase }, { on := 3, ground := Ground.phase }, { on := 4, ground := Ground.phase }, { on := 5, ground := Ground.phase }, { on := 6, ground := Ground.phase }, { on := 7, ground := Ground.phase }, { on := 8, ground := Ground.phase }, { on := 9, ground := Ground.phase }, { on := 10, ground := Ground.phase }, { on := 11, ground := Ground.phase }, { on := 12, ground := Ground.phase }, { on := 13, ground := Ground.phase }, { on := 14, ground := Ground.phase }, { on := 15, ground := Ground.phase }, { on := 16, ground := Ground.phase }, { on := 17, ground := Ground.phase }, { on := 18, ground := Ground.phase }, { on := 19, ground := Ground.phase }, { on := 20, ground := Ground.phase }, { on := 21, ground := Ground.phase }, { on := 22, ground := Ground.phase }, { on := 23, ground := Ground.phase }, { on := 24, ground := Ground.phase }, { on := 25, ground := Ground.phase }, { on := 26, ground := Ground.phase }, { on := 27, ground := Ground.phase }, { on := 28, ground := Ground.phase }, { on := 29, ground := Ground.phase }, { on := 30, ground := Ground.phase }, { on := 31, ground := Ground.phase }, { on := 32, ground := Ground.phase }, { on := 33, ground := Ground.phase }, { on := 34, ground := Ground.phase }, { on := 35, ground := Ground.phase }, { on := 36, ground := Ground.phase }, { on := 37, ground := Ground.phase }, { on := 38, ground := Ground.phase }, { on := 39, ground := Ground.phase }, { on := 40, ground := Ground.phase }, { on := 41, ground := Ground.phase }, { on := 42, ground := Ground.phase }, { on := 43, ground := Ground.phase }, { on := 44, ground := Ground.phase }, { on := 45, ground := Ground.phase }, { on := 46, ground := Ground.phase }, { on := 47, ground := Ground.phase }, { on := 48, ground := Ground.phase }, { on := 49, ground := Ground.phase }, { on := 50, ground := Ground.phase }, { on := 51, ground := Ground.phase }, { on := 52, ground := Ground.phase }], guard := none }) (v := ?_) rfl (by kernel_rfl) (by kernel_rfl) (by kernel_rfl) (fun _ _ _ h => h) (Or.inl ⟨by rfl, ?_⟩) hHeld ?_
  rotate_left
  · intro w hSw; (try dsimp only at hSw); go_simp; (try with_reducible rfl)
  simp only [Act.put, List.setIfInBounds_toArray, List.set_cons_zero, List.set_cons_succ]
  refine wpAnyH_done (by kernel_rfl) ?_ _
  clear hHeld KH
  clear RB35
  go_wp2
  go_ret
  exact ⟨rfl, B35.out⟩
end Go.Proofs.Ytcnikcfnfohoeaa
