/-
  The walk of the document's Join over shapes. Conditions: shapes of at most 10000 fields of as many atoms.
-/
import Derived.Test.YtnllcfagdcepfaaS24
import Derived.Test.YtnllcfagdcepfaaS22m
import Derived.Test.YtnllcfagdcepfaaS13
import Derived.Test.YtnllcfagdcepfaaR3
set_option linter.unusedVariables false
set_option linter.unusedSimpArgs false
namespace Go.Proofs.Ytnllcfagdcepfaa
open Go.RowKit Go.Sort

theorem jf_of {s t : M.Shp} {n : ByteArray} {x y : M.Fld} (hx : x = (M.getF s.fs n).getD zeroF) (hy : y = (M.getF t.fs n).getD zeroF) :
    M.jf s.fs t.fs n = ⟨n, (M.getF s.fs n).isSome && (M.getF t.fs n).isSome && x.su && y.su, M.norm (x.vs ++ y.vs)⟩ := by
  subst hx hy
  unfold M.jf
  cases M.getF s.fs n <;> cases M.getF t.fs n <;> simp [M.suO, M.vsO, zeroF]

set_option maxHeartbeats 16000000 in
set_option maxRecDepth 100000 in
theorem rjoinS_any (w : World) (va vb : Value) (s t : M.Shp) (h1 : ShAt w va s) (h2 : ShAt w vb t) (L1 : M.Sm 10000 s) (L2 : M.Sm 10000 t) :
    Calls Try.prog 18 #[va, vb] w fun e w' => ∃ v, e = .returned v ∧ ShAt w' v (if M.mayS s && M.mayS t then M.joinS s t else M.zeroS) ∧ Below w.heap.size w w' := by
  have mixed := mixedP
  have K1 : M.Sm 100000 s := M.sm_mono L1 (by decide)
  have K2 : M.Sm 100000 t := M.sm_mono L2 (by decide)
  have HL1 := hid L1
  have HL2 := hid L2
  clear L1 L2
  obtain ⟨res, hres⟩ : ∃ r, (if M.mayS s && M.mayS t then M.joinS s t else M.zeroS) = r := ⟨_, rfl⟩
  rw [hres]
  have HRES := hid hres
  clear hres
  have T1 := hid h1
  have T2 := hid h2
  obtain ⟨R, a, c, b, d, hs, rfl, hR, hP⟩ := h1.open
  obtain ⟨Q, a', c', b', d', ht, rfl, hQ, hP'⟩ := h2.open
  obtain ⟨n1, v1, p1⟩ := sm_fs K1 hs
  obtain ⟨n2, v2, p2⟩ := sm_fs K2 ht
  have HF : Hid (s.fs = fldOf R ∧ t.fs = fldOf Q) := ⟨by rw [hs], by rw [ht]⟩
  have HK1 := hid K1
  have HK2 := hid K2
  have HR := hid hR
  have HQ := hid hQ
  have HP := hid hP
  have HP' := hid hP'
  have HV1 := hid v1
  have HV2 := hid v2
  clear h1 h2 hs ht hR hQ hP hP' K1 K2 v1 v2
  obtain ⟨sn, hsn⟩ : ∃ n, s.pr.length = n := ⟨_, rfl⟩
  obtain ⟨tn, htn⟩ : ∃ n, t.pr.length = n := ⟨_, rfl⟩
  rw [hsn] at T1 HP p1 ⊢
  rw [htn] at T2 HP' p2 ⊢
  have HSN := hid hsn
  have HTN := hid htn
  clear hsn htn
  obtain ⟨A1, hA1⟩ : ∃ o, (.cells #[.slice a R.length c, .slice b sn d] 25 : Obj) = o := ⟨_, rfl⟩
  obtain ⟨A2, hA2⟩ : ∃ o, (.cells #[.slice a' Q.length c', .slice b' tn d'] 25 : Obj) = o := ⟨_, rfl⟩
  obtain ⟨A3, hA3⟩ : ∃ o, (.cells #[.slice none 0 0, .slice none 0 0] 25 : Obj) = o := ⟨_, rfl⟩
  obtain ⟨W0, hW0⟩ : ∃ W0, ((w.alloc A1).alloc A2).alloc A3 = W0 := ⟨_, rfl⟩
  have b1 := (gr_new w A1).below
  have b2 := (gr_new (w.alloc A1) A2).below
  have b3 := (gr_new ((w.alloc A1).alloc A2) A3).below
  have p3 : W0.heap[w.heap.size]? = some A1 := by rw [← hW0]; exact kept (B := ((w.alloc A1).alloc A2).heap.size) (kept (B := (w.alloc A1).heap.size) (new_at w A1) (by simp) b2) (by simp; omega) b3
  have p4 : W0.heap[w.heap.size + 1]? = some A2 := by
    rw [← hW0]
    have := kept (B := ((w.alloc A1).alloc A2).heap.size) (new_at (w.alloc A1) A2) (by simp) b3
    rw [World.size_alloc] at this
    exact this
  have p5 : W0.heap[w.heap.size + 2]? = some A3 := by
    rw [← hW0]
    have := new_at ((w.alloc A1).alloc A2) A3
    rw [World.size_alloc, World.size_alloc] at this
    exact this
  have hz : w.heap.size + 3 ≤ W0.heap.size := by rw [← hW0]; simp
  have B0 : Hid (Below w.heap.size w W0) := by
    unfold Hid; rw [← hW0]; exact b1.trans ((b2.trans (b3.mono b2.size)).mono b1.size)
  rw [← hA1] at p3
  rw [← hA2] at p4
  rw [← hA3] at p5
  subst hA1 hA2 hA3
  have P1 := hid p3
  have P2 := hid p4
  have P3 := hid p5
  obtain ⟨x1, x2, _⟩ := cells2 p3
  obtain ⟨y1, y2, _⟩ := cells2 p4
  clear b1 b2 b3 p3 p4 p5
  have KA := rmayS_any W0 _ s (T1.out.bel B0.out) HK1.out
  cases ms : M.mayS s with
  | false =>
    rw [ms] at KA
    have HKA := hid KA
    have MS := hid ms
    clear KA ms
    go_enter Try.func18, Try.ntmps18
    go_wp2_with (go_at_call 14; refine stopHere ?_)
    refine stopAt ?_
    refine HKA.out.mono ?_
    rintro e w1 ⟨rfl, hb1⟩
    clear hW0 x1 x2 y1 y2
    obtain ⟨z0, z1, zf⟩ := cells2 (kept P3.out hz hb1)
    go_wp2
    refine bodyPost_ret (v := .agg #[.slice none 0 0, .slice none 0 0]) (by simp [results, Try.results18, go_sem, z0, z1]) rfl ?_
    rw [← HRES.out, MS.out]
    exact ⟨_, rfl, zero_at _, set2b (B0.out.trans (hb1.mono B0.out.size)) (by omega) _ _⟩
  | true =>
    rw [ms] at KA
    have HKA := hid KA
    have MS := hid ms
    clear KA ms
    go_enter Try.func18, Try.ntmps18
    go_wp2_with (go_at_call 14; refine stopHere ?_)
    refine stopAt ?_
    refine HKA.out.mono ?_
    rintro e w1 ⟨rfl, hb1⟩
    have B1 : Hid (Below w.heap.size w w1) := B0.out.trans (hb1.mono B0.out.size)
    have hz1 : w.heap.size + 3 ≤ w1.heap.size := Nat.le_trans hz hb1.size
    have Q1 := hid (kept P1.out (by omega) hb1)
    have Q2 := hid (kept P2.out (by omega) hb1)
    have Q3 := hid (kept P3.out (by omega) hb1)
    clear hW0 x1 x2 y1 y2 hb1
    obtain ⟨x1, x2, _⟩ := cells2 Q1.out
    obtain ⟨y1, y2, _⟩ := cells2 Q2.out
    have KB := rmayS_any w1 _ t (T2.out.bel B1.out) HK2.out
    cases mt : M.mayS t with
    | false =>
      rw [mt] at KB
      have HKB := hid KB
      have MT := hid mt
      clear KB mt
      go_wp2_with (go_at_call 14; refine stopHere ?_)
      refine stopAt ?_
      refine HKB.out.mono ?_
      rintro e w2 ⟨rfl, hb2⟩
      clear x1 x2 y1 y2
      obtain ⟨z0, z1, zf⟩ := cells2 (kept Q3.out hz1 hb2)
      go_wp2
      refine bodyPost_ret (v := .agg #[.slice none 0 0, .slice none 0 0]) (by simp [results, Try.results18, go_sem, z0, z1]) rfl ?_
      rw [← HRES.out, MS.out, MT.out]
      exact ⟨_, rfl, zero_at _, set2b (B1.out.trans (hb2.mono B1.out.size)) (by omega) _ _⟩
    | true =>
      rw [mt] at KB
      have HKB := hid KB
      have MT := hid mt
      clear KB mt
      go_wp2_with (go_at_call 14; refine stopHere ?_)
      refine stopAt ?_
      refine HKB.out.mono ?_
      rintro e w2 ⟨rfl, hb2⟩
      have B2 : Hid (Below w.heap.size w w2) := B1.out.trans (hb2.mono B1.out.size)
      have hz2 : w.heap.size + 3 ≤ w2.heap.size := Nat.le_trans hz1 hb2.size
      have U1 := hid (kept Q1.out (by omega) hb2)
      have U2 := hid (kept Q2.out (by omega) hb2)
      have U3 : Hid (∀ W, Below w2.heap.size w2 W → W.heap[w.heap.size + 2]? = some (.cells #[.slice none 0 0, .slice none 0 0] 25 (0, 0))) := fun W hb => kept (kept Q3.out (by omega) hb2) (by omega) hb
      clear x1 x2 y1 y2 hb2
      obtain ⟨x1, x2, _⟩ := cells2 U1.out
      obtain ⟨y1, y2, _⟩ := cells2 U2.out
      have KU := runion_any w2 _ _ s.pr t.pr (HP.out.bel B2.out) (HP'.out.bel B2.out) (by rw [HSN.out]; exact p1) (by rw [HTN.out]; exact p2)
      have hpl : (M.norm (s.pr ++ t.pr)).length ≤ 20000 := by
        have h := M.norm_length (s.pr ++ t.pr)
        rw [List.length_append] at h
        have := HL1.out.2.2
        have := HL2.out.2.2
        omega
      obtain ⟨pn, hpn⟩ : ∃ l, M.norm (s.pr ++ t.pr) = l := ⟨_, rfl⟩
      rw [hpn] at KU hpl
      have HPN := hid hpn
      clear hpn
      go_wp2_with (go_at_call 30; refine stopHere ?_)
      refine stopAt ?_
      refine KU.mono ?_
      rintro e w3 ⟨vp, rfl, hA3, hb3⟩
      obtain ⟨qp, mp, rfl⟩ := hA3.form
      clear x1 x2 y1 y2 KU
      have V1 := hid (kept U1.out (by omega) hb3)
      have V2 := hid (kept U2.out (by omega) hb3)
      have V3 := hid (U3.out _ hb3)
      have B3 : Hid (Below w.heap.size w w3) := B2.out.trans (hb3.mono B2.out.size)
      have hz3 : w.heap.size + 3 ≤ w3.heap.size := Nat.le_trans hz2 hb3.size
      obtain ⟨w4, hw4⟩ : ∃ W, w3.alloc (.cells #[.slice none 0 0, .slice qp pn.length mp] 25) = W := ⟨_, rfl⟩
      have hbx : Below w3.heap.size w3 w4 := by rw [← hw4]; exact (gr_new _ _).below
      have V4 : Hid (w4.heap[w3.heap.size]? = some (.cells #[.slice none 0 0, .slice qp pn.length mp] 25 (0, 0))) := by unfold Hid; rw [← hw4]; exact new_at _ _
      have X1 := hid (kept V1.out (by omega) hbx)
      have X2 := hid (kept V2.out (by omega) hbx)
      have X3 := hid (kept V3.out (by omega) hbx)
      have B4 : Hid (Below w.heap.size w w4) := B3.out.trans (hbx.mono B3.out.size)
      have SH : Hid (ShAt w4 (.agg #[.slice none 0 0, .slice qp pn.length mp]) ⟨[], pn⟩) := ⟨_, _, rfl, ⟨[], rfl, RsAt.nil _⟩, hA3.bel hbx⟩
      have SM : Hid (M.Sm (20000 + 0) ⟨[], pn⟩) := ⟨Nat.zero_le _, (fun f hf => by cases hf), hpl⟩
      obtain ⟨x1, x2, _⟩ := cells2 V1.out
      obtain ⟨y1, y2, _⟩ := cells2 V2.out
      clear hA3 hb3 hbx hpl
      go_wp2
      clear x1 x2 y1 y2 hw4 U1 U2 U3 V1 V2 V3 B2 B3 hz2
      have HG5 : Hid (w.heap.size + 3 ≤ w3.heap.size) := hz3
      generalize hg5 : w3.heap.size = g5 at V4 HG5 ⊢
      clear hg5 hz3
      have hn1 : R.length ≤ 10000 := by have := HL1.out.1; rw [HF.out.1, fldOf_len] at this; exact this
      have hn2 : Q.length ≤ 10000 := by have := HL2.out.1; rw [HF.out.2, fldOf_len] at this; exact this
      have hsum : IntKind.i64.wrap ((R.length : Int) + (Q.length : Int)) = (R.length : Int) + (Q.length : Int) := by rw [IntKind.wrap_i64]; omega
      go_loopw [6] (fun i w' => ∃ (j : Nat) (acc : List M.Fld) (qo : Option Addr) (mo : Nat) (qp : Option Addr) (mp : Nat), j ≤ R.length + Q.length ∧ i = .int .i64 j ∧ Hid (Below w.heap.size w w') ∧ Hid (w'.heap[w.heap.size]? = some (.cells #[.slice a R.length c, .slice b sn d] 25 (0, 0))) ∧ Hid (w'.heap[w.heap.size + 1]? = some (.cells #[.slice a' Q.length c', .slice b' tn d'] 25 (0, 0))) ∧ Hid (w'.heap[w.heap.size + 2]? = some (.cells #[.slice none 0 0, .slice none 0 0] 25 (0, 0))) ∧ Hid (w'.heap[g5]? = some (.cells #[.slice qo acc.length mo, .slice qp pn.length mp] 25 (0, 0))) ∧ Hid (ShAt w' (.agg #[.slice qo acc.length mo, .slice qp pn.length mp]) ⟨acc, pn⟩) ∧ Hid (acc = ((s.fs ++ t.fs).take j).foldl (fun acc x => M.withF (M.jf s.fs t.fs x.nm) acc) []) ∧ Hid (M.Sm (20000 + j) ⟨acc, pn⟩)) (fun i _ => R.length + Q.length - (intOf i).toNat)
      case atStart => exact ⟨0, [], none, 0, qp, mp, Nat.zero_le _, rfl, B4, X1, X2, X3, V4, SH, rfl, SM⟩
      case round =>
        clear B4 X1 X2 X3 V4 SH SM
        obtain ⟨j, acc, qo, mo, qp, mp, hj, rfl, HB, I1, I2, I3, I4, HSH, HACC, HSM⟩ := hrel
        have HGB : Hid (g5 < wr.heap.size) := (Array.getElem?_eq_some_iff.1 I4.out).1
        have HRI : Hid (M.RisF acc) := by unfold Hid; rw [HACC.out]; exact (M.jfold _ _ _ [] List.Pairwise.nil).1
        have FA := hid (T1.out.bel HB.out)
        have FB := hid (T2.out.bel HB.out)
        obtain ⟨x1, x2, _⟩ := cells2 I1.out
        obtain ⟨y1, y2, _⟩ := cells2 I2.out
        by_cases hjN : j < R.length + Q.length
        · have hlt : decide ((j : Int) < (R.length : Int) + (Q.length : Int)) = true := decide_eq_true (by omega)
          by_cases hjl : j < R.length
          · obtain ⟨bb, o, rfl, hltb, hc⟩ := Rs_some HR.out hjl
            obtain ⟨c1, _, _⟩ := (hc j hjl).bel hltb HB.out
            obtain ⟨⟨⟨xn, xs, xv⟩, xa, xc⟩, hx⟩ : ∃ x, R[j] = x := ⟨_, rfl⟩
            rw [hx] at c1
            dsimp only at c1
            have HTK : Hid ((s.fs ++ t.fs).take (j + 1) = (s.fs ++ t.fs).take j ++ [⟨xn, xs, xv⟩]) := by
              unfold Hid
              rw [List.take_succ_eq_append_getElem (by rw [List.length_append, HF.out.1, HF.out.2, fldOf_len, fldOf_len]; omega)]
              congr 2
              simp only [HF.out.1, HF.out.2, fldOf, ← List.map_append, List.getElem_map]
              rw [List.getElem_append_left (by omega), hx]
            clear hx hc
            obtain ⟨p, hp⟩ : ∃ t0, (M.getF s.fs xn).isSome = t0 := ⟨_, rfl⟩
            have Hp := hid hp
            clear hp
            obtain ⟨q, hq⟩ : ∃ t0, (M.getF t.fs xn).isSome = t0 := ⟨_, rfl⟩
            have Hq := hid hq
            clear hq
            obtain ⟨xba0, xba1, _⟩ := cells2 I1.out
            obtain ⟨xbb0, xbb1, _⟩ := cells2 I2.out
            obtain ⟨xbr0, xbr1, _⟩ := cells2 I3.out
            obtain ⟨xbo0, xbo1, _⟩ := cells2 I4.out
            go_wp2_with (first | (go_at_call 12; refine stopHere ?_))
            refine stopAt ?_
            refine (rget_any wr _ s xn FA.out HK1.out).mono ?_
            rintro e w1 ⟨y1, rfl, hyf, hoy, hb⟩
            have B1 := hid (HB.out.trans (hb.mono HB.out.size))
            have Fa1 := hid (FA.out.bel hb)
            have Fb1 := hid (FB.out.bel hb)
            have Fo1 := hid (HSH.out.bel hb)
            have Fba1 := hid (bx_bel I1.out hb)
            have Fbb1 := hid (bx_bel I2.out hb)
            have Fbr1 := hid (bx_bel I3.out hb)
            have Fbo1 := hid (bx_bel I4.out hb)
            clear HB FA FB HSH I1 I2 I3 I4
            rw [Hp.out]
            have Ff1 := hid hoy
            have Yf := hid hyf
            clear hoy hyf
            obtain ⟨⟨nmf, suf, vsf⟩, yaf, ycf⟩ := y1
            unfold fv
            clear hb xba0 xba1 xbb0 xbb1 xbr0 xbr1 xbo0 xbo1 c1 x1 x2 y1 y2 hlt
            have HGf : Hid (g5 < w1.heap.size) := (Array.getElem?_eq_some_iff.1 Fbo1.out).1
            obtain ⟨V2, hV2⟩ : ∃ W, w1.alloc (.cells #[.string nmf, .bool suf, .slice yaf vsf.length ycf] 29) = W := ⟨_, rfl⟩
            have hbx : Below w1.heap.size w1 V2 := by rw [← hV2]; exact (gr_new _ _).below
            have Nbf : Hid (V2.heap[w1.heap.size]? = some (.cells #[.string nmf, .bool suf, .slice yaf vsf.length ycf] 29 (0, 0))) := by unfold Hid; rw [← hV2]; exact new_at _ _
            have B3 := hid (B1.out.trans (hbx.mono B1.out.size))
            have Fa3 := hid (Fa1.out.bel hbx)
            have Fb3 := hid (Fb1.out.bel hbx)
            have Fo3 := hid (Fo1.out.bel hbx)
            have Fba3 := hid (bx_bel Fba1.out hbx)
            have Fbb3 := hid (bx_bel Fbb1.out hbx)
            have Fbr3 := hid (bx_bel Fbr1.out hbx)
            have Fbo3 := hid (bx_bel Fbo1.out hbx)
            have Ff3 := hid (Ff1.out.bel hbx)
            clear B1 Fa1 Fb1 Fo1 Fba1 Fbb1 Fbr1 Fbo1 Ff1
            clear hbx
            obtain ⟨xba0, xba1, _⟩ := cells2 Fba3.out
            obtain ⟨xbb0, xbb1, _⟩ := cells2 Fbb3.out
            obtain ⟨xbr0, xbr1, _⟩ := cells2 Fbr3.out
            obtain ⟨xbo0, xbo1, _⟩ := cells2 Fbo3.out
            obtain ⟨xbf0, xbf1, xbf2, _⟩ := cells3 Nbf.out
            go_wp2_with (first | (go_at_call 12; refine stopHere ?_))
            refine stopAt ?_
            refine (rget_any V2 _ t xn Fb3.out HK2.out).mono ?_
            rintro e w4 ⟨y4, rfl, hyf, hoy, hb⟩
            have B4 := hid (B3.out.trans (hb.mono B3.out.size))
            have Fa4 := hid (Fa3.out.bel hb)
            have Fb4 := hid (Fb3.out.bel hb)
            have Fo4 := hid (Fo3.out.bel hb)
            have Fba4 := hid (bx_bel Fba3.out hb)
            have Fbb4 := hid (bx_bel Fbb3.out hb)
            have Fbr4 := hid (bx_bel Fbr3.out hb)
            have Fbo4 := hid (bx_bel Fbo3.out hb)
            have Ff4 := hid (Ff3.out.bel hb)
            have Fbf4 := hid (bx_bel Nbf.out hb)
            clear B3 Fa3 Fb3 Fo3 Fba3 Fbb3 Fbr3 Fbo3 Ff3 Nbf
            rw [Hq.out]
            have Fg4 := hid hoy
            have Yg := hid hyf
            clear hoy hyf
            obtain ⟨⟨nmg, sug, vsg⟩, yag, ycg⟩ := y4
            unfold fv
            clear hb xba0 xba1 xbb0 xbb1 xbr0 xbr1 xbo0 xbo1 xbf0 xbf1 xbf2 hV2
            have HGg : Hid (g5 < w4.heap.size) := (Array.getElem?_eq_some_iff.1 Fbo4.out).1
            obtain ⟨V5, hV5⟩ : ∃ W, w4.alloc (.cells #[.string nmg, .bool sug, .slice yag vsg.length ycg] 29) = W := ⟨_, rfl⟩
            have hbx : Below w4.heap.size w4 V5 := by rw [← hV5]; exact (gr_new _ _).below
            have Nbg : Hid (V5.heap[w4.heap.size]? = some (.cells #[.string nmg, .bool sug, .slice yag vsg.length ycg] 29 (0, 0))) := by unfold Hid; rw [← hV5]; exact new_at _ _
            have B6 := hid (B4.out.trans (hbx.mono B4.out.size))
            have Fa6 := hid (Fa4.out.bel hbx)
            have Fb6 := hid (Fb4.out.bel hbx)
            have Fo6 := hid (Fo4.out.bel hbx)
            have Fba6 := hid (bx_bel Fba4.out hbx)
            have Fbb6 := hid (bx_bel Fbb4.out hbx)
            have Fbr6 := hid (bx_bel Fbr4.out hbx)
            have Fbo6 := hid (bx_bel Fbo4.out hbx)
            have Ff6 := hid (Ff4.out.bel hbx)
            have Fbf6 := hid (bx_bel Fbf4.out hbx)
            have Fg6 := hid (Fg4.out.bel hbx)
            clear B4 Fa4 Fb4 Fo4 Fba4 Fbb4 Fbr4 Fbo4 Ff4 Fbf4 Fg4
            clear hbx
            have HJF := hid (jf_of Yf.out Yg.out)
            rw [Hp.out, Hq.out] at HJF
            have Lf := hid (get_len0 HL1.out Yf.out)
            have Lg := hid (get_len0 HL2.out Yg.out)
            clear Yf Yg Hp Hq
            rcases p with _ | _
            · have HJ2 : Hid (M.jf s.fs t.fs xn = ⟨xn, false, M.norm (vsf ++ vsg)⟩) := by unfold Hid; rw [HJF.out]; simp
              clear HJF
              obtain ⟨xba0, xba1, _⟩ := cells2 Fba6.out
              obtain ⟨xbb0, xbb1, _⟩ := cells2 Fbb6.out
              obtain ⟨xbr0, xbr1, _⟩ := cells2 Fbr6.out
              obtain ⟨xbo0, xbo1, _⟩ := cells2 Fbo6.out
              obtain ⟨xbf0, xbf1, xbf2, _⟩ := cells3 Fbf6.out
              obtain ⟨xbg0, xbg1, xbg2, _⟩ := cells3 Nbg.out
              go_wp2_with fail
              clear xba0 xba1 xbb0 xbb1 xbr0 xbr1 xbo0 xbo1 xbf0 xbf1 xbf2 xbg0 xbg1 xbg2
              clear hV5
              have KH : Hid (∀ W : World, W.heap[w1.heap.size]? = some (.cells #[.string nmf, .bool suf, .slice yaf vsf.length ycf] 29 (0, 0)) → W.heap[w4.heap.size]? = some (.cells #[.string nmg, .bool sug, .slice yag vsg.length ycg] 29 (0, 0)) → (W.cell? ⟨w1.heap.size, 0, none⟩ = some (.string nmf) ∧ W.cell? ⟨w1.heap.size, 1, none⟩ = some (.bool suf) ∧ W.cell? ⟨w1.heap.size, 2, none⟩ = some (.slice yaf vsf.length ycf) ∧ W.cell? ⟨w4.heap.size, 0, none⟩ = some (.string nmg) ∧ W.cell? ⟨w4.heap.size, 1, none⟩ = some (.bool sug) ∧ W.cell? ⟨w4.heap.size, 2, none⟩ = some (.slice yag vsg.length ycg))) := fun W h1 h2 => by
                obtain ⟨e0, e1, e2, _⟩ := cells3 h1
                obtain ⟨e3, e4, e5, _⟩ := cells3 h2
                exact ⟨e0, e1, e2, e3, e4, e5⟩
              have hbd : Below V5.heap.size V5 V5.drew := (Gr.refl _).drew.below
              refine wp_region_held_drew (S := fun W => W.cell? ⟨w1.heap.size, 0, none⟩ = some (.string nmf) ∧ W.cell? ⟨w1.heap.size, 1, none⟩ = some (.bool suf) ∧ W.cell? ⟨w1.heap.size, 2, none⟩ = some (.slice yaf vsf.length ycf) ∧ W.cell? ⟨w4.heap.size, 0, none⟩ = some (.string nmg) ∧ W.cell? ⟨w4.heap.size, 1, none⟩ = some (.bool sug) ∧ W.cell? ⟨w4.heap.size, 2, none⟩ = some (.slice yag vsg.length ycg)) (by kernel_rfl) (KH.out _ (bx_bel0 Fbf6.out hbd) (bx_bel0 Nbg.out hbd)) (fun hHeld => ?_)
              have B7 := hid (B6.out.trans (hbd.mono B6.out.size))
              have Fa7 := hid (Fa6.out.bel hbd)
              have Fb7 := hid (Fb6.out.bel hbd)
              have Fo7 := hid (Fo6.out.bel hbd)
              have Fba7 := hid (bx_bel Fba6.out hbd)
              have Fbb7 := hid (bx_bel Fbb6.out hbd)
              have Fbr7 := hid (bx_bel Fbr6.out hbd)
              have Fbo7 := hid (bx_bel Fbo6.out hbd)
              have Ff7 := hid (Ff6.out.bel hbd)
              have Fbf7 := hid (bx_bel Fbf6.out hbd)
              have Fg7 := hid (Fg6.out.bel hbd)
              have Fbg7 := hid (bx_bel Nbg.out hbd)
              clear B6 Fa6 Fb6 Fo6 Fba6 Fbb6 Fbr6 Fbo6 Ff6 Fbf6 Fg6 Nbg
              clear hbd
              refine wpAnyH_take (i := 1) (oi := { dst := some 72, op := Op.move (Operand.tmp 7), type := 9, pos := "ref.go:63", after := #[], guard := none }) (v := ?_) rfl (by kernel_rfl) (by kernel_rfl) (by kernel_rfl) (fun _ _ _ h => h) (Or.inl ⟨by rfl, ?_⟩) hHeld ?_
              rotate_left
              · intro w hSw; (try dsimp only at hSw); go_simp; (try with_reducible rfl)
              simp only [Act.put, List.setIfInBounds_toArray, List.set_cons_zero, List.set_cons_succ]
              refine wpAnyH_take (i := 2) (oi := { dst := some 73, op := Op.move (Operand.tmp 9), type := 4, pos := "ref.go:63", after := #[], guard := none }) (v := ?_) rfl (by kernel_rfl) (by kernel_rfl) (by kernel_rfl) (fun _ _ _ h => h) (Or.inl ⟨by rfl, ?_⟩) hHeld ?_
              rotate_left
              · intro w hSw; (try dsimp only at hSw); go_simp; (try with_reducible rfl)
              simp only [Act.put, List.setIfInBounds_toArray, List.set_cons_zero, List.set_cons_succ]
              refine wpAnyH_take (i := 3) (oi := { dst := some 74, op := Op.move (Operand.tmp 73), type := 4, pos := "ref.go:63", after := #[{ on := 2, ground := Ground.data }], guard := none }) (v := ?_) rfl (by kernel_rfl) (by kernel_rfl) (by kernel_rfl) (fun _ _ _ h => h) (Or.inl ⟨by rfl, ?_⟩) hHeld ?_
              rotate_left
              · intro w hSw; (try dsimp only at hSw); go_simp; (try with_reducible rfl)
              simp only [Act.put, List.setIfInBounds_toArray, List.set_cons_zero, List.set_cons_succ]
              refine wpAnyH_take (i := 4) (oi := { dst := some 75, op := Op.move (Operand.tmp 11), type := 4, pos := "ref.go:63", after := #[{ on := 3, ground := Ground.guard }], guard := some (3, true) }) (v := undef) rfl (by kernel_rfl) (by kernel_rfl) (by kernel_rfl) (fun _ _ _ h => h) (Or.inr ⟨by rfl, rfl⟩) hHeld ?_
              simp only [Act.put, List.setIfInBounds_toArray, List.set_cons_zero, List.set_cons_succ]
              refine wpAnyH_take (i := 5) (oi := { dst := some 76, op := Op.pick (Operand.tmp 74) (Operand.tmp 75) (Operand.const (Value.bool false)), type := 4, pos := "ref.go:63", after := #[{ on := 3, ground := Ground.data }, { on := 4, ground := Ground.data }], guard := none }) (v := ?_) rfl (by kernel_rfl) (by kernel_rfl) (by kernel_rfl) (fun _ _ _ h => h) (Or.inl ⟨by rfl, ?_⟩) hHeld ?_
              rotate_left
              · intro w hSw; (try dsimp only at hSw); go_simp; (try with_reducible rfl)
              simp only [Act.put, List.setIfInBounds_toArray, List.set_cons_zero, List.set_cons_succ]
              refine wpAnyH_take (i := 6) (oi := { dst := some 77, op := Op.move (Operand.tmp 76), type := 4, pos := "ref.go:63", after := #[{ on := 5, ground := Ground.data }, { on := 3, ground := Ground.chain }], guard := none }) (v := ?_) rfl (by kernel_rfl) (by kernel_rfl) (by kernel_rfl) (fun _ _ _ h => h) (Or.inl ⟨by rfl, ?_⟩) hHeld ?_
              rotate_left
              · intro w hSw; (try dsimp only at hSw); go_simp; (try with_reducible rfl)
              simp only [Act.put, List.setIfInBounds_toArray, List.set_cons_zero, List.set_cons_succ]
              refine wpAnyH_take (i := 7) (oi := { dst := some 78, op := Op.fieldAddr 29 (Operand.tmp 8) 1, type := 0, pos := "ref.go:63", after := #[{ on := 6, ground := Ground.guard }], guard := some (6, true) }) (v := undef) rfl (by kernel_rfl) (by kernel_rfl) (by kernel_rfl) (fun _ _ _ h => h) (Or.inr ⟨by rfl, rfl⟩) hHeld ?_
              simp only [Act.put, List.setIfInBounds_toArray, List.set_cons_zero, List.set_cons_succ]
              refine wpAnyH_take (i := 8) (oi := { dst := some 79, op := Op.load 4 (Operand.tmp 78), type := 4, pos := "ref.go:63", after := #[{ on := 7, ground := Ground.data }, { on := 6, ground := Ground.guard }], guard := some (6, true) }) (v := undef) rfl (by kernel_rfl) (by kernel_rfl) (by kernel_rfl) (fun _ _ _ h => h) (Or.inr ⟨by rfl, rfl⟩) hHeld ?_
              simp only [Act.put, List.setIfInBounds_toArray, List.set_cons_zero, List.set_cons_succ]
              refine wpAnyH_take (i := 9) (oi := { dst := some 80, op := Op.pick (Operand.tmp 77) (Operand.tmp 79) (Operand.const (Value.bool false)), type := 4, pos := "ref.go:63", after := #[{ on := 6, ground := Ground.data }, { on := 8, ground := Ground.data }], guard := none }) (v := ?_) rfl (by kernel_rfl) (by kernel_rfl) (by kernel_rfl) (fun _ _ _ h => h) (Or.inl ⟨by rfl, ?_⟩) hHeld ?_
              rotate_left
              · intro w hSw; (try dsimp only at hSw); go_simp; (try with_reducible rfl)
              simp only [Act.put, List.setIfInBounds_toArray, List.set_cons_zero, List.set_cons_succ]
              refine wpAnyH_take (i := 10) (oi := { dst := some 81, op := Op.move (Operand.tmp 80), type := 4, pos := "ref.go:63", after := #[{ on := 9, ground := Ground.data }, { on := 6, ground := Ground.chain }], guard := none }) (v := ?_) rfl (by kernel_rfl) (by kernel_rfl) (by kernel_rfl) (fun _ _ _ h => h) (Or.inl ⟨by rfl, ?_⟩) hHeld ?_
              rotate_left
              · intro w hSw; (try dsimp only at hSw); go_simp; (try with_reducible rfl)
              simp only [Act.put, List.setIfInBounds_toArray, List.set_cons_zero, List.set_cons_succ]
              refine wpAnyH_take (i := 11) (oi := { dst := some 82, op := Op.fieldAddr 29 (Operand.tmp 10) 1, type := 0, pos := "ref.go:63", after := #[{ on := 10, ground := Ground.guard }], guard := some (10, true) }) (v := undef) rfl (by kernel_rfl) (by kernel_rfl) (by kernel_rfl) (fun _ _ _ h => h) (Or.inr ⟨by rfl, rfl⟩) hHeld ?_
              simp only [Act.put, List.setIfInBounds_toArray, List.set_cons_zero, List.set_cons_succ]
              refine wpAnyH_take (i := 12) (oi := { dst := some 83, op := Op.load 4 (Operand.tmp 82), type := 4, pos := "ref.go:63", after := #[{ on := 11, ground := Ground.data }, { on := 10, ground := Ground.guard }], guard := some (10, true) }) (v := undef) rfl (by kernel_rfl) (by kernel_rfl) (by kernel_rfl) (fun _ _ _ h => h) (Or.inr ⟨by rfl, rfl⟩) hHeld ?_
              simp only [Act.put, List.setIfInBounds_toArray, List.set_cons_zero, List.set_cons_succ]
              refine wpAnyH_take (i := 13) (oi := { dst := some 84, op := Op.pick (Operand.tmp 81) (Operand.tmp 83) (Operand.const (Value.bool false)), type := 4, pos := "ref.go:63", after := #[{ on := 10, ground := Ground.data }, { on := 12, ground := Ground.data }], guard := none }) (v := ?_) rfl (by kernel_rfl) (by kernel_rfl) (by kernel_rfl) (fun _ _ _ h => h) (Or.inl ⟨by rfl, ?_⟩) hHeld ?_
              rotate_left
              · intro w hSw; (try dsimp only at hSw); go_simp; (try with_reducible rfl)
              simp only [Act.put, List.setIfInBounds_toArray, List.set_cons_zero, List.set_cons_succ]
              refine wpAnyH_take (i := 14) (oi := { dst := some 85, op := Op.fieldAddr 29 (Operand.tmp 8) 2, type := 0, pos := "ref.go:63", after := #[], guard := none }) (v := ?_) rfl (by kernel_rfl) (by kernel_rfl) (by kernel_rfl) (fun _ _ _ h => h) (Or.inl ⟨by rfl, ?_⟩) hHeld ?_
              rotate_left
              · intro w hSw; (try dsimp only at hSw); go_simp; (try with_reducible rfl)
              simp only [Act.put, List.setIfInBounds_toArray, List.set_cons_zero, List.set_cons_succ]
              refine wpAnyH_take (i := 15) (oi := { dst := some 86, op := Op.load 23 (Operand.tmp 85), type := 23, pos := "ref.go:63", after := #[{ on := 14, ground := Ground.data }], guard := none }) (v := ?_) rfl (by kernel_rfl) (by kernel_rfl) (by kernel_rfl) (fun _ _ _ h => h) (Or.inl ⟨by rfl, ?_⟩) hHeld ?_
              rotate_left
              · intro w hSw; (try dsimp only at hSw); go_simp; (try with_reducible rfl)
              simp only [Act.put, List.setIfInBounds_toArray, List.set_cons_zero, List.set_cons_succ]
              refine wpAnyH_take (i := 16) (oi := { dst := some 87, op := Op.fieldAddr 29 (Operand.tmp 10) 2, type := 0, pos := "ref.go:63", after := #[], guard := none }) (v := ?_) rfl (by kernel_rfl) (by kernel_rfl) (by kernel_rfl) (fun _ _ _ h => h) (Or.inl ⟨by rfl, ?_⟩) hHeld ?_
              rotate_left
              · intro w hSw; (try dsimp only at hSw); go_simp; (try with_reducible rfl)
              simp only [Act.put, List.setIfInBounds_toArray, List.set_cons_zero, List.set_cons_succ]
              refine wpAnyH_take (i := 17) (oi := { dst := some 88, op := Op.load 23 (Operand.tmp 87), type := 23, pos := "ref.go:63", after := #[{ on := 16, ground := Ground.data }], guard := none }) (v := ?_) rfl (by kernel_rfl) (by kernel_rfl) (by kernel_rfl) (fun _ _ _ h => h) (Or.inl ⟨by rfl, ?_⟩) hHeld ?_
              rotate_left
              · intro w hSw; (try dsimp only at hSw); go_simp; (try with_reducible rfl)
              simp only [Act.put, List.setIfInBounds_toArray, List.set_cons_zero, List.set_cons_succ]
              refine wpAnyH_ready (rs := [0, 18]) (by kernel_rfl) (by simp) ?_
              refine AllReadyH.cons (o := { dst := some 71, op := Op.load 25 (Operand.tmp 5), type := 25, pos := "ref.go:63", after := #[], guard := none }) rfl (fun K hK => ?_) (AllReadyH.cons (o := { dst := some 89, op := Op.call { callee := Callee.value (Operand.func 30), args := #[Operand.tmp 86, Operand.tmp 88], argTypes := #[23, 23] }, type := 23, pos := "ref.go:63", after := #[{ on := 15, ground := Ground.data }, { on := 17, ground := Ground.data }, { on := 10, ground := Ground.chain }], guard := none }) rfl (fun K hK => ?_) AllReadyH.nil)
              · obtain ⟨o0, o1, _⟩ := cells2 Fbo7.out
                go_simp
                clear o0 o1
                refine hK.out _ _ (KH.out _ Fbf7.out Fbg7.out) (fun hHeld => ?_)
                clear hK
                refine wpAnyH_ready (rs := [18]) (by kernel_rfl) (by simp) ?_
                refine AllReadyH.cons (o := { dst := some 89, op := Op.call { callee := Callee.value (Operand.func 30), args := #[Operand.tmp 86, Operand.tmp 88], argTypes := #[23, 23] }, type := 23, pos := "ref.go:63", after := #[{ on := 15, ground := Ground.data }, { on := 17, ground := Ground.data }, { on := 10, ground := Ground.chain }], guard := none }) rfl (fun K hK => ?_) AllReadyH.nil
                go_simp
                refine (runion_any V5.drew _ _ vsf vsg Ff7.out Fg7.out (Nat.le_trans Lf.out (by decide)) (Nat.le_trans Lg.out (by decide))).mono ?_
                rintro e z8 ⟨v8, rfl, hA, hb⟩
                have B8 := hid (B7.out.trans (hb.mono B7.out.size))
                have Fa8 := hid (Fa7.out.bel hb)
                have Fb8 := hid (Fb7.out.bel hb)
                have Fo8 := hid (Fo7.out.bel hb)
                have Fba8 := hid (bx_bel Fba7.out hb)
                have Fbb8 := hid (bx_bel Fbb7.out hb)
                have Fbr8 := hid (bx_bel Fbr7.out hb)
                have Fbo8 := hid (bx_bel Fbo7.out hb)
                have Ff8 := hid (Ff7.out.bel hb)
                have Fbf8 := hid (bx_bel Fbf7.out hb)
                have Fg8 := hid (Fg7.out.bel hb)
                have Fbg8 := hid (bx_bel Fbg7.out hb)
                clear B7 Fa7 Fb7 Fo7 Fba7 Fbb7 Fbr7 Fbo7 Ff7 Fbf7 Fg7 Fbg7
                obtain ⟨vu, hvu⟩ : ∃ l, M.norm (vsf ++ vsg) = l := ⟨_, rfl⟩
                have hul : vu.length ≤ 20000 := by rw [← hvu]; have h := M.norm_length (vsf ++ vsg); rw [List.length_append] at h; have := Lf.out; have := Lg.out; omega
                have HUL := hid hul
                rw [hvu] at hA
                have HJ3 : Hid (M.jf s.fs t.fs xn = ⟨xn, false, vu⟩) := by unfold Hid; rw [HJ2.out, hvu]
                obtain ⟨qu, mu, rfl⟩ := hA.form
                have Fu8 : Hid (AtAt z8 (.slice qu vu.length mu) vu) := hid hA
                clear hA hvu hul hb
                refine hK.out _ _ (KH.out _ Fbf8.out Fbg8.out) (fun hHeld => ?_)
                clear hK
                refine wpAnyH_take (i := 19) (oi := { dst := some 90, op := Op.build 29 #[(0, Operand.tmp 72), (1, Operand.tmp 84), (2, Operand.tmp 89)], type := 29, pos := "ref.go:63", after := #[{ on := 1, ground := Ground.data }, { on := 13, ground := Ground.data }, { on := 18, ground := Ground.data }], guard := none }) (v := ?_) rfl (by kernel_rfl) (by kernel_rfl) (by kernel_rfl) (fun _ _ _ h => h) (Or.inl ⟨by rfl, ?_⟩) hHeld ?_
                rotate_left
                · intro w hSw; (try dsimp only at hSw); go_simp; (try with_reducible rfl)
                simp only [Act.put, List.setIfInBounds_toArray, List.set_cons_zero, List.set_cons_succ]
                refine wpAnyH_ready (rs := [20]) (by kernel_rfl) (by simp) ?_
                refine AllReadyH.cons (o := { dst := some 91, op := Op.call { callee := Callee.value (Operand.func 37), args := #[Operand.tmp 71, Operand.tmp 90], argTypes := #[25, 29] }, type := 25, pos := "ref.go:63", after := #[{ on := 0, ground := Ground.data }, { on := 19, ground := Ground.data }, { on := 18, ground := Ground.chain }], guard := none }) rfl (fun K hK => ?_) AllReadyH.nil
                go_simp
                refine (rwith_any z8 _ ⟨acc, pn⟩ xn false vu qu mu Fo8.out Fu8.out (M.sm_mono HSM.out (by omega)) HRI.out).mono ?_
                rintro e z9 ⟨v9, rfl, hsh, hb⟩
                have B9 := hid (B8.out.trans (hb.mono B8.out.size))
                have Fa9 := hid (Fa8.out.bel hb)
                have Fb9 := hid (Fb8.out.bel hb)
                have Fo9 := hid (Fo8.out.bel hb)
                have Fba9 := hid (bx_bel Fba8.out hb)
                have Fbb9 := hid (bx_bel Fbb8.out hb)
                have Fbr9 := hid (bx_bel Fbr8.out hb)
                have Fbo9 := hid (bx_bel Fbo8.out hb)
                have Ff9 := hid (Ff8.out.bel hb)
                have Fbf9 := hid (bx_bel Fbf8.out hb)
                have Fg9 := hid (Fg8.out.bel hb)
                have Fbg9 := hid (bx_bel Fbg8.out hb)
                have Fu9 := hid (Fu8.out.bel hb)
                clear B8 Fa8 Fb8 Fo8 Fba8 Fbb8 Fbr8 Fbo8 Ff8 Fbf8 Fg8 Fbg8 Fu8
                obtain ⟨acc2, hacc2⟩ : ∃ l, M.withF ⟨xn, false, vu⟩ acc = l := ⟨_, rfl⟩
                rw [hacc2] at hsh
                have HA2 := hid hacc2
                obtain ⟨qn, mn, qn2, mn2, rfl⟩ := hsh.form
                have Fn9 : Hid (ShAt z9 (.agg #[.slice qn acc2.length mn, .slice qn2 pn.length mn2]) ⟨acc2, pn⟩) := hid hsh
                clear hsh hacc2 hb
                refine hK.out _ _ (KH.out _ Fbf9.out Fbg9.out) (fun hHeld => ?_)
                clear hK
                refine wpAnyH_ready (rs := [21]) (by kernel_rfl) (by simp) ?_
                refine AllReadyH.cons (o := { dst := none, op := Op.store 25 (Operand.tmp 5) (Operand.tmp 91), type := 0, pos := "ref.go:63", after := #[{ on := 20, ground := Ground.data }, { on := 20, ground := Ground.chain }, { on := 0, ground := Ground.phase }, { on := 1, ground := Ground.phase }, { on := 2, ground := Ground.phase }, { on := 3, ground := Ground.phase }, { on := 4, ground := Ground.phase }, { on := 5, ground := Ground.phase }, { on := 6, ground := Ground.phase }, { on := 7, ground := Ground.phase }, { on := 8, ground := Ground.phase }, { on := 9, ground := Ground.phase }, { on := 10, ground := Ground.phase }, { on := 11, ground := Ground.phase }, { on := 12, ground := Ground.phase }, { on := 13, ground := Ground.phase }, { on := 14, ground := Ground.phase }, { on := 15, ground := Ground.phase }, { on := 16, ground := Ground.phase }, { on := 17, ground := Ground.phase }, { on := 18, ground := Ground.phase }, { on := 19, ground := Ground.phase }, { on := 20, ground := Ground.phase }], guard := none }) rfl (fun K hK => ?_) AllReadyH.nil
                obtain ⟨o0, o1, _⟩ := cells2 Fbo9.out
                go_simp
                clear o0 o1
                obtain ⟨z10, hzz10⟩ : ∃ W, ((z9.setCell ⟨g5, 0, none⟩ (.slice qn acc2.length mn)).setCell ⟨g5, 1, none⟩ (.slice qn2 pn.length mn2)) = W := ⟨_, rfl⟩
                have B10 : Hid (Below w.heap.size w z10) := by unfold Hid; rw [← hzz10]; exact set2b B9.out (by have := HG5.out; omega) _ _
                have Fba10 := hid ((congrArg (fun W : World => W.heap[w.heap.size]?) hzz10).symm.trans ((box_off (by have := HG5.out; omega) _ _).trans Fba9.out))
                have Fbb10 := hid ((congrArg (fun W : World => W.heap[w.heap.size + 1]?) hzz10).symm.trans ((box_off (by have := HG5.out; omega) _ _).trans Fbb9.out))
                have Fbr10 := hid ((congrArg (fun W : World => W.heap[w.heap.size + 2]?) hzz10).symm.trans ((box_off (by have := HG5.out; omega) _ _).trans Fbr9.out))
                have Fbf10 := hid ((congrArg (fun W : World => W.heap[w1.heap.size]?) hzz10).symm.trans ((box_off (Nat.ne_of_gt HGf.out) _ _).trans Fbf9.out))
                have Fbg10 := hid ((congrArg (fun W : World => W.heap[w4.heap.size]?) hzz10).symm.trans ((box_off (Nat.ne_of_gt HGg.out) _ _).trans Fbg9.out))
                have Fbo10 := hid ((congrArg (fun W : World => W.heap[g5]?) hzz10).symm.trans (box_set2 Fbo9.out _ _))
                have Fn10 : Hid (ShAt z10 (.agg #[.slice qn acc2.length mn, .slice qn2 pn.length mn2]) ⟨acc2, pn⟩) := by unfold Hid; rw [← hzz10]; exact Fn9.out.off2 Fbo9.out _ _
                try rw [hzz10]
                clear hzz10
                refine hK.out _ _ (KH.out _ Fbf10.out Fbg10.out) (fun hHeld => ?_)
                clear hK
                refine wpAnyH_done (by kernel_rfl) ?_ _
                clear hHeld KH
                go_wp2
                refine ⟨⟨j + 1, acc2, qn, mn, qn2, mn2, by omega, by go_num, B10, Fba10, Fbb10, Fbr10, Fbo10, Fn10, ?_, ?_⟩, by simp [intOf]; omega⟩
                · unfold Hid
                  rw [← HA2.out, HTK.out, List.foldl_append, ← HACC.out]
                  show _ = M.withF (M.jf s.fs t.fs xn) acc
                  rw [HJ3.out]
                · unfold Hid
                  rw [← HA2.out]
                  exact M.sm_with HSM.out (by omega) (by have := HUL.out; show vu.length ≤ _; omega)
              · go_simp
                refine (runion_any V5.drew _ _ vsf vsg Ff7.out Fg7.out (Nat.le_trans Lf.out (by decide)) (Nat.le_trans Lg.out (by decide))).mono ?_
                rintro e z8 ⟨v8, rfl, hA, hb⟩
                have B8 := hid (B7.out.trans (hb.mono B7.out.size))
                have Fa8 := hid (Fa7.out.bel hb)
                have Fb8 := hid (Fb7.out.bel hb)
                have Fo8 := hid (Fo7.out.bel hb)
                have Fba8 := hid (bx_bel Fba7.out hb)
                have Fbb8 := hid (bx_bel Fbb7.out hb)
                have Fbr8 := hid (bx_bel Fbr7.out hb)
                have Fbo8 := hid (bx_bel Fbo7.out hb)
                have Ff8 := hid (Ff7.out.bel hb)
                have Fbf8 := hid (bx_bel Fbf7.out hb)
                have Fg8 := hid (Fg7.out.bel hb)
                have Fbg8 := hid (bx_bel Fbg7.out hb)
                clear B7 Fa7 Fb7 Fo7 Fba7 Fbb7 Fbr7 Fbo7 Ff7 Fbf7 Fg7 Fbg7
                obtain ⟨vu, hvu⟩ : ∃ l, M.norm (vsf ++ vsg) = l := ⟨_, rfl⟩
                have hul : vu.length ≤ 20000 := by rw [← hvu]; have h := M.norm_length (vsf ++ vsg); rw [List.length_append] at h; have := Lf.out; have := Lg.out; omega
                have HUL := hid hul
                rw [hvu] at hA
                have HJ3 : Hid (M.jf s.fs t.fs xn = ⟨xn, false, vu⟩) := by unfold Hid; rw [HJ2.out, hvu]
                obtain ⟨qu, mu, rfl⟩ := hA.form
                have Fu8 : Hid (AtAt z8 (.slice qu vu.length mu) vu) := hid hA
                clear hA hvu hul hb
                refine hK.out _ _ (KH.out _ Fbf8.out Fbg8.out) (fun hHeld => ?_)
                clear hK
                refine wpAnyH_take (i := 19) (oi := { dst := some 90, op := Op.build 29 #[(0, Operand.tmp 72), (1, Operand.tmp 84), (2, Operand.tmp 89)], type := 29, pos := "ref.go:63", after := #[{ on := 1, ground := Ground.data }, { on := 13, ground := Ground.data }, { on := 18, ground := Ground.data }], guard := none }) (v := ?_) rfl (by kernel_rfl) (by kernel_rfl) (by kernel_rfl) (fun _ _ _ h => h) (Or.inl ⟨by rfl, ?_⟩) hHeld ?_
                rotate_left
                · intro w hSw; (try dsimp only at hSw); go_simp; (try with_reducible rfl)
                simp only [Act.put, List.setIfInBounds_toArray, List.set_cons_zero, List.set_cons_succ]
                refine wpAnyH_ready (rs := [0]) (by kernel_rfl) (by simp) ?_
                refine AllReadyH.cons (o := { dst := some 71, op := Op.load 25 (Operand.tmp 5), type := 25, pos := "ref.go:63", after := #[], guard := none }) rfl (fun K hK => ?_) AllReadyH.nil
                obtain ⟨o0, o1, _⟩ := cells2 Fbo8.out
                go_simp
                clear o0 o1
                refine hK.out _ _ (KH.out _ Fbf8.out Fbg8.out) (fun hHeld => ?_)
                clear hK
                refine wpAnyH_ready (rs := [20]) (by kernel_rfl) (by simp) ?_
                refine AllReadyH.cons (o := { dst := some 91, op := Op.call { callee := Callee.value (Operand.func 37), args := #[Operand.tmp 71, Operand.tmp 90], argTypes := #[25, 29] }, type := 25, pos := "ref.go:63", after := #[{ on := 0, ground := Ground.data }, { on := 19, ground := Ground.data }, { on := 18, ground := Ground.chain }], guard := none }) rfl (fun K hK => ?_) AllReadyH.nil
                go_simp
                refine (rwith_any z8 _ ⟨acc, pn⟩ xn false vu qu mu Fo8.out Fu8.out (M.sm_mono HSM.out (by omega)) HRI.out).mono ?_
                rintro e z9 ⟨v9, rfl, hsh, hb⟩
                have B9 := hid (B8.out.trans (hb.mono B8.out.size))
                have Fa9 := hid (Fa8.out.bel hb)
                have Fb9 := hid (Fb8.out.bel hb)
                have Fo9 := hid (Fo8.out.bel hb)
                have Fba9 := hid (bx_bel Fba8.out hb)
                have Fbb9 := hid (bx_bel Fbb8.out hb)
                have Fbr9 := hid (bx_bel Fbr8.out hb)
                have Fbo9 := hid (bx_bel Fbo8.out hb)
                have Ff9 := hid (Ff8.out.bel hb)
                have Fbf9 := hid (bx_bel Fbf8.out hb)
                have Fg9 := hid (Fg8.out.bel hb)
                have Fbg9 := hid (bx_bel Fbg8.out hb)
                have Fu9 := hid (Fu8.out.bel hb)
                clear B8 Fa8 Fb8 Fo8 Fba8 Fbb8 Fbr8 Fbo8 Ff8 Fbf8 Fg8 Fbg8 Fu8
                obtain ⟨acc2, hacc2⟩ : ∃ l, M.withF ⟨xn, false, vu⟩ acc = l := ⟨_, rfl⟩
                rw [hacc2] at hsh
                have HA2 := hid hacc2
                obtain ⟨qn, mn, qn2, mn2, rfl⟩ := hsh.form
                have Fn9 : Hid (ShAt z9 (.agg #[.slice qn acc2.length mn, .slice qn2 pn.length mn2]) ⟨acc2, pn⟩) := hid hsh
                clear hsh hacc2 hb
                refine hK.out _ _ (KH.out _ Fbf9.out Fbg9.out) (fun hHeld => ?_)
                clear hK
                refine wpAnyH_ready (rs := [21]) (by kernel_rfl) (by simp) ?_
                refine AllReadyH.cons (o := { dst := none, op := Op.store 25 (Operand.tmp 5) (Operand.tmp 91), type := 0, pos := "ref.go:63", after := #[{ on := 20, ground := Ground.data }, { on := 20, ground := Ground.chain }, { on := 0, ground := Ground.phase }, { on := 1, ground := Ground.phase }, { on := 2, ground := Ground.phase }, { on := 3, ground := Ground.phase }, { on := 4, ground := Ground.phase }, { on := 5, ground := Ground.phase }, { on := 6, ground := Ground.phase }, { on := 7, ground := Ground.phase }, { on := 8, ground := Ground.phase }, { on := 9, ground := Ground.phase }, { on := 10, ground := Ground.phase }, { on := 11, ground := Ground.phase }, { on := 12, ground := Ground.phase }, { on := 13, ground := Ground.phase }, { on := 14, ground := Ground.phase }, { on := 15, ground := Ground.phase }, { on := 16, ground := Ground.phase }, { on := 17, ground := Ground.phase }, { on := 18, ground := Ground.phase }, { on := 19, ground := Ground.phase }, { on := 20, ground := Ground.phase }], guard := none }) rfl (fun K hK => ?_) AllReadyH.nil
                obtain ⟨o0, o1, _⟩ := cells2 Fbo9.out
                go_simp
                clear o0 o1
                obtain ⟨z10, hzz10⟩ : ∃ W, ((z9.setCell ⟨g5, 0, none⟩ (.slice qn acc2.length mn)).setCell ⟨g5, 1, none⟩ (.slice qn2 pn.length mn2)) = W := ⟨_, rfl⟩
                have B10 : Hid (Below w.heap.size w z10) := by unfold Hid; rw [← hzz10]; exact set2b B9.out (by have := HG5.out; omega) _ _
                have Fba10 := hid ((congrArg (fun W : World => W.heap[w.heap.size]?) hzz10).symm.trans ((box_off (by have := HG5.out; omega) _ _).trans Fba9.out))
                have Fbb10 := hid ((congrArg (fun W : World => W.heap[w.heap.size + 1]?) hzz10).symm.trans ((box_off (by have := HG5.out; omega) _ _).trans Fbb9.out))
                have Fbr10 := hid ((congrArg (fun W : World => W.heap[w.heap.size + 2]?) hzz10).symm.trans ((box_off (by have := HG5.out; omega) _ _).trans Fbr9.out))
                have Fbf10 := hid ((congrArg (fun W : World => W.heap[w1.heap.size]?) hzz10).symm.trans ((box_off (Nat.ne_of_gt HGf.out) _ _).trans Fbf9.out))
                have Fbg10 := hid ((congrArg (fun W : World => W.heap[w4.heap.size]?) hzz10).symm.trans ((box_off (Nat.ne_of_gt HGg.out) _ _).trans Fbg9.out))
                have Fbo10 := hid ((congrArg (fun W : World => W.heap[g5]?) hzz10).symm.trans (box_set2 Fbo9.out _ _))
                have Fn10 : Hid (ShAt z10 (.agg #[.slice qn acc2.length mn, .slice qn2 pn.length mn2]) ⟨acc2, pn⟩) := by unfold Hid; rw [← hzz10]; exact Fn9.out.off2 Fbo9.out _ _
                try rw [hzz10]
                clear hzz10
                refine hK.out _ _ (KH.out _ Fbf10.out Fbg10.out) (fun hHeld => ?_)
                clear hK
                refine wpAnyH_done (by kernel_rfl) ?_ _
                clear hHeld KH
                go_wp2
                refine ⟨⟨j + 1, acc2, qn, mn, qn2, mn2, by omega, by go_num, B10, Fba10, Fbb10, Fbr10, Fbo10, Fn10, ?_, ?_⟩, by simp [intOf]; omega⟩
                · unfold Hid
                  rw [← HA2.out, HTK.out, List.foldl_append, ← HACC.out]
                  show _ = M.withF (M.jf s.fs t.fs xn) acc
                  rw [HJ3.out]
                · unfold Hid
                  rw [← HA2.out]
                  exact M.sm_with HSM.out (by omega) (by have := HUL.out; show vu.length ≤ _; omega)
            · rcases q with _ | _
              · have HJ2 : Hid (M.jf s.fs t.fs xn = ⟨xn, false, M.norm (vsf ++ vsg)⟩) := by unfold Hid; rw [HJF.out]; simp
                clear HJF
                obtain ⟨xba0, xba1, _⟩ := cells2 Fba6.out
                obtain ⟨xbb0, xbb1, _⟩ := cells2 Fbb6.out
                obtain ⟨xbr0, xbr1, _⟩ := cells2 Fbr6.out
                obtain ⟨xbo0, xbo1, _⟩ := cells2 Fbo6.out
                obtain ⟨xbf0, xbf1, xbf2, _⟩ := cells3 Fbf6.out
                obtain ⟨xbg0, xbg1, xbg2, _⟩ := cells3 Nbg.out
                go_wp2_with fail
                clear xba0 xba1 xbb0 xbb1 xbr0 xbr1 xbo0 xbo1 xbf0 xbf1 xbf2 xbg0 xbg1 xbg2
                clear hV5
                have KH : Hid (∀ W : World, W.heap[w1.heap.size]? = some (.cells #[.string nmf, .bool suf, .slice yaf vsf.length ycf] 29 (0, 0)) → W.heap[w4.heap.size]? = some (.cells #[.string nmg, .bool sug, .slice yag vsg.length ycg] 29 (0, 0)) → (W.cell? ⟨w1.heap.size, 0, none⟩ = some (.string nmf) ∧ W.cell? ⟨w1.heap.size, 1, none⟩ = some (.bool suf) ∧ W.cell? ⟨w1.heap.size, 2, none⟩ = some (.slice yaf vsf.length ycf) ∧ W.cell? ⟨w4.heap.size, 0, none⟩ = some (.string nmg) ∧ W.cell? ⟨w4.heap.size, 1, none⟩ = some (.bool sug) ∧ W.cell? ⟨w4.heap.size, 2, none⟩ = some (.slice yag vsg.length ycg))) := fun W h1 h2 => by
                  obtain ⟨e0, e1, e2, _⟩ := cells3 h1
                  obtain ⟨e3, e4, e5, _⟩ := cells3 h2
                  exact ⟨e0, e1, e2, e3, e4, e5⟩
                have hbd : Below V5.heap.size V5 V5.drew := (Gr.refl _).drew.below
                refine wp_region_held_drew (S := fun W => W.cell? ⟨w1.heap.size, 0, none⟩ = some (.string nmf) ∧ W.cell? ⟨w1.heap.size, 1, none⟩ = some (.bool suf) ∧ W.cell? ⟨w1.heap.size, 2, none⟩ = some (.slice yaf vsf.length ycf) ∧ W.cell? ⟨w4.heap.size, 0, none⟩ = some (.string nmg) ∧ W.cell? ⟨w4.heap.size, 1, none⟩ = some (.bool sug) ∧ W.cell? ⟨w4.heap.size, 2, none⟩ = some (.slice yag vsg.length ycg)) (by kernel_rfl) (KH.out _ (bx_bel0 Fbf6.out hbd) (bx_bel0 Nbg.out hbd)) (fun hHeld => ?_)
                have B7 := hid (B6.out.trans (hbd.mono B6.out.size))
                have Fa7 := hid (Fa6.out.bel hbd)
                have Fb7 := hid (Fb6.out.bel hbd)
                have Fo7 := hid (Fo6.out.bel hbd)
                have Fba7 := hid (bx_bel Fba6.out hbd)
                have Fbb7 := hid (bx_bel Fbb6.out hbd)
                have Fbr7 := hid (bx_bel Fbr6.out hbd)
                have Fbo7 := hid (bx_bel Fbo6.out hbd)
                have Ff7 := hid (Ff6.out.bel hbd)
                have Fbf7 := hid (bx_bel Fbf6.out hbd)
                have Fg7 := hid (Fg6.out.bel hbd)
                have Fbg7 := hid (bx_bel Nbg.out hbd)
                clear B6 Fa6 Fb6 Fo6 Fba6 Fbb6 Fbr6 Fbo6 Ff6 Fbf6 Fg6 Nbg
                clear hbd
                refine wpAnyH_take (i := 1) (oi := { dst := some 72, op := Op.move (Operand.tmp 7), type := 9, pos := "ref.go:63", after := #[], guard := none }) (v := ?_) rfl (by kernel_rfl) (by kernel_rfl) (by kernel_rfl) (fun _ _ _ h => h) (Or.inl ⟨by rfl, ?_⟩) hHeld ?_
                rotate_left
                · intro w hSw; (try dsimp only at hSw); go_simp; (try with_reducible rfl)
                simp only [Act.put, List.setIfInBounds_toArray, List.set_cons_zero, List.set_cons_succ]
                refine wpAnyH_take (i := 2) (oi := { dst := some 73, op := Op.move (Operand.tmp 9), type := 4, pos := "ref.go:63", after := #[], guard := none }) (v := ?_) rfl (by kernel_rfl) (by kernel_rfl) (by kernel_rfl) (fun _ _ _ h => h) (Or.inl ⟨by rfl, ?_⟩) hHeld ?_
                rotate_left
                · intro w hSw; (try dsimp only at hSw); go_simp; (try with_reducible rfl)
                simp only [Act.put, List.setIfInBounds_toArray, List.set_cons_zero, List.set_cons_succ]
                refine wpAnyH_take (i := 3) (oi := { dst := some 74, op := Op.move (Operand.tmp 73), type := 4, pos := "ref.go:63", after := #[{ on := 2, ground := Ground.data }], guard := none }) (v := ?_) rfl (by kernel_rfl) (by kernel_rfl) (by kernel_rfl) (fun _ _ _ h => h) (Or.inl ⟨by rfl, ?_⟩) hHeld ?_
                rotate_left
                · intro w hSw; (try dsimp only at hSw); go_simp; (try with_reducible rfl)
                simp only [Act.put, List.setIfInBounds_toArray, List.set_cons_zero, List.set_cons_succ]
                refine wpAnyH_take (i := 4) (oi := { dst := some 75, op := Op.move (Operand.tmp 11), type := 4, pos := "ref.go:63", after := #[{ on := 3, ground := Ground.guard }], guard := some (3, true) }) (v := ?_) rfl (by kernel_rfl) (by kernel_rfl) (by kernel_rfl) (fun _ _ _ h => h) (Or.inl ⟨by rfl, ?_⟩) hHeld ?_
                rotate_left
                · intro w hSw; (try dsimp only at hSw); go_simp; (try with_reducible rfl)
                simp only [Act.put, List.setIfInBounds_toArray, List.set_cons_zero, List.set_cons_succ]
                refine wpAnyH_take (i := 5) (oi := { dst := some 76, op := Op.pick (Operand.tmp 74) (Operand.tmp 75) (Operand.const (Value.bool false)), type := 4, pos := "ref.go:63", after := #[{ on := 3, ground := Ground.data }, { on := 4, ground := Ground.data }], guard := none }) (v := ?_) rfl (by kernel_rfl) (by kernel_rfl) (by kernel_rfl) (fun _ _ _ h => h) (Or.inl ⟨by rfl, ?_⟩) hHeld ?_
                rotate_left
                · intro w hSw; (try dsimp only at hSw); go_simp; (try with_reducible rfl)
                simp only [Act.put, List.setIfInBounds_toArray, List.set_cons_zero, List.set_cons_succ]
                refine wpAnyH_take (i := 6) (oi := { dst := some 77, op := Op.move (Operand.tmp 76), type := 4, pos := "ref.go:63", after := #[{ on := 5, ground := Ground.data }, { on := 3, ground := Ground.chain }], guard := none }) (v := ?_) rfl (by kernel_rfl) (by kernel_rfl) (by kernel_rfl) (fun _ _ _ h => h) (Or.inl ⟨by rfl, ?_⟩) hHeld ?_
                rotate_left
                · intro w hSw; (try dsimp only at hSw); go_simp; (try with_reducible rfl)
                simp only [Act.put, List.setIfInBounds_toArray, List.set_cons_zero, List.set_cons_succ]
                refine wpAnyH_take (i := 7) (oi := { dst := some 78, op := Op.fieldAddr 29 (Operand.tmp 8) 1, type := 0, pos := "ref.go:63", after := #[{ on := 6, ground := Ground.guard }], guard := some (6, true) }) (v := undef) rfl (by kernel_rfl) (by kernel_rfl) (by kernel_rfl) (fun _ _ _ h => h) (Or.inr ⟨by rfl, rfl⟩) hHeld ?_
                simp only [Act.put, List.setIfInBounds_toArray, List.set_cons_zero, List.set_cons_succ]
                refine wpAnyH_take (i := 8) (oi := { dst := some 79, op := Op.load 4 (Operand.tmp 78), type := 4, pos := "ref.go:63", after := #[{ on := 7, ground := Ground.data }, { on := 6, ground := Ground.guard }], guard := some (6, true) }) (v := undef) rfl (by kernel_rfl) (by kernel_rfl) (by kernel_rfl) (fun _ _ _ h => h) (Or.inr ⟨by rfl, rfl⟩) hHeld ?_
                simp only [Act.put, List.setIfInBounds_toArray, List.set_cons_zero, List.set_cons_succ]
                refine wpAnyH_take (i := 9) (oi := { dst := some 80, op := Op.pick (Operand.tmp 77) (Operand.tmp 79) (Operand.const (Value.bool false)), type := 4, pos := "ref.go:63", after := #[{ on := 6, ground := Ground.data }, { on := 8, ground := Ground.data }], guard := none }) (v := ?_) rfl (by kernel_rfl) (by kernel_rfl) (by kernel_rfl) (fun _ _ _ h => h) (Or.inl ⟨by rfl, ?_⟩) hHeld ?_
                rotate_left
                · intro w hSw; (try dsimp only at hSw); go_simp; (try with_reducible rfl)
                simp only [Act.put, List.setIfInBounds_toArray, List.set_cons_zero, List.set_cons_succ]
                refine wpAnyH_take (i := 10) (oi := { dst := some 81, op := Op.move (Operand.tmp 80), type := 4, pos := "ref.go:63", after := #[{ on := 9, ground := Ground.data }, { on := 6, ground := Ground.chain }], guard := none }) (v := ?_) rfl (by kernel_rfl) (by kernel_rfl) (by kernel_rfl) (fun _ _ _ h => h) (Or.inl ⟨by rfl, ?_⟩) hHeld ?_
                rotate_left
                · intro w hSw; (try dsimp only at hSw); go_simp; (try with_reducible rfl)
                simp only [Act.put, List.setIfInBounds_toArray, List.set_cons_zero, List.set_cons_succ]
                refine wpAnyH_take (i := 11) (oi := { dst := some 82, op := Op.fieldAddr 29 (Operand.tmp 10) 1, type := 0, pos := "ref.go:63", after := #[{ on := 10, ground := Ground.guard }], guard := some (10, true) }) (v := undef) rfl (by kernel_rfl) (by kernel_rfl) (by kernel_rfl) (fun _ _ _ h => h) (Or.inr ⟨by rfl, rfl⟩) hHeld ?_
                simp only [Act.put, List.setIfInBounds_toArray, List.set_cons_zero, List.set_cons_succ]
                refine wpAnyH_take (i := 12) (oi := { dst := some 83, op := Op.load 4 (Operand.tmp 82), type := 4, pos := "ref.go:63", after := #[{ on := 11, ground := Ground.data }, { on := 10, ground := Ground.guard }], guard := some (10, true) }) (v := undef) rfl (by kernel_rfl) (by kernel_rfl) (by kernel_rfl) (fun _ _ _ h => h) (Or.inr ⟨by rfl, rfl⟩) hHeld ?_
                simp only [Act.put, List.setIfInBounds_toArray, List.set_cons_zero, List.set_cons_succ]
                refine wpAnyH_take (i := 13) (oi := { dst := some 84, op := Op.pick (Operand.tmp 81) (Operand.tmp 83) (Operand.const (Value.bool false)), type := 4, pos := "ref.go:63", after := #[{ on := 10, ground := Ground.data }, { on := 12, ground := Ground.data }], guard := none }) (v := ?_) rfl (by kernel_rfl) (by kernel_rfl) (by kernel_rfl) (fun _ _ _ h => h) (Or.inl ⟨by rfl, ?_⟩) hHeld ?_
                rotate_left
                · intro w hSw; (try dsimp only at hSw); go_simp; (try with_reducible rfl)
                simp only [Act.put, List.setIfInBounds_toArray, List.set_cons_zero, List.set_cons_succ]
                refine wpAnyH_take (i := 14) (oi := { dst := some 85, op := Op.fieldAddr 29 (Operand.tmp 8) 2, type := 0, pos := "ref.go:63", after := #[], guard := none }) (v := ?_) rfl (by kernel_rfl) (by kernel_rfl) (by kernel_rfl) (fun _ _ _ h => h) (Or.inl ⟨by rfl, ?_⟩) hHeld ?_
                rotate_left
                · intro w hSw; (try dsimp only at hSw); go_simp; (try with_reducible rfl)
                simp only [Act.put, List.setIfInBounds_toArray, List.set_cons_zero, List.set_cons_succ]
                refine wpAnyH_take (i := 15) (oi := { dst := some 86, op := Op.load 23 (Operand.tmp 85), type := 23, pos := "ref.go:63", after := #[{ on := 14, ground := Ground.data }], guard := none }) (v := ?_) rfl (by kernel_rfl) (by kernel_rfl) (by kernel_rfl) (fun _ _ _ h => h) (Or.inl ⟨by rfl, ?_⟩) hHeld ?_
                rotate_left
                · intro w hSw; (try dsimp only at hSw); go_simp; (try with_reducible rfl)
                simp only [Act.put, List.setIfInBounds_toArray, List.set_cons_zero, List.set_cons_succ]
                refine wpAnyH_take (i := 16) (oi := { dst := some 87, op := Op.fieldAddr 29 (Operand.tmp 10) 2, type := 0, pos := "ref.go:63", after := #[], guard := none }) (v := ?_) rfl (by kernel_rfl) (by kernel_rfl) (by kernel_rfl) (fun _ _ _ h => h) (Or.inl ⟨by rfl, ?_⟩) hHeld ?_
                rotate_left
                · intro w hSw; (try dsimp only at hSw); go_simp; (try with_reducible rfl)
                simp only [Act.put, List.setIfInBounds_toArray, List.set_cons_zero, List.set_cons_succ]
                refine wpAnyH_take (i := 17) (oi := { dst := some 88, op := Op.load 23 (Operand.tmp 87), type := 23, pos := "ref.go:63", after := #[{ on := 16, ground := Ground.data }], guard := none }) (v := ?_) rfl (by kernel_rfl) (by kernel_rfl) (by kernel_rfl) (fun _ _ _ h => h) (Or.inl ⟨by rfl, ?_⟩) hHeld ?_
                rotate_left
                · intro w hSw; (try dsimp only at hSw); go_simp; (try with_reducible rfl)
                simp only [Act.put, List.setIfInBounds_toArray, List.set_cons_zero, List.set_cons_succ]
                refine wpAnyH_ready (rs := [0, 18]) (by kernel_rfl) (by simp) ?_
                refine AllReadyH.cons (o := { dst := some 71, op := Op.load 25 (Operand.tmp 5), type := 25, pos := "ref.go:63", after := #[], guard := none }) rfl (fun K hK => ?_) (AllReadyH.cons (o := { dst := some 89, op := Op.call { callee := Callee.value (Operand.func 30), args := #[Operand.tmp 86, Operand.tmp 88], argTypes := #[23, 23] }, type := 23, pos := "ref.go:63", after := #[{ on := 15, ground := Ground.data }, { on := 17, ground := Ground.data }, { on := 10, ground := Ground.chain }], guard := none }) rfl (fun K hK => ?_) AllReadyH.nil)
                · obtain ⟨o0, o1, _⟩ := cells2 Fbo7.out
                  go_simp
                  clear o0 o1
                  refine hK.out _ _ (KH.out _ Fbf7.out Fbg7.out) (fun hHeld => ?_)
                  clear hK
                  refine wpAnyH_ready (rs := [18]) (by kernel_rfl) (by simp) ?_
                  refine AllReadyH.cons (o := { dst := some 89, op := Op.call { callee := Callee.value (Operand.func 30), args := #[Operand.tmp 86, Operand.tmp 88], argTypes := #[23, 23] }, type := 23, pos := "ref.go:63", after := #[{ on := 15, ground := Ground.data }, { on := 17, ground := Ground.data }, { on := 10, ground := Ground.chain }], guard := none }) rfl (fun K hK => ?_) AllReadyH.nil
                  go_simp
                  refine (runion_any V5.drew _ _ vsf vsg Ff7.out Fg7.out (Nat.le_trans Lf.out (by decide)) (Nat.le_trans Lg.out (by decide))).mono ?_
                  rintro e z8 ⟨v8, rfl, hA, hb⟩
                  have B8 := hid (B7.out.trans (hb.mono B7.out.size))
                  have Fa8 := hid (Fa7.out.bel hb)
                  have Fb8 := hid (Fb7.out.bel hb)
                  have Fo8 := hid (Fo7.out.bel hb)
                  have Fba8 := hid (bx_bel Fba7.out hb)
                  have Fbb8 := hid (bx_bel Fbb7.out hb)
                  have Fbr8 := hid (bx_bel Fbr7.out hb)
                  have Fbo8 := hid (bx_bel Fbo7.out hb)
                  have Ff8 := hid (Ff7.out.bel hb)
                  have Fbf8 := hid (bx_bel Fbf7.out hb)
                  have Fg8 := hid (Fg7.out.bel hb)
                  have Fbg8 := hid (bx_bel Fbg7.out hb)
                  clear B7 Fa7 Fb7 Fo7 Fba7 Fbb7 Fbr7 Fbo7 Ff7 Fbf7 Fg7 Fbg7
                  obtain ⟨vu, hvu⟩ : ∃ l, M.norm (vsf ++ vsg) = l := ⟨_, rfl⟩
                  have hul : vu.length ≤ 20000 := by rw [← hvu]; have h := M.norm_length (vsf ++ vsg); rw [List.length_append] at h; have := Lf.out; have := Lg.out; omega
                  have HUL := hid hul
                  rw [hvu] at hA
                  have HJ3 : Hid (M.jf s.fs t.fs xn = ⟨xn, false, vu⟩) := by unfold Hid; rw [HJ2.out, hvu]
                  obtain ⟨qu, mu, rfl⟩ := hA.form
                  have Fu8 : Hid (AtAt z8 (.slice qu vu.length mu) vu) := hid hA
                  clear hA hvu hul hb
                  refine hK.out _ _ (KH.out _ Fbf8.out Fbg8.out) (fun hHeld => ?_)
                  clear hK
                  refine wpAnyH_take (i := 19) (oi := { dst := some 90, op := Op.build 29 #[(0, Operand.tmp 72), (1, Operand.tmp 84), (2, Operand.tmp 89)], type := 29, pos := "ref.go:63", after := #[{ on := 1, ground := Ground.data }, { on := 13, ground := Ground.data }, { on := 18, ground := Ground.data }], guard := none }) (v := ?_) rfl (by kernel_rfl) (by kernel_rfl) (by kernel_rfl) (fun _ _ _ h => h) (Or.inl ⟨by rfl, ?_⟩) hHeld ?_
                  rotate_left
                  · intro w hSw; (try dsimp only at hSw); go_simp; (try with_reducible rfl)
                  simp only [Act.put, List.setIfInBounds_toArray, List.set_cons_zero, List.set_cons_succ]
                  refine wpAnyH_ready (rs := [20]) (by kernel_rfl) (by simp) ?_
                  refine AllReadyH.cons (o := { dst := some 91, op := Op.call { callee := Callee.value (Operand.func 37), args := #[Operand.tmp 71, Operand.tmp 90], argTypes := #[25, 29] }, type := 25, pos := "ref.go:63", after := #[{ on := 0, ground := Ground.data }, { on := 19, ground := Ground.data }, { on := 18, ground := Ground.chain }], guard := none }) rfl (fun K hK => ?_) AllReadyH.nil
                  go_simp
                  refine (rwith_any z8 _ ⟨acc, pn⟩ xn false vu qu mu Fo8.out Fu8.out (M.sm_mono HSM.out (by omega)) HRI.out).mono ?_
                  rintro e z9 ⟨v9, rfl, hsh, hb⟩
                  have B9 := hid (B8.out.trans (hb.mono B8.out.size))
                  have Fa9 := hid (Fa8.out.bel hb)
                  have Fb9 := hid (Fb8.out.bel hb)
                  have Fo9 := hid (Fo8.out.bel hb)
                  have Fba9 := hid (bx_bel Fba8.out hb)
                  have Fbb9 := hid (bx_bel Fbb8.out hb)
                  have Fbr9 := hid (bx_bel Fbr8.out hb)
                  have Fbo9 := hid (bx_bel Fbo8.out hb)
                  have Ff9 := hid (Ff8.out.bel hb)
                  have Fbf9 := hid (bx_bel Fbf8.out hb)
                  have Fg9 := hid (Fg8.out.bel hb)
                  have Fbg9 := hid (bx_bel Fbg8.out hb)
                  have Fu9 := hid (Fu8.out.bel hb)
                  clear B8 Fa8 Fb8 Fo8 Fba8 Fbb8 Fbr8 Fbo8 Ff8 Fbf8 Fg8 Fbg8 Fu8
                  obtain ⟨acc2, hacc2⟩ : ∃ l, M.withF ⟨xn, false, vu⟩ acc = l := ⟨_, rfl⟩
                  rw [hacc2] at hsh
                  have HA2 := hid hacc2
                  obtain ⟨qn, mn, qn2, mn2, rfl⟩ := hsh.form
                  have Fn9 : Hid (ShAt z9 (.agg #[.slice qn acc2.length mn, .slice qn2 pn.length mn2]) ⟨acc2, pn⟩) := hid hsh
                  clear hsh hacc2 hb
                  refine hK.out _ _ (KH.out _ Fbf9.out Fbg9.out) (fun hHeld => ?_)
                  clear hK
                  refine wpAnyH_ready (rs := [21]) (by kernel_rfl) (by simp) ?_
                  refine AllReadyH.cons (o := { dst := none, op := Op.store 25 (Operand.tmp 5) (Operand.tmp 91), type := 0, pos := "ref.go:63", after := #[{ on := 20, ground := Ground.data }, { on := 20, ground := Ground.chain }, { on := 0, ground := Ground.phase }, { on := 1, ground := Ground.phase }, { on := 2, ground := Ground.phase }, { on := 3, ground := Ground.phase }, { on := 4, ground := Ground.phase }, { on := 5, ground := Ground.phase }, { on := 6, ground := Ground.phase }, { on := 7, ground := Ground.phase }, { on := 8, ground := Ground.phase }, { on := 9, ground := Ground.phase }, { on := 10, ground := Ground.phase }, { on := 11, ground := Ground.phase }, { on := 12, ground := Ground.phase }, { on := 13, ground := Ground.phase }, { on := 14, ground := Ground.phase }, { on := 15, ground := Ground.phase }, { on := 16, ground := Ground.phase }, { on := 17, ground := Ground.phase }, { on := 18, ground := Ground.phase }, { on := 19, ground := Ground.phase }, { on := 20, ground := Ground.phase }], guard := none }) rfl (fun K hK => ?_) AllReadyH.nil
                  obtain ⟨o0, o1, _⟩ := cells2 Fbo9.out
                  go_simp
                  clear o0 o1
                  obtain ⟨z10, hzz10⟩ : ∃ W, ((z9.setCell ⟨g5, 0, none⟩ (.slice qn acc2.length mn)).setCell ⟨g5, 1, none⟩ (.slice qn2 pn.length mn2)) = W := ⟨_, rfl⟩
                  have B10 : Hid (Below w.heap.size w z10) := by unfold Hid; rw [← hzz10]; exact set2b B9.out (by have := HG5.out; omega) _ _
                  have Fba10 := hid ((congrArg (fun W : World => W.heap[w.heap.size]?) hzz10).symm.trans ((box_off (by have := HG5.out; omega) _ _).trans Fba9.out))
                  have Fbb10 := hid ((congrArg (fun W : World => W.heap[w.heap.size + 1]?) hzz10).symm.trans ((box_off (by have := HG5.out; omega) _ _).trans Fbb9.out))
                  have Fbr10 := hid ((congrArg (fun W : World => W.heap[w.heap.size + 2]?) hzz10).symm.trans ((box_off (by have := HG5.out; omega) _ _).trans Fbr9.out))
                  have Fbf10 := hid ((congrArg (fun W : World => W.heap[w1.heap.size]?) hzz10).symm.trans ((box_off (Nat.ne_of_gt HGf.out) _ _).trans Fbf9.out))
                  have Fbg10 := hid ((congrArg (fun W : World => W.heap[w4.heap.size]?) hzz10).symm.trans ((box_off (Nat.ne_of_gt HGg.out) _ _).trans Fbg9.out))
                  have Fbo10 := hid ((congrArg (fun W : World => W.heap[g5]?) hzz10).symm.trans (box_set2 Fbo9.out _ _))
                  have Fn10 : Hid (ShAt z10 (.agg #[.slice qn acc2.length mn, .slice qn2 pn.length mn2]) ⟨acc2, pn⟩) := by unfold Hid; rw [← hzz10]; exact Fn9.out.off2 Fbo9.out _ _
                  try rw [hzz10]
                  clear hzz10
                  refine hK.out _ _ (KH.out _ Fbf10.out Fbg10.out) (fun hHeld => ?_)
                  clear hK
                  refine wpAnyH_done (by kernel_rfl) ?_ _
                  clear hHeld KH
                  go_wp2
                  refine ⟨⟨j + 1, acc2, qn, mn, qn2, mn2, by omega, by go_num, B10, Fba10, Fbb10, Fbr10, Fbo10, Fn10, ?_, ?_⟩, by simp [intOf]; omega⟩
                  · unfold Hid
                    rw [← HA2.out, HTK.out, List.foldl_append, ← HACC.out]
                    show _ = M.withF (M.jf s.fs t.fs xn) acc
                    rw [HJ3.out]
                  · unfold Hid
                    rw [← HA2.out]
                    exact M.sm_with HSM.out (by omega) (by have := HUL.out; show vu.length ≤ _; omega)
                · go_simp
                  refine (runion_any V5.drew _ _ vsf vsg Ff7.out Fg7.out (Nat.le_trans Lf.out (by decide)) (Nat.le_trans Lg.out (by decide))).mono ?_
                  rintro e z8 ⟨v8, rfl, hA, hb⟩
                  have B8 := hid (B7.out.trans (hb.mono B7.out.size))
                  have Fa8 := hid (Fa7.out.bel hb)
                  have Fb8 := hid (Fb7.out.bel hb)
                  have Fo8 := hid (Fo7.out.bel hb)
                  have Fba8 := hid (bx_bel Fba7.out hb)
                  have Fbb8 := hid (bx_bel Fbb7.out hb)
                  have Fbr8 := hid (bx_bel Fbr7.out hb)
                  have Fbo8 := hid (bx_bel Fbo7.out hb)
                  have Ff8 := hid (Ff7.out.bel hb)
                  have Fbf8 := hid (bx_bel Fbf7.out hb)
                  have Fg8 := hid (Fg7.out.bel hb)
                  have Fbg8 := hid (bx_bel Fbg7.out hb)
                  clear B7 Fa7 Fb7 Fo7 Fba7 Fbb7 Fbr7 Fbo7 Ff7 Fbf7 Fg7 Fbg7
                  obtain ⟨vu, hvu⟩ : ∃ l, M.norm (vsf ++ vsg) = l := ⟨_, rfl⟩
                  have hul : vu.length ≤ 20000 := by rw [← hvu]; have h := M.norm_length (vsf ++ vsg); rw [List.length_append] at h; have := Lf.out; have := Lg.out; omega
                  have HUL := hid hul
                  rw [hvu] at hA
                  have HJ3 : Hid (M.jf s.fs t.fs xn = ⟨xn, false, vu⟩) := by unfold Hid; rw [HJ2.out, hvu]
                  obtain ⟨qu, mu, rfl⟩ := hA.form
                  have Fu8 : Hid (AtAt z8 (.slice qu vu.length mu) vu) := hid hA
                  clear hA hvu hul hb
                  refine hK.out _ _ (KH.out _ Fbf8.out Fbg8.out) (fun hHeld => ?_)
                  clear hK
                  refine wpAnyH_take (i := 19) (oi := { dst := some 90, op := Op.build 29 #[(0, Operand.tmp 72), (1, Operand.tmp 84), (2, Operand.tmp 89)], type := 29, pos := "ref.go:63", after := #[{ on := 1, ground := Ground.data }, { on := 13, ground := Ground.data }, { on := 18, ground := Ground.data }], guard := none }) (v := ?_) rfl (by kernel_rfl) (by kernel_rfl) (by kernel_rfl) (fun _ _ _ h => h) (Or.inl ⟨by rfl, ?_⟩) hHeld ?_
                  rotate_left
                  · intro w hSw; (try dsimp only at hSw); go_simp; (try with_reducible rfl)
                  simp only [Act.put, List.setIfInBounds_toArray, List.set_cons_zero, List.set_cons_succ]
                  refine wpAnyH_ready (rs := [0]) (by kernel_rfl) (by simp) ?_
                  refine AllReadyH.cons (o := { dst := some 71, op := Op.load 25 (Operand.tmp 5), type := 25, pos := "ref.go:63", after := #[], guard := none }) rfl (fun K hK => ?_) AllReadyH.nil
                  obtain ⟨o0, o1, _⟩ := cells2 Fbo8.out
                  go_simp
                  clear o0 o1
                  refine hK.out _ _ (KH.out _ Fbf8.out Fbg8.out) (fun hHeld => ?_)
                  clear hK
                  refine wpAnyH_ready (rs := [20]) (by kernel_rfl) (by simp) ?_
                  refine AllReadyH.cons (o := { dst := some 91, op := Op.call { callee := Callee.value (Operand.func 37), args := #[Operand.tmp 71, Operand.tmp 90], argTypes := #[25, 29] }, type := 25, pos := "ref.go:63", after := #[{ on := 0, ground := Ground.data }, { on := 19, ground := Ground.data }, { on := 18, ground := Ground.chain }], guard := none }) rfl (fun K hK => ?_) AllReadyH.nil
                  go_simp
                  refine (rwith_any z8 _ ⟨acc, pn⟩ xn false vu qu mu Fo8.out Fu8.out (M.sm_mono HSM.out (by omega)) HRI.out).mono ?_
                  rintro e z9 ⟨v9, rfl, hsh, hb⟩
                  have B9 := hid (B8.out.trans (hb.mono B8.out.size))
                  have Fa9 := hid (Fa8.out.bel hb)
                  have Fb9 := hid (Fb8.out.bel hb)
                  have Fo9 := hid (Fo8.out.bel hb)
                  have Fba9 := hid (bx_bel Fba8.out hb)
                  have Fbb9 := hid (bx_bel Fbb8.out hb)
                  have Fbr9 := hid (bx_bel Fbr8.out hb)
                  have Fbo9 := hid (bx_bel Fbo8.out hb)
                  have Ff9 := hid (Ff8.out.bel hb)
                  have Fbf9 := hid (bx_bel Fbf8.out hb)
                  have Fg9 := hid (Fg8.out.bel hb)
                  have Fbg9 := hid (bx_bel Fbg8.out hb)
                  have Fu9 := hid (Fu8.out.bel hb)
                  clear B8 Fa8 Fb8 Fo8 Fba8 Fbb8 Fbr8 Fbo8 Ff8 Fbf8 Fg8 Fbg8 Fu8
                  obtain ⟨acc2, hacc2⟩ : ∃ l, M.withF ⟨xn, false, vu⟩ acc = l := ⟨_, rfl⟩
                  rw [hacc2] at hsh
                  have HA2 := hid hacc2
                  obtain ⟨qn, mn, qn2, mn2, rfl⟩ := hsh.form
                  have Fn9 : Hid (ShAt z9 (.agg #[.slice qn acc2.length mn, .slice qn2 pn.length mn2]) ⟨acc2, pn⟩) := hid hsh
                  clear hsh hacc2 hb
                  refine hK.out _ _ (KH.out _ Fbf9.out Fbg9.out) (fun hHeld => ?_)
                  clear hK
                  refine wpAnyH_ready (rs := [21]) (by kernel_rfl) (by simp) ?_
                  refine AllReadyH.cons (o := { dst := none, op := Op.store 25 (Operand.tmp 5) (Operand.tmp 91), type := 0, pos := "ref.go:63", after := #[{ on := 20, ground := Ground.data }, { on := 20, ground := Ground.chain }, { on := 0, ground := Ground.phase }, { on := 1, ground := Ground.phase }, { on := 2, ground := Ground.phase }, { on := 3, ground := Ground.phase }, { on := 4, ground := Ground.phase }, { on := 5, ground := Ground.phase }, { on := 6, ground := Ground.phase }, { on := 7, ground := Ground.phase }, { on := 8, ground := Ground.phase }, { on := 9, ground := Ground.phase }, { on := 10, ground := Ground.phase }, { on := 11, ground := Ground.phase }, { on := 12, ground := Ground.phase }, { on := 13, ground := Ground.phase }, { on := 14, ground := Ground.phase }, { on := 15, ground := Ground.phase }, { on := 16, ground := Ground.phase }, { on := 17, ground := Ground.phase }, { on := 18, ground := Ground.phase }, { on := 19, ground := Ground.phase }, { on := 20, ground := Ground.phase }], guard := none }) rfl (fun K hK => ?_) AllReadyH.nil
                  obtain ⟨o0, o1, _⟩ := cells2 Fbo9.out
                  go_simp
                  clear o0 o1
                  obtain ⟨z10, hzz10⟩ : ∃ W, ((z9.setCell ⟨g5, 0, none⟩ (.slice qn acc2.length mn)).setCell ⟨g5, 1, none⟩ (.slice qn2 pn.length mn2)) = W := ⟨_, rfl⟩
                  have B10 : Hid (Below w.heap.size w z10) := by unfold Hid; rw [← hzz10]; exact set2b B9.out (by have := HG5.out; omega) _ _
                  have Fba10 := hid ((congrArg (fun W : World => W.heap[w.heap.size]?) hzz10).symm.trans ((box_off (by have := HG5.out; omega) _ _).trans Fba9.out))
                  have Fbb10 := hid ((congrArg (fun W : World => W.heap[w.heap.size + 1]?) hzz10).symm.trans ((box_off (by have := HG5.out; omega) _ _).trans Fbb9.out))
                  have Fbr10 := hid ((congrArg (fun W : World => W.heap[w.heap.size + 2]?) hzz10).symm.trans ((box_off (by have := HG5.out; omega) _ _).trans Fbr9.out))
                  have Fbf10 := hid ((congrArg (fun W : World => W.heap[w1.heap.size]?) hzz10).symm.trans ((box_off (Nat.ne_of_gt HGf.out) _ _).trans Fbf9.out))
                  have Fbg10 := hid ((congrArg (fun W : World => W.heap[w4.heap.size]?) hzz10).symm.trans ((box_off (Nat.ne_of_gt HGg.out) _ _).trans Fbg9.out))
                  have Fbo10 := hid ((congrArg (fun W : World => W.heap[g5]?) hzz10).symm.trans (box_set2 Fbo9.out _ _))
                  have Fn10 : Hid (ShAt z10 (.agg #[.slice qn acc2.length mn, .slice qn2 pn.length mn2]) ⟨acc2, pn⟩) := by unfold Hid; rw [← hzz10]; exact Fn9.out.off2 Fbo9.out _ _
                  try rw [hzz10]
                  clear hzz10
                  refine hK.out _ _ (KH.out _ Fbf10.out Fbg10.out) (fun hHeld => ?_)
                  clear hK
                  refine wpAnyH_done (by kernel_rfl) ?_ _
                  clear hHeld KH
                  go_wp2
                  refine ⟨⟨j + 1, acc2, qn, mn, qn2, mn2, by omega, by go_num, B10, Fba10, Fbb10, Fbr10, Fbo10, Fn10, ?_, ?_⟩, by simp [intOf]; omega⟩
                  · unfold Hid
                    rw [← HA2.out, HTK.out, List.foldl_append, ← HACC.out]
                    show _ = M.withF (M.jf s.fs t.fs xn) acc
                    rw [HJ3.out]
                  · unfold Hid
                    rw [← HA2.out]
                    exact M.sm_with HSM.out (by omega) (by have := HUL.out; show vu.length ≤ _; omega)
              · rcases suf with _ | _
                · have HJ2 : Hid (M.jf s.fs t.fs xn = ⟨xn, false, M.norm (vsf ++ vsg)⟩) := by unfold Hid; rw [HJF.out]; simp
                  clear HJF
                  obtain ⟨xba0, xba1, _⟩ := cells2 Fba6.out
                  obtain ⟨xbb0, xbb1, _⟩ := cells2 Fbb6.out
                  obtain ⟨xbr0, xbr1, _⟩ := cells2 Fbr6.out
                  obtain ⟨xbo0, xbo1, _⟩ := cells2 Fbo6.out
                  obtain ⟨xbf0, xbf1, xbf2, _⟩ := cells3 Fbf6.out
                  obtain ⟨xbg0, xbg1, xbg2, _⟩ := cells3 Nbg.out
                  go_wp2_with fail
                  clear xba0 xba1 xbb0 xbb1 xbr0 xbr1 xbo0 xbo1 xbf0 xbf1 xbf2 xbg0 xbg1 xbg2
                  clear hV5
                  have KH : Hid (∀ W : World, W.heap[w1.heap.size]? = some (.cells #[.string nmf, .bool false, .slice yaf vsf.length ycf] 29 (0, 0)) → W.heap[w4.heap.size]? = some (.cells #[.string nmg, .bool sug, .slice yag vsg.length ycg] 29 (0, 0)) → (W.cell? ⟨w1.heap.size, 0, none⟩ = some (.string nmf) ∧ W.cell? ⟨w1.heap.size, 1, none⟩ = some (.bool false) ∧ W.cell? ⟨w1.heap.size, 2, none⟩ = some (.slice yaf vsf.length ycf) ∧ W.cell? ⟨w4.heap.size, 0, none⟩ = some (.string nmg) ∧ W.cell? ⟨w4.heap.size, 1, none⟩ = some (.bool sug) ∧ W.cell? ⟨w4.heap.size, 2, none⟩ = some (.slice yag vsg.length ycg))) := fun W h1 h2 => by
                    obtain ⟨e0, e1, e2, _⟩ := cells3 h1
                    obtain ⟨e3, e4, e5, _⟩ := cells3 h2
                    exact ⟨e0, e1, e2, e3, e4, e5⟩
                  have hbd : Below V5.heap.size V5 V5.drew := (Gr.refl _).drew.below
                  refine wp_region_held_drew (S := fun W => W.cell? ⟨w1.heap.size, 0, none⟩ = some (.string nmf) ∧ W.cell? ⟨w1.heap.size, 1, none⟩ = some (.bool false) ∧ W.cell? ⟨w1.heap.size, 2, none⟩ = some (.slice yaf vsf.length ycf) ∧ W.cell? ⟨w4.heap.size, 0, none⟩ = some (.string nmg) ∧ W.cell? ⟨w4.heap.size, 1, none⟩ = some (.bool sug) ∧ W.cell? ⟨w4.heap.size, 2, none⟩ = some (.slice yag vsg.length ycg)) (by kernel_rfl) (KH.out _ (bx_bel0 Fbf6.out hbd) (bx_bel0 Nbg.out hbd)) (fun hHeld => ?_)
                  have B7 := hid (B6.out.trans (hbd.mono B6.out.size))
                  have Fa7 := hid (Fa6.out.bel hbd)
                  have Fb7 := hid (Fb6.out.bel hbd)
                  have Fo7 := hid (Fo6.out.bel hbd)
                  have Fba7 := hid (bx_bel Fba6.out hbd)
                  have Fbb7 := hid (bx_bel Fbb6.out hbd)
                  have Fbr7 := hid (bx_bel Fbr6.out hbd)
                  have Fbo7 := hid (bx_bel Fbo6.out hbd)
                  have Ff7 := hid (Ff6.out.bel hbd)
                  have Fbf7 := hid (bx_bel Fbf6.out hbd)
                  have Fg7 := hid (Fg6.out.bel hbd)
                  have Fbg7 := hid (bx_bel Nbg.out hbd)
                  clear B6 Fa6 Fb6 Fo6 Fba6 Fbb6 Fbr6 Fbo6 Ff6 Fbf6 Fg6 Nbg
                  clear hbd
                  refine wpAnyH_take (i := 1) (oi := { dst := some 72, op := Op.move (Operand.tmp 7), type := 9, pos := "ref.go:63", after := #[], guard := none }) (v := ?_) rfl (by kernel_rfl) (by kernel_rfl) (by kernel_rfl) (fun _ _ _ h => h) (Or.inl ⟨by rfl, ?_⟩) hHeld ?_
                  rotate_left
                  · intro w hSw; (try dsimp only at hSw); go_simp; (try with_reducible rfl)
                  simp only [Act.put, List.setIfInBounds_toArray, List.set_cons_zero, List.set_cons_succ]
                  refine wpAnyH_take (i := 2) (oi := { dst := some 73, op := Op.move (Operand.tmp 9), type := 4, pos := "ref.go:63", after := #[], guard := none }) (v := ?_) rfl (by kernel_rfl) (by kernel_rfl) (by kernel_rfl) (fun _ _ _ h => h) (Or.inl ⟨by rfl, ?_⟩) hHeld ?_
                  rotate_left
                  · intro w hSw; (try dsimp only at hSw); go_simp; (try with_reducible rfl)
                  simp only [Act.put, List.setIfInBounds_toArray, List.set_cons_zero, List.set_cons_succ]
                  refine wpAnyH_take (i := 3) (oi := { dst := some 74, op := Op.move (Operand.tmp 73), type := 4, pos := "ref.go:63", after := #[{ on := 2, ground := Ground.data }], guard := none }) (v := ?_) rfl (by kernel_rfl) (by kernel_rfl) (by kernel_rfl) (fun _ _ _ h => h) (Or.inl ⟨by rfl, ?_⟩) hHeld ?_
                  rotate_left
                  · intro w hSw; (try dsimp only at hSw); go_simp; (try with_reducible rfl)
                  simp only [Act.put, List.setIfInBounds_toArray, List.set_cons_zero, List.set_cons_succ]
                  refine wpAnyH_take (i := 4) (oi := { dst := some 75, op := Op.move (Operand.tmp 11), type := 4, pos := "ref.go:63", after := #[{ on := 3, ground := Ground.guard }], guard := some (3, true) }) (v := ?_) rfl (by kernel_rfl) (by kernel_rfl) (by kernel_rfl) (fun _ _ _ h => h) (Or.inl ⟨by rfl, ?_⟩) hHeld ?_
                  rotate_left
                  · intro w hSw; (try dsimp only at hSw); go_simp; (try with_reducible rfl)
                  simp only [Act.put, List.setIfInBounds_toArray, List.set_cons_zero, List.set_cons_succ]
                  refine wpAnyH_take (i := 5) (oi := { dst := some 76, op := Op.pick (Operand.tmp 74) (Operand.tmp 75) (Operand.const (Value.bool false)), type := 4, pos := "ref.go:63", after := #[{ on := 3, ground := Ground.data }, { on := 4, ground := Ground.data }], guard := none }) (v := ?_) rfl (by kernel_rfl) (by kernel_rfl) (by kernel_rfl) (fun _ _ _ h => h) (Or.inl ⟨by rfl, ?_⟩) hHeld ?_
                  rotate_left
                  · intro w hSw; (try dsimp only at hSw); go_simp; (try with_reducible rfl)
                  simp only [Act.put, List.setIfInBounds_toArray, List.set_cons_zero, List.set_cons_succ]
                  refine wpAnyH_take (i := 6) (oi := { dst := some 77, op := Op.move (Operand.tmp 76), type := 4, pos := "ref.go:63", after := #[{ on := 5, ground := Ground.data }, { on := 3, ground := Ground.chain }], guard := none }) (v := ?_) rfl (by kernel_rfl) (by kernel_rfl) (by kernel_rfl) (fun _ _ _ h => h) (Or.inl ⟨by rfl, ?_⟩) hHeld ?_
                  rotate_left
                  · intro w hSw; (try dsimp only at hSw); go_simp; (try with_reducible rfl)
                  simp only [Act.put, List.setIfInBounds_toArray, List.set_cons_zero, List.set_cons_succ]
                  refine wpAnyH_take (i := 7) (oi := { dst := some 78, op := Op.fieldAddr 29 (Operand.tmp 8) 1, type := 0, pos := "ref.go:63", after := #[{ on := 6, ground := Ground.guard }], guard := some (6, true) }) (v := ?_) rfl (by kernel_rfl) (by kernel_rfl) (by kernel_rfl) (fun _ _ _ h => h) (Or.inl ⟨by rfl, ?_⟩) hHeld ?_
                  rotate_left
                  · intro w hSw; (try dsimp only at hSw); go_simp; (try with_reducible rfl)
                  simp only [Act.put, List.setIfInBounds_toArray, List.set_cons_zero, List.set_cons_succ]
                  refine wpAnyH_take (i := 8) (oi := { dst := some 79, op := Op.load 4 (Operand.tmp 78), type := 4, pos := "ref.go:63", after := #[{ on := 7, ground := Ground.data }, { on := 6, ground := Ground.guard }], guard := some (6, true) }) (v := ?_) rfl (by kernel_rfl) (by kernel_rfl) (by kernel_rfl) (fun _ _ _ h => h) (Or.inl ⟨by rfl, ?_⟩) hHeld ?_
                  rotate_left
                  · intro w hSw; (try dsimp only at hSw); go_simp; (try with_reducible rfl)
                  simp only [Act.put, List.setIfInBounds_toArray, List.set_cons_zero, List.set_cons_succ]
                  refine wpAnyH_take (i := 9) (oi := { dst := some 80, op := Op.pick (Operand.tmp 77) (Operand.tmp 79) (Operand.const (Value.bool false)), type := 4, pos := "ref.go:63", after := #[{ on := 6, ground := Ground.data }, { on := 8, ground := Ground.data }], guard := none }) (v := ?_) rfl (by kernel_rfl) (by kernel_rfl) (by kernel_rfl) (fun _ _ _ h => h) (Or.inl ⟨by rfl, ?_⟩) hHeld ?_
                  rotate_left
                  · intro w hSw; (try dsimp only at hSw); go_simp; (try with_reducible rfl)
                  simp only [Act.put, List.setIfInBounds_toArray, List.set_cons_zero, List.set_cons_succ]
                  refine wpAnyH_take (i := 10) (oi := { dst := some 81, op := Op.move (Operand.tmp 80), type := 4, pos := "ref.go:63", after := #[{ on := 9, ground := Ground.data }, { on := 6, ground := Ground.chain }], guard := none }) (v := ?_) rfl (by kernel_rfl) (by kernel_rfl) (by kernel_rfl) (fun _ _ _ h => h) (Or.inl ⟨by rfl, ?_⟩) hHeld ?_
                  rotate_left
                  · intro w hSw; (try dsimp only at hSw); go_simp; (try with_reducible rfl)
                  simp only [Act.put, List.setIfInBounds_toArray, List.set_cons_zero, List.set_cons_succ]
                  refine wpAnyH_take (i := 11) (oi := { dst := some 82, op := Op.fieldAddr 29 (Operand.tmp 10) 1, type := 0, pos := "ref.go:63", after := #[{ on := 10, ground := Ground.guard }], guard := some (10, true) }) (v := undef) rfl (by kernel_rfl) (by kernel_rfl) (by kernel_rfl) (fun _ _ _ h => h) (Or.inr ⟨by rfl, rfl⟩) hHeld ?_
                  simp only [Act.put, List.setIfInBounds_toArray, List.set_cons_zero, List.set_cons_succ]
                  refine wpAnyH_take (i := 12) (oi := { dst := some 83, op := Op.load 4 (Operand.tmp 82), type := 4, pos := "ref.go:63", after := #[{ on := 11, ground := Ground.data }, { on := 10, ground := Ground.guard }], guard := some (10, true) }) (v := undef) rfl (by kernel_rfl) (by kernel_rfl) (by kernel_rfl) (fun _ _ _ h => h) (Or.inr ⟨by rfl, rfl⟩) hHeld ?_
                  simp only [Act.put, List.setIfInBounds_toArray, List.set_cons_zero, List.set_cons_succ]
                  refine wpAnyH_take (i := 13) (oi := { dst := some 84, op := Op.pick (Operand.tmp 81) (Operand.tmp 83) (Operand.const (Value.bool false)), type := 4, pos := "ref.go:63", after := #[{ on := 10, ground := Ground.data }, { on := 12, ground := Ground.data }], guard := none }) (v := ?_) rfl (by kernel_rfl) (by kernel_rfl) (by kernel_rfl) (fun _ _ _ h => h) (Or.inl ⟨by rfl, ?_⟩) hHeld ?_
                  rotate_left
                  · intro w hSw; (try dsimp only at hSw); go_simp; (try with_reducible rfl)
                  simp only [Act.put, List.setIfInBounds_toArray, List.set_cons_zero, List.set_cons_succ]
                  refine wpAnyH_take (i := 14) (oi := { dst := some 85, op := Op.fieldAddr 29 (Operand.tmp 8) 2, type := 0, pos := "ref.go:63", after := #[], guard := none }) (v := ?_) rfl (by kernel_rfl) (by kernel_rfl) (by kernel_rfl) (fun _ _ _ h => h) (Or.inl ⟨by rfl, ?_⟩) hHeld ?_
                  rotate_left
                  · intro w hSw; (try dsimp only at hSw); go_simp; (try with_reducible rfl)
                  simp only [Act.put, List.setIfInBounds_toArray, List.set_cons_zero, List.set_cons_succ]
                  refine wpAnyH_take (i := 15) (oi := { dst := some 86, op := Op.load 23 (Operand.tmp 85), type := 23, pos := "ref.go:63", after := #[{ on := 14, ground := Ground.data }], guard := none }) (v := ?_) rfl (by kernel_rfl) (by kernel_rfl) (by kernel_rfl) (fun _ _ _ h => h) (Or.inl ⟨by rfl, ?_⟩) hHeld ?_
                  rotate_left
                  · intro w hSw; (try dsimp only at hSw); go_simp; (try with_reducible rfl)
                  simp only [Act.put, List.setIfInBounds_toArray, List.set_cons_zero, List.set_cons_succ]
                  refine wpAnyH_take (i := 16) (oi := { dst := some 87, op := Op.fieldAddr 29 (Operand.tmp 10) 2, type := 0, pos := "ref.go:63", after := #[], guard := none }) (v := ?_) rfl (by kernel_rfl) (by kernel_rfl) (by kernel_rfl) (fun _ _ _ h => h) (Or.inl ⟨by rfl, ?_⟩) hHeld ?_
                  rotate_left
                  · intro w hSw; (try dsimp only at hSw); go_simp; (try with_reducible rfl)
                  simp only [Act.put, List.setIfInBounds_toArray, List.set_cons_zero, List.set_cons_succ]
                  refine wpAnyH_take (i := 17) (oi := { dst := some 88, op := Op.load 23 (Operand.tmp 87), type := 23, pos := "ref.go:63", after := #[{ on := 16, ground := Ground.data }], guard := none }) (v := ?_) rfl (by kernel_rfl) (by kernel_rfl) (by kernel_rfl) (fun _ _ _ h => h) (Or.inl ⟨by rfl, ?_⟩) hHeld ?_
                  rotate_left
                  · intro w hSw; (try dsimp only at hSw); go_simp; (try with_reducible rfl)
                  simp only [Act.put, List.setIfInBounds_toArray, List.set_cons_zero, List.set_cons_succ]
                  refine wpAnyH_ready (rs := [0, 18]) (by kernel_rfl) (by simp) ?_
                  refine AllReadyH.cons (o := { dst := some 71, op := Op.load 25 (Operand.tmp 5), type := 25, pos := "ref.go:63", after := #[], guard := none }) rfl (fun K hK => ?_) (AllReadyH.cons (o := { dst := some 89, op := Op.call { callee := Callee.value (Operand.func 30), args := #[Operand.tmp 86, Operand.tmp 88], argTypes := #[23, 23] }, type := 23, pos := "ref.go:63", after := #[{ on := 15, ground := Ground.data }, { on := 17, ground := Ground.data }, { on := 10, ground := Ground.chain }], guard := none }) rfl (fun K hK => ?_) AllReadyH.nil)
                  · obtain ⟨o0, o1, _⟩ := cells2 Fbo7.out
                    go_simp
                    clear o0 o1
                    refine hK.out _ _ (KH.out _ Fbf7.out Fbg7.out) (fun hHeld => ?_)
                    clear hK
                    refine wpAnyH_ready (rs := [18]) (by kernel_rfl) (by simp) ?_
                    refine AllReadyH.cons (o := { dst := some 89, op := Op.call { callee := Callee.value (Operand.func 30), args := #[Operand.tmp 86, Operand.tmp 88], argTypes := #[23, 23] }, type := 23, pos := "ref.go:63", after := #[{ on := 15, ground := Ground.data }, { on := 17, ground := Ground.data }, { on := 10, ground := Ground.chain }], guard := none }) rfl (fun K hK => ?_) AllReadyH.nil
                    go_simp
                    refine (runion_any V5.drew _ _ vsf vsg Ff7.out Fg7.out (Nat.le_trans Lf.out (by decide)) (Nat.le_trans Lg.out (by decide))).mono ?_
                    rintro e z8 ⟨v8, rfl, hA, hb⟩
                    have B8 := hid (B7.out.trans (hb.mono B7.out.size))
                    have Fa8 := hid (Fa7.out.bel hb)
                    have Fb8 := hid (Fb7.out.bel hb)
                    have Fo8 := hid (Fo7.out.bel hb)
                    have Fba8 := hid (bx_bel Fba7.out hb)
                    have Fbb8 := hid (bx_bel Fbb7.out hb)
                    have Fbr8 := hid (bx_bel Fbr7.out hb)
                    have Fbo8 := hid (bx_bel Fbo7.out hb)
                    have Ff8 := hid (Ff7.out.bel hb)
                    have Fbf8 := hid (bx_bel Fbf7.out hb)
                    have Fg8 := hid (Fg7.out.bel hb)
                    have Fbg8 := hid (bx_bel Fbg7.out hb)
                    clear B7 Fa7 Fb7 Fo7 Fba7 Fbb7 Fbr7 Fbo7 Ff7 Fbf7 Fg7 Fbg7
                    obtain ⟨vu, hvu⟩ : ∃ l, M.norm (vsf ++ vsg) = l := ⟨_, rfl⟩
                    have hul : vu.length ≤ 20000 := by rw [← hvu]; have h := M.norm_length (vsf ++ vsg); rw [List.length_append] at h; have := Lf.out; have := Lg.out; omega
                    have HUL := hid hul
                    rw [hvu] at hA
                    have HJ3 : Hid (M.jf s.fs t.fs xn = ⟨xn, false, vu⟩) := by unfold Hid; rw [HJ2.out, hvu]
                    obtain ⟨qu, mu, rfl⟩ := hA.form
                    have Fu8 : Hid (AtAt z8 (.slice qu vu.length mu) vu) := hid hA
                    clear hA hvu hul hb
                    refine hK.out _ _ (KH.out _ Fbf8.out Fbg8.out) (fun hHeld => ?_)
                    clear hK
                    refine wpAnyH_take (i := 19) (oi := { dst := some 90, op := Op.build 29 #[(0, Operand.tmp 72), (1, Operand.tmp 84), (2, Operand.tmp 89)], type := 29, pos := "ref.go:63", after := #[{ on := 1, ground := Ground.data }, { on := 13, ground := Ground.data }, { on := 18, ground := Ground.data }], guard := none }) (v := ?_) rfl (by kernel_rfl) (by kernel_rfl) (by kernel_rfl) (fun _ _ _ h => h) (Or.inl ⟨by rfl, ?_⟩) hHeld ?_
                    rotate_left
                    · intro w hSw; (try dsimp only at hSw); go_simp; (try with_reducible rfl)
                    simp only [Act.put, List.setIfInBounds_toArray, List.set_cons_zero, List.set_cons_succ]
                    refine wpAnyH_ready (rs := [20]) (by kernel_rfl) (by simp) ?_
                    refine AllReadyH.cons (o := { dst := some 91, op := Op.call { callee := Callee.value (Operand.func 37), args := #[Operand.tmp 71, Operand.tmp 90], argTypes := #[25, 29] }, type := 25, pos := "ref.go:63", after := #[{ on := 0, ground := Ground.data }, { on := 19, ground := Ground.data }, { on := 18, ground := Ground.chain }], guard := none }) rfl (fun K hK => ?_) AllReadyH.nil
                    go_simp
                    refine (rwith_any z8 _ ⟨acc, pn⟩ xn false vu qu mu Fo8.out Fu8.out (M.sm_mono HSM.out (by omega)) HRI.out).mono ?_
                    rintro e z9 ⟨v9, rfl, hsh, hb⟩
                    have B9 := hid (B8.out.trans (hb.mono B8.out.size))
                    have Fa9 := hid (Fa8.out.bel hb)
                    have Fb9 := hid (Fb8.out.bel hb)
                    have Fo9 := hid (Fo8.out.bel hb)
                    have Fba9 := hid (bx_bel Fba8.out hb)
                    have Fbb9 := hid (bx_bel Fbb8.out hb)
                    have Fbr9 := hid (bx_bel Fbr8.out hb)
                    have Fbo9 := hid (bx_bel Fbo8.out hb)
                    have Ff9 := hid (Ff8.out.bel hb)
                    have Fbf9 := hid (bx_bel Fbf8.out hb)
                    have Fg9 := hid (Fg8.out.bel hb)
                    have Fbg9 := hid (bx_bel Fbg8.out hb)
                    have Fu9 := hid (Fu8.out.bel hb)
                    clear B8 Fa8 Fb8 Fo8 Fba8 Fbb8 Fbr8 Fbo8 Ff8 Fbf8 Fg8 Fbg8 Fu8
                    obtain ⟨acc2, hacc2⟩ : ∃ l, M.withF ⟨xn, false, vu⟩ acc = l := ⟨_, rfl⟩
                    rw [hacc2] at hsh
                    have HA2 := hid hacc2
                    obtain ⟨qn, mn, qn2, mn2, rfl⟩ := hsh.form
                    have Fn9 : Hid (ShAt z9 (.agg #[.slice qn acc2.length mn, .slice qn2 pn.length mn2]) ⟨acc2, pn⟩) := hid hsh
                    clear hsh hacc2 hb
                    refine hK.out _ _ (KH.out _ Fbf9.out Fbg9.out) (fun hHeld => ?_)
                    clear hK
                    refine wpAnyH_ready (rs := [21]) (by kernel_rfl) (by simp) ?_
                    refine AllReadyH.cons (o := { dst := none, op := Op.store 25 (Operand.tmp 5) (Operand.tmp 91), type := 0, pos := "ref.go:63", after := #[{ on := 20, ground := Ground.data }, { on := 20, ground := Ground.chain }, { on := 0, ground := Ground.phase }, { on := 1, ground := Ground.phase }, { on := 2, ground := Ground.phase }, { on := 3, ground := Ground.phase }, { on := 4, ground := Ground.phase }, { on := 5, ground := Ground.phase }, { on := 6, ground := Ground.phase }, { on := 7, ground := Ground.phase }, { on := 8, ground := Ground.phase }, { on := 9, ground := Ground.phase }, { on := 10, ground := Ground.phase }, { on := 11, ground := Ground.phase }, { on := 12, ground := Ground.phase }, { on := 13, ground := Ground.phase }, { on := 14, ground := Ground.phase }, { on := 15, ground := Ground.phase }, { on := 16, ground := Ground.phase }, { on := 17, ground := Ground.phase }, { on := 18, ground := Ground.phase }, { on := 19, ground := Ground.phase }, { on := 20, ground := Ground.phase }], guard := none }) rfl (fun K hK => ?_) AllReadyH.nil
                    obtain ⟨o0, o1, _⟩ := cells2 Fbo9.out
                    go_simp
                    clear o0 o1
                    obtain ⟨z10, hzz10⟩ : ∃ W, ((z9.setCell ⟨g5, 0, none⟩ (.slice qn acc2.length mn)).setCell ⟨g5, 1, none⟩ (.slice qn2 pn.length mn2)) = W := ⟨_, rfl⟩
                    have B10 : Hid (Below w.heap.size w z10) := by unfold Hid; rw [← hzz10]; exact set2b B9.out (by have := HG5.out; omega) _ _
                    have Fba10 := hid ((congrArg (fun W : World => W.heap[w.heap.size]?) hzz10).symm.trans ((box_off (by have := HG5.out; omega) _ _).trans Fba9.out))
                    have Fbb10 := hid ((congrArg (fun W : World => W.heap[w.heap.size + 1]?) hzz10).symm.trans ((box_off (by have := HG5.out; omega) _ _).trans Fbb9.out))
                    have Fbr10 := hid ((congrArg (fun W : World => W.heap[w.heap.size + 2]?) hzz10).symm.trans ((box_off (by have := HG5.out; omega) _ _).trans Fbr9.out))
                    have Fbf10 := hid ((congrArg (fun W : World => W.heap[w1.heap.size]?) hzz10).symm.trans ((box_off (Nat.ne_of_gt HGf.out) _ _).trans Fbf9.out))
                    have Fbg10 := hid ((congrArg (fun W : World => W.heap[w4.heap.size]?) hzz10).symm.trans ((box_off (Nat.ne_of_gt HGg.out) _ _).trans Fbg9.out))
                    have Fbo10 := hid ((congrArg (fun W : World => W.heap[g5]?) hzz10).symm.trans (box_set2 Fbo9.out _ _))
                    have Fn10 : Hid (ShAt z10 (.agg #[.slice qn acc2.length mn, .slice qn2 pn.length mn2]) ⟨acc2, pn⟩) := by unfold Hid; rw [← hzz10]; exact Fn9.out.off2 Fbo9.out _ _
                    try rw [hzz10]
                    clear hzz10
                    refine hK.out _ _ (KH.out _ Fbf10.out Fbg10.out) (fun hHeld => ?_)
                    clear hK
                    refine wpAnyH_done (by kernel_rfl) ?_ _
                    clear hHeld KH
                    go_wp2
                    refine ⟨⟨j + 1, acc2, qn, mn, qn2, mn2, by omega, by go_num, B10, Fba10, Fbb10, Fbr10, Fbo10, Fn10, ?_, ?_⟩, by simp [intOf]; omega⟩
                    · unfold Hid
                      rw [← HA2.out, HTK.out, List.foldl_append, ← HACC.out]
                      show _ = M.withF (M.jf s.fs t.fs xn) acc
                      rw [HJ3.out]
                    · unfold Hid
                      rw [← HA2.out]
                      exact M.sm_with HSM.out (by omega) (by have := HUL.out; show vu.length ≤ _; omega)
                  · go_simp
                    refine (runion_any V5.drew _ _ vsf vsg Ff7.out Fg7.out (Nat.le_trans Lf.out (by decide)) (Nat.le_trans Lg.out (by decide))).mono ?_
                    rintro e z8 ⟨v8, rfl, hA, hb⟩
                    have B8 := hid (B7.out.trans (hb.mono B7.out.size))
                    have Fa8 := hid (Fa7.out.bel hb)
                    have Fb8 := hid (Fb7.out.bel hb)
                    have Fo8 := hid (Fo7.out.bel hb)
                    have Fba8 := hid (bx_bel Fba7.out hb)
                    have Fbb8 := hid (bx_bel Fbb7.out hb)
                    have Fbr8 := hid (bx_bel Fbr7.out hb)
                    have Fbo8 := hid (bx_bel Fbo7.out hb)
                    have Ff8 := hid (Ff7.out.bel hb)
                    have Fbf8 := hid (bx_bel Fbf7.out hb)
                    have Fg8 := hid (Fg7.out.bel hb)
                    have Fbg8 := hid (bx_bel Fbg7.out hb)
                    clear B7 Fa7 Fb7 Fo7 Fba7 Fbb7 Fbr7 Fbo7 Ff7 Fbf7 Fg7 Fbg7
                    obtain ⟨vu, hvu⟩ : ∃ l, M.norm (vsf ++ vsg) = l := ⟨_, rfl⟩
                    have hul : vu.length ≤ 20000 := by rw [← hvu]; have h := M.norm_length (vsf ++ vsg); rw [List.length_append] at h; have := Lf.out; have := Lg.out; omega
                    have HUL := hid hul
                    rw [hvu] at hA
                    have HJ3 : Hid (M.jf s.fs t.fs xn = ⟨xn, false, vu⟩) := by unfold Hid; rw [HJ2.out, hvu]
                    obtain ⟨qu, mu, rfl⟩ := hA.form
                    have Fu8 : Hid (AtAt z8 (.slice qu vu.length mu) vu) := hid hA
                    clear hA hvu hul hb
                    refine hK.out _ _ (KH.out _ Fbf8.out Fbg8.out) (fun hHeld => ?_)
                    clear hK
                    refine wpAnyH_take (i := 19) (oi := { dst := some 90, op := Op.build 29 #[(0, Operand.tmp 72), (1, Operand.tmp 84), (2, Operand.tmp 89)], type := 29, pos := "ref.go:63", after := #[{ on := 1, ground := Ground.data }, { on := 13, ground := Ground.data }, { on := 18, ground := Ground.data }], guard := none }) (v := ?_) rfl (by kernel_rfl) (by kernel_rfl) (by kernel_rfl) (fun _ _ _ h => h) (Or.inl ⟨by rfl, ?_⟩) hHeld ?_
                    rotate_left
                    · intro w hSw; (try dsimp only at hSw); go_simp; (try with_reducible rfl)
                    simp only [Act.put, List.setIfInBounds_toArray, List.set_cons_zero, List.set_cons_succ]
                    refine wpAnyH_ready (rs := [0]) (by kernel_rfl) (by simp) ?_
                    refine AllReadyH.cons (o := { dst := some 71, op := Op.load 25 (Operand.tmp 5), type := 25, pos := "ref.go:63", after := #[], guard := none }) rfl (fun K hK => ?_) AllReadyH.nil
                    obtain ⟨o0, o1, _⟩ := cells2 Fbo8.out
                    go_simp
                    clear o0 o1
                    refine hK.out _ _ (KH.out _ Fbf8.out Fbg8.out) (fun hHeld => ?_)
                    clear hK
                    refine wpAnyH_ready (rs := [20]) (by kernel_rfl) (by simp) ?_
                    refine AllReadyH.cons (o := { dst := some 91, op := Op.call { callee := Callee.value (Operand.func 37), args := #[Operand.tmp 71, Operand.tmp 90], argTypes := #[25, 29] }, type := 25, pos := "ref.go:63", after := #[{ on := 0, ground := Ground.data }, { on := 19, ground := Ground.data }, { on := 18, ground := Ground.chain }], guard := none }) rfl (fun K hK => ?_) AllReadyH.nil
                    go_simp
                    refine (rwith_any z8 _ ⟨acc, pn⟩ xn false vu qu mu Fo8.out Fu8.out (M.sm_mono HSM.out (by omega)) HRI.out).mono ?_
                    rintro e z9 ⟨v9, rfl, hsh, hb⟩
                    have B9 := hid (B8.out.trans (hb.mono B8.out.size))
                    have Fa9 := hid (Fa8.out.bel hb)
                    have Fb9 := hid (Fb8.out.bel hb)
                    have Fo9 := hid (Fo8.out.bel hb)
                    have Fba9 := hid (bx_bel Fba8.out hb)
                    have Fbb9 := hid (bx_bel Fbb8.out hb)
                    have Fbr9 := hid (bx_bel Fbr8.out hb)
                    have Fbo9 := hid (bx_bel Fbo8.out hb)
                    have Ff9 := hid (Ff8.out.bel hb)
                    have Fbf9 := hid (bx_bel Fbf8.out hb)
                    have Fg9 := hid (Fg8.out.bel hb)
                    have Fbg9 := hid (bx_bel Fbg8.out hb)
                    have Fu9 := hid (Fu8.out.bel hb)
                    clear B8 Fa8 Fb8 Fo8 Fba8 Fbb8 Fbr8 Fbo8 Ff8 Fbf8 Fg8 Fbg8 Fu8
                    obtain ⟨acc2, hacc2⟩ : ∃ l, M.withF ⟨xn, false, vu⟩ acc = l := ⟨_, rfl⟩
                    rw [hacc2] at hsh
                    have HA2 := hid hacc2
                    obtain ⟨qn, mn, qn2, mn2, rfl⟩ := hsh.form
                    have Fn9 : Hid (ShAt z9 (.agg #[.slice qn acc2.length mn, .slice qn2 pn.length mn2]) ⟨acc2, pn⟩) := hid hsh
                    clear hsh hacc2 hb
                    refine hK.out _ _ (KH.out _ Fbf9.out Fbg9.out) (fun hHeld => ?_)
                    clear hK
                    refine wpAnyH_ready (rs := [21]) (by kernel_rfl) (by simp) ?_
                    refine AllReadyH.cons (o := { dst := none, op := Op.store 25 (Operand.tmp 5) (Operand.tmp 91), type := 0, pos := "ref.go:63", after := #[{ on := 20, ground := Ground.data }, { on := 20, ground := Ground.chain }, { on := 0, ground := Ground.phase }, { on := 1, ground := Ground.phase }, { on := 2, ground := Ground.phase }, { on := 3, ground := Ground.phase }, { on := 4, ground := Ground.phase }, { on := 5, ground := Ground.phase }, { on := 6, ground := Ground.phase }, { on := 7, ground := Ground.phase }, { on := 8, ground := Ground.phase }, { on := 9, ground := Ground.phase }, { on := 10, ground := Ground.phase }, { on := 11, ground := Ground.phase }, { on := 12, ground := Ground.phase }, { on := 13, ground := Ground.phase }, { on := 14, ground := Ground.phase }, { on := 15, ground := Ground.phase }, { on := 16, ground := Ground.phase }, { on := 17, ground := Ground.phase }, { on := 18, ground := Ground.phase }, { on := 19, ground := Ground.phase }, { on := 20, ground := Ground.phase }], guard := none }) rfl (fun K hK => ?_) AllReadyH.nil
                    obtain ⟨o0, o1, _⟩ := cells2 Fbo9.out
                    go_simp
                    clear o0 o1
                    obtain ⟨z10, hzz10⟩ : ∃ W, ((z9.setCell ⟨g5, 0, none⟩ (.slice qn acc2.length mn)).setCell ⟨g5, 1, none⟩ (.slice qn2 pn.length mn2)) = W := ⟨_, rfl⟩
                    have B10 : Hid (Below w.heap.size w z10) := by unfold Hid; rw [← hzz10]; exact set2b B9.out (by have := HG5.out; omega) _ _
                    have Fba10 := hid ((congrArg (fun W : World => W.heap[w.heap.size]?) hzz10).symm.trans ((box_off (by have := HG5.out; omega) _ _).trans Fba9.out))
                    have Fbb10 := hid ((congrArg (fun W : World => W.heap[w.heap.size + 1]?) hzz10).symm.trans ((box_off (by have := HG5.out; omega) _ _).trans Fbb9.out))
                    have Fbr10 := hid ((congrArg (fun W : World => W.heap[w.heap.size + 2]?) hzz10).symm.trans ((box_off (by have := HG5.out; omega) _ _).trans Fbr9.out))
                    have Fbf10 := hid ((congrArg (fun W : World => W.heap[w1.heap.size]?) hzz10).symm.trans ((box_off (Nat.ne_of_gt HGf.out) _ _).trans Fbf9.out))
                    have Fbg10 := hid ((congrArg (fun W : World => W.heap[w4.heap.size]?) hzz10).symm.trans ((box_off (Nat.ne_of_gt HGg.out) _ _).trans Fbg9.out))
                    have Fbo10 := hid ((congrArg (fun W : World => W.heap[g5]?) hzz10).symm.trans (box_set2 Fbo9.out _ _))
                    have Fn10 : Hid (ShAt z10 (.agg #[.slice qn acc2.length mn, .slice qn2 pn.length mn2]) ⟨acc2, pn⟩) := by unfold Hid; rw [← hzz10]; exact Fn9.out.off2 Fbo9.out _ _
                    try rw [hzz10]
                    clear hzz10
                    refine hK.out _ _ (KH.out _ Fbf10.out Fbg10.out) (fun hHeld => ?_)
                    clear hK
                    refine wpAnyH_done (by kernel_rfl) ?_ _
                    clear hHeld KH
                    go_wp2
                    refine ⟨⟨j + 1, acc2, qn, mn, qn2, mn2, by omega, by go_num, B10, Fba10, Fbb10, Fbr10, Fbo10, Fn10, ?_, ?_⟩, by simp [intOf]; omega⟩
                    · unfold Hid
                      rw [← HA2.out, HTK.out, List.foldl_append, ← HACC.out]
                      show _ = M.withF (M.jf s.fs t.fs xn) acc
                      rw [HJ3.out]
                    · unfold Hid
                      rw [← HA2.out]
                      exact M.sm_with HSM.out (by omega) (by have := HUL.out; show vu.length ≤ _; omega)
                · have HJ2 : Hid (M.jf s.fs t.fs xn = ⟨xn, sug, M.norm (vsf ++ vsg)⟩) := by unfold Hid; rw [HJF.out]; simp
                  clear HJF
                  obtain ⟨xba0, xba1, _⟩ := cells2 Fba6.out
                  obtain ⟨xbb0, xbb1, _⟩ := cells2 Fbb6.out
                  obtain ⟨xbr0, xbr1, _⟩ := cells2 Fbr6.out
                  obtain ⟨xbo0, xbo1, _⟩ := cells2 Fbo6.out
                  obtain ⟨xbf0, xbf1, xbf2, _⟩ := cells3 Fbf6.out
                  obtain ⟨xbg0, xbg1, xbg2, _⟩ := cells3 Nbg.out
                  go_wp2_with fail
                  clear xba0 xba1 xbb0 xbb1 xbr0 xbr1 xbo0 xbo1 xbf0 xbf1 xbf2 xbg0 xbg1 xbg2
                  clear hV5
                  have KH : Hid (∀ W : World, W.heap[w1.heap.size]? = some (.cells #[.string nmf, .bool true, .slice yaf vsf.length ycf] 29 (0, 0)) → W.heap[w4.heap.size]? = some (.cells #[.string nmg, .bool sug, .slice yag vsg.length ycg] 29 (0, 0)) → (W.cell? ⟨w1.heap.size, 0, none⟩ = some (.string nmf) ∧ W.cell? ⟨w1.heap.size, 1, none⟩ = some (.bool true) ∧ W.cell? ⟨w1.heap.size, 2, none⟩ = some (.slice yaf vsf.length ycf) ∧ W.cell? ⟨w4.heap.size, 0, none⟩ = some (.string nmg) ∧ W.cell? ⟨w4.heap.size, 1, none⟩ = some (.bool sug) ∧ W.cell? ⟨w4.heap.size, 2, none⟩ = some (.slice yag vsg.length ycg))) := fun W h1 h2 => by
                    obtain ⟨e0, e1, e2, _⟩ := cells3 h1
                    obtain ⟨e3, e4, e5, _⟩ := cells3 h2
                    exact ⟨e0, e1, e2, e3, e4, e5⟩
                  have hbd : Below V5.heap.size V5 V5.drew := (Gr.refl _).drew.below
                  refine wp_region_held_drew (S := fun W => W.cell? ⟨w1.heap.size, 0, none⟩ = some (.string nmf) ∧ W.cell? ⟨w1.heap.size, 1, none⟩ = some (.bool true) ∧ W.cell? ⟨w1.heap.size, 2, none⟩ = some (.slice yaf vsf.length ycf) ∧ W.cell? ⟨w4.heap.size, 0, none⟩ = some (.string nmg) ∧ W.cell? ⟨w4.heap.size, 1, none⟩ = some (.bool sug) ∧ W.cell? ⟨w4.heap.size, 2, none⟩ = some (.slice yag vsg.length ycg)) (by kernel_rfl) (KH.out _ (bx_bel0 Fbf6.out hbd) (bx_bel0 Nbg.out hbd)) (fun hHeld => ?_)
                  have B7 := hid (B6.out.trans (hbd.mono B6.out.size))
                  have Fa7 := hid (Fa6.out.bel hbd)
                  have Fb7 := hid (Fb6.out.bel hbd)
                  have Fo7 := hid (Fo6.out.bel hbd)
                  have Fba7 := hid (bx_bel Fba6.out hbd)
                  have Fbb7 := hid (bx_bel Fbb6.out hbd)
                  have Fbr7 := hid (bx_bel Fbr6.out hbd)
                  have Fbo7 := hid (bx_bel Fbo6.out hbd)
                  have Ff7 := hid (Ff6.out.bel hbd)
                  have Fbf7 := hid (bx_bel Fbf6.out hbd)
                  have Fg7 := hid (Fg6.out.bel hbd)
                  have Fbg7 := hid (bx_bel Nbg.out hbd)
                  clear B6 Fa6 Fb6 Fo6 Fba6 Fbb6 Fbr6 Fbo6 Ff6 Fbf6 Fg6 Nbg
                  clear hbd
                  refine wpAnyH_take (i := 1) (oi := { dst := some 72, op := Op.move (Operand.tmp 7), type := 9, pos := "ref.go:63", after := #[], guard := none }) (v := ?_) rfl (by kernel_rfl) (by kernel_rfl) (by kernel_rfl) (fun _ _ _ h => h) (Or.inl ⟨by rfl, ?_⟩) hHeld ?_
                  rotate_left
                  · intro w hSw; (try dsimp only at hSw); go_simp; (try with_reducible rfl)
                  simp only [Act.put, List.setIfInBounds_toArray, List.set_cons_zero, List.set_cons_succ]
                  refine wpAnyH_take (i := 2) (oi := { dst := some 73, op := Op.move (Operand.tmp 9), type := 4, pos := "ref.go:63", after := #[], guard := none }) (v := ?_) rfl (by kernel_rfl) (by kernel_rfl) (by kernel_rfl) (fun _ _ _ h => h) (Or.inl ⟨by rfl, ?_⟩) hHeld ?_
                  rotate_left
                  · intro w hSw; (try dsimp only at hSw); go_simp; (try with_reducible rfl)
                  simp only [Act.put, List.setIfInBounds_toArray, List.set_cons_zero, List.set_cons_succ]
                  refine wpAnyH_take (i := 3) (oi := { dst := some 74, op := Op.move (Operand.tmp 73), type := 4, pos := "ref.go:63", after := #[{ on := 2, ground := Ground.data }], guard := none }) (v := ?_) rfl (by kernel_rfl) (by kernel_rfl) (by kernel_rfl) (fun _ _ _ h => h) (Or.inl ⟨by rfl, ?_⟩) hHeld ?_
                  rotate_left
                  · intro w hSw; (try dsimp only at hSw); go_simp; (try with_reducible rfl)
                  simp only [Act.put, List.setIfInBounds_toArray, List.set_cons_zero, List.set_cons_succ]
                  refine wpAnyH_take (i := 4) (oi := { dst := some 75, op := Op.move (Operand.tmp 11), type := 4, pos := "ref.go:63", after := #[{ on := 3, ground := Ground.guard }], guard := some (3, true) }) (v := ?_) rfl (by kernel_rfl) (by kernel_rfl) (by kernel_rfl) (fun _ _ _ h => h) (Or.inl ⟨by rfl, ?_⟩) hHeld ?_
                  rotate_left
                  · intro w hSw; (try dsimp only at hSw); go_simp; (try with_reducible rfl)
                  simp only [Act.put, List.setIfInBounds_toArray, List.set_cons_zero, List.set_cons_succ]
                  refine wpAnyH_take (i := 5) (oi := { dst := some 76, op := Op.pick (Operand.tmp 74) (Operand.tmp 75) (Operand.const (Value.bool false)), type := 4, pos := "ref.go:63", after := #[{ on := 3, ground := Ground.data }, { on := 4, ground := Ground.data }], guard := none }) (v := ?_) rfl (by kernel_rfl) (by kernel_rfl) (by kernel_rfl) (fun _ _ _ h => h) (Or.inl ⟨by rfl, ?_⟩) hHeld ?_
                  rotate_left
                  · intro w hSw; (try dsimp only at hSw); go_simp; (try with_reducible rfl)
                  simp only [Act.put, List.setIfInBounds_toArray, List.set_cons_zero, List.set_cons_succ]
                  refine wpAnyH_take (i := 6) (oi := { dst := some 77, op := Op.move (Operand.tmp 76), type := 4, pos := "ref.go:63", after := #[{ on := 5, ground := Ground.data }, { on := 3, ground := Ground.chain }], guard := none }) (v := ?_) rfl (by kernel_rfl) (by kernel_rfl) (by kernel_rfl) (fun _ _ _ h => h) (Or.inl ⟨by rfl, ?_⟩) hHeld ?_
                  rotate_left
                  · intro w hSw; (try dsimp only at hSw); go_simp; (try with_reducible rfl)
                  simp only [Act.put, List.setIfInBounds_toArray, List.set_cons_zero, List.set_cons_succ]
                  refine wpAnyH_take (i := 7) (oi := { dst := some 78, op := Op.fieldAddr 29 (Operand.tmp 8) 1, type := 0, pos := "ref.go:63", after := #[{ on := 6, ground := Ground.guard }], guard := some (6, true) }) (v := ?_) rfl (by kernel_rfl) (by kernel_rfl) (by kernel_rfl) (fun _ _ _ h => h) (Or.inl ⟨by rfl, ?_⟩) hHeld ?_
                  rotate_left
                  · intro w hSw; (try dsimp only at hSw); go_simp; (try with_reducible rfl)
                  simp only [Act.put, List.setIfInBounds_toArray, List.set_cons_zero, List.set_cons_succ]
                  refine wpAnyH_take (i := 8) (oi := { dst := some 79, op := Op.load 4 (Operand.tmp 78), type := 4, pos := "ref.go:63", after := #[{ on := 7, ground := Ground.data }, { on := 6, ground := Ground.guard }], guard := some (6, true) }) (v := ?_) rfl (by kernel_rfl) (by kernel_rfl) (by kernel_rfl) (fun _ _ _ h => h) (Or.inl ⟨by rfl, ?_⟩) hHeld ?_
                  rotate_left
                  · intro w hSw; (try dsimp only at hSw); go_simp; (try with_reducible rfl)
                  simp only [Act.put, List.setIfInBounds_toArray, List.set_cons_zero, List.set_cons_succ]
                  refine wpAnyH_take (i := 9) (oi := { dst := some 80, op := Op.pick (Operand.tmp 77) (Operand.tmp 79) (Operand.const (Value.bool false)), type := 4, pos := "ref.go:63", after := #[{ on := 6, ground := Ground.data }, { on := 8, ground := Ground.data }], guard := none }) (v := ?_) rfl (by kernel_rfl) (by kernel_rfl) (by kernel_rfl) (fun _ _ _ h => h) (Or.inl ⟨by rfl, ?_⟩) hHeld ?_
                  rotate_left
                  · intro w hSw; (try dsimp only at hSw); go_simp; (try with_reducible rfl)
                  simp only [Act.put, List.setIfInBounds_toArray, List.set_cons_zero, List.set_cons_succ]
                  refine wpAnyH_take (i := 10) (oi := { dst := some 81, op := Op.move (Operand.tmp 80), type := 4, pos := "ref.go:63", after := #[{ on := 9, ground := Ground.data }, { on := 6, ground := Ground.chain }], guard := none }) (v := ?_) rfl (by kernel_rfl) (by kernel_rfl) (by kernel_rfl) (fun _ _ _ h => h) (Or.inl ⟨by rfl, ?_⟩) hHeld ?_
                  rotate_left
                  · intro w hSw; (try dsimp only at hSw); go_simp; (try with_reducible rfl)
                  simp only [Act.put, List.setIfInBounds_toArray, List.set_cons_zero, List.set_cons_succ]
                  refine wpAnyH_take (i := 11) (oi := { dst := some 82, op := Op.fieldAddr 29 (Operand.tmp 10) 1, type := 0, pos := "ref.go:63", after := #[{ on := 10, ground := Ground.guard }], guard := some (10, true) }) (v := ?_) rfl (by kernel_rfl) (by kernel_rfl) (by kernel_rfl) (fun _ _ _ h => h) (Or.inl ⟨by rfl, ?_⟩) hHeld ?_
                  rotate_left
                  · intro w hSw; (try dsimp only at hSw); go_simp; (try with_reducible rfl)
                  simp only [Act.put, List.setIfInBounds_toArray, List.set_cons_zero, List.set_cons_succ]
                  refine wpAnyH_take (i := 12) (oi := { dst := some 83, op := Op.load 4 (Operand.tmp 82), type := 4, pos := "ref.go:63", after := #[{ on := 11, ground := Ground.data }, { on := 10, ground := Ground.guard }], guard := some (10, true) }) (v := ?_) rfl (by kernel_rfl) (by kernel_rfl) (by kernel_rfl) (fun _ _ _ h => h) (Or.inl ⟨by rfl, ?_⟩) hHeld ?_
                  rotate_left
                  · intro w hSw; (try dsimp only at hSw); go_simp; (try with_reducible rfl)
                  simp only [Act.put, List.setIfInBounds_toArray, List.set_cons_zero, List.set_cons_succ]
                  refine wpAnyH_take (i := 13) (oi := { dst := some 84, op := Op.pick (Operand.tmp 81) (Operand.tmp 83) (Operand.const (Value.bool false)), type := 4, pos := "ref.go:63", after := #[{ on := 10, ground := Ground.data }, { on := 12, ground := Ground.data }], guard := none }) (v := ?_) rfl (by kernel_rfl) (by kernel_rfl) (by kernel_rfl) (fun _ _ _ h => h) (Or.inl ⟨by rfl, ?_⟩) hHeld ?_
                  rotate_left
                  · intro w hSw; (try dsimp only at hSw); go_simp; (try with_reducible rfl)
                  simp only [Act.put, List.setIfInBounds_toArray, List.set_cons_zero, List.set_cons_succ]
                  refine wpAnyH_take (i := 14) (oi := { dst := some 85, op := Op.fieldAddr 29 (Operand.tmp 8) 2, type := 0, pos := "ref.go:63", after := #[], guard := none }) (v := ?_) rfl (by kernel_rfl) (by kernel_rfl) (by kernel_rfl) (fun _ _ _ h => h) (Or.inl ⟨by rfl, ?_⟩) hHeld ?_
                  rotate_left
                  · intro w hSw; (try dsimp only at hSw); go_simp; (try with_reducible rfl)
                  simp only [Act.put, List.setIfInBounds_toArray, List.set_cons_zero, List.set_cons_succ]
                  refine wpAnyH_take (i := 15) (oi := { dst := some 86, op := Op.load 23 (Operand.tmp 85), type := 23, pos := "ref.go:63", after := #[{ on := 14, ground := Ground.data }], guard := none }) (v := ?_) rfl (by kernel_rfl) (by kernel_rfl) (by kernel_rfl) (fun _ _ _ h => h) (Or.inl ⟨by rfl, ?_⟩) hHeld ?_
                  rotate_left
                  · intro w hSw; (try dsimp only at hSw); go_simp; (try with_reducible rfl)
                  simp only [Act.put, List.setIfInBounds_toArray, List.set_cons_zero, List.set_cons_succ]
                  refine wpAnyH_take (i := 16) (oi := { dst := some 87, op := Op.fieldAddr 29 (Operand.tmp 10) 2, type := 0, pos := "ref.go:63", after := #[], guard := none }) (v := ?_) rfl (by kernel_rfl) (by kernel_rfl) (by kernel_rfl) (fun _ _ _ h => h) (Or.inl ⟨by rfl, ?_⟩) hHeld ?_
                  rotate_left
                  · intro w hSw; (try dsimp only at hSw); go_simp; (try with_reducible rfl)
                  simp only [Act.put, List.setIfInBounds_toArray, List.set_cons_zero, List.set_cons_succ]
                  refine wpAnyH_take (i := 17) (oi := { dst := some 88, op := Op.load 23 (Operand.tmp 87), type := 23, pos := "ref.go:63", after := #[{ on := 16, ground := Ground.data }], guard := none }) (v := ?_) rfl (by kernel_rfl) (by kernel_rfl) (by kernel_rfl) (fun _ _ _ h => h) (Or.inl ⟨by rfl, ?_⟩) hHeld ?_
                  rotate_left
                  · intro w hSw; (try dsimp only at hSw); go_simp; (try with_reducible rfl)
                  simp only [Act.put, List.setIfInBounds_toArray, List.set_cons_zero, List.set_cons_succ]
                  refine wpAnyH_ready (rs := [0, 18]) (by kernel_rfl) (by simp) ?_
                  refine AllReadyH.cons (o := { dst := some 71, op := Op.load 25 (Operand.tmp 5), type := 25, pos := "ref.go:63", after := #[], guard := none }) rfl (fun K hK => ?_) (AllReadyH.cons (o := { dst := some 89, op := Op.call { callee := Callee.value (Operand.func 30), args := #[Operand.tmp 86, Operand.tmp 88], argTypes := #[23, 23] }, type := 23, pos := "ref.go:63", after := #[{ on := 15, ground := Ground.data }, { on := 17, ground := Ground.data }, { on := 10, ground := Ground.chain }], guard := none }) rfl (fun K hK => ?_) AllReadyH.nil)
                  · obtain ⟨o0, o1, _⟩ := cells2 Fbo7.out
                    go_simp
                    clear o0 o1
                    refine hK.out _ _ (KH.out _ Fbf7.out Fbg7.out) (fun hHeld => ?_)
                    clear hK
                    refine wpAnyH_ready (rs := [18]) (by kernel_rfl) (by simp) ?_
                    refine AllReadyH.cons (o := { dst := some 89, op := Op.call { callee := Callee.value (Operand.func 30), args := #[Operand.tmp 86, Operand.tmp 88], argTypes := #[23, 23] }, type := 23, pos := "ref.go:63", after := #[{ on := 15, ground := Ground.data }, { on := 17, ground := Ground.data }, { on := 10, ground := Ground.chain }], guard := none }) rfl (fun K hK => ?_) AllReadyH.nil
                    go_simp
                    refine (runion_any V5.drew _ _ vsf vsg Ff7.out Fg7.out (Nat.le_trans Lf.out (by decide)) (Nat.le_trans Lg.out (by decide))).mono ?_
                    rintro e z8 ⟨v8, rfl, hA, hb⟩
                    have B8 := hid (B7.out.trans (hb.mono B7.out.size))
                    have Fa8 := hid (Fa7.out.bel hb)
                    have Fb8 := hid (Fb7.out.bel hb)
                    have Fo8 := hid (Fo7.out.bel hb)
                    have Fba8 := hid (bx_bel Fba7.out hb)
                    have Fbb8 := hid (bx_bel Fbb7.out hb)
                    have Fbr8 := hid (bx_bel Fbr7.out hb)
                    have Fbo8 := hid (bx_bel Fbo7.out hb)
                    have Ff8 := hid (Ff7.out.bel hb)
                    have Fbf8 := hid (bx_bel Fbf7.out hb)
                    have Fg8 := hid (Fg7.out.bel hb)
                    have Fbg8 := hid (bx_bel Fbg7.out hb)
                    clear B7 Fa7 Fb7 Fo7 Fba7 Fbb7 Fbr7 Fbo7 Ff7 Fbf7 Fg7 Fbg7
                    obtain ⟨vu, hvu⟩ : ∃ l, M.norm (vsf ++ vsg) = l := ⟨_, rfl⟩
                    have hul : vu.length ≤ 20000 := by rw [← hvu]; have h := M.norm_length (vsf ++ vsg); rw [List.length_append] at h; have := Lf.out; have := Lg.out; omega
                    have HUL := hid hul
                    rw [hvu] at hA
                    have HJ3 : Hid (M.jf s.fs t.fs xn = ⟨xn, sug, vu⟩) := by unfold Hid; rw [HJ2.out, hvu]
                    obtain ⟨qu, mu, rfl⟩ := hA.form
                    have Fu8 : Hid (AtAt z8 (.slice qu vu.length mu) vu) := hid hA
                    clear hA hvu hul hb
                    refine hK.out _ _ (KH.out _ Fbf8.out Fbg8.out) (fun hHeld => ?_)
                    clear hK
                    refine wpAnyH_take (i := 19) (oi := { dst := some 90, op := Op.build 29 #[(0, Operand.tmp 72), (1, Operand.tmp 84), (2, Operand.tmp 89)], type := 29, pos := "ref.go:63", after := #[{ on := 1, ground := Ground.data }, { on := 13, ground := Ground.data }, { on := 18, ground := Ground.data }], guard := none }) (v := ?_) rfl (by kernel_rfl) (by kernel_rfl) (by kernel_rfl) (fun _ _ _ h => h) (Or.inl ⟨by rfl, ?_⟩) hHeld ?_
                    rotate_left
                    · intro w hSw; (try dsimp only at hSw); go_simp; (try with_reducible rfl)
                    simp only [Act.put, List.setIfInBounds_toArray, List.set_cons_zero, List.set_cons_succ]
                    refine wpAnyH_ready (rs := [20]) (by kernel_rfl) (by simp) ?_
                    refine AllReadyH.cons (o := { dst := some 91, op := Op.call { callee := Callee.value (Operand.func 37), args := #[Operand.tmp 71, Operand.tmp 90], argTypes := #[25, 29] }, type := 25, pos := "ref.go:63", after := #[{ on := 0, ground := Ground.data }, { on := 19, ground := Ground.data }, { on := 18, ground := Ground.chain }], guard := none }) rfl (fun K hK => ?_) AllReadyH.nil
                    go_simp
                    refine (rwith_any z8 _ ⟨acc, pn⟩ xn sug vu qu mu Fo8.out Fu8.out (M.sm_mono HSM.out (by omega)) HRI.out).mono ?_
                    rintro e z9 ⟨v9, rfl, hsh, hb⟩
                    have B9 := hid (B8.out.trans (hb.mono B8.out.size))
                    have Fa9 := hid (Fa8.out.bel hb)
                    have Fb9 := hid (Fb8.out.bel hb)
                    have Fo9 := hid (Fo8.out.bel hb)
                    have Fba9 := hid (bx_bel Fba8.out hb)
                    have Fbb9 := hid (bx_bel Fbb8.out hb)
                    have Fbr9 := hid (bx_bel Fbr8.out hb)
                    have Fbo9 := hid (bx_bel Fbo8.out hb)
                    have Ff9 := hid (Ff8.out.bel hb)
                    have Fbf9 := hid (bx_bel Fbf8.out hb)
                    have Fg9 := hid (Fg8.out.bel hb)
                    have Fbg9 := hid (bx_bel Fbg8.out hb)
                    have Fu9 := hid (Fu8.out.bel hb)
                    clear B8 Fa8 Fb8 Fo8 Fba8 Fbb8 Fbr8 Fbo8 Ff8 Fbf8 Fg8 Fbg8 Fu8
                    obtain ⟨acc2, hacc2⟩ : ∃ l, M.withF ⟨xn, sug, vu⟩ acc = l := ⟨_, rfl⟩
                    rw [hacc2] at hsh
                    have HA2 := hid hacc2
                    obtain ⟨qn, mn, qn2, mn2, rfl⟩ := hsh.form
                    have Fn9 : Hid (ShAt z9 (.agg #[.slice qn acc2.length mn, .slice qn2 pn.length mn2]) ⟨acc2, pn⟩) := hid hsh
                    clear hsh hacc2 hb
                    refine hK.out _ _ (KH.out _ Fbf9.out Fbg9.out) (fun hHeld => ?_)
                    clear hK
                    refine wpAnyH_ready (rs := [21]) (by kernel_rfl) (by simp) ?_
                    refine AllReadyH.cons (o := { dst := none, op := Op.store 25 (Operand.tmp 5) (Operand.tmp 91), type := 0, pos := "ref.go:63", after := #[{ on := 20, ground := Ground.data }, { on := 20, ground := Ground.chain }, { on := 0, ground := Ground.phase }, { on := 1, ground := Ground.phase }, { on := 2, ground := Ground.phase }, { on := 3, ground := Ground.phase }, { on := 4, ground := Ground.phase }, { on := 5, ground := Ground.phase }, { on := 6, ground := Ground.phase }, { on := 7, ground := Ground.phase }, { on := 8, ground := Ground.phase }, { on := 9, ground := Ground.phase }, { on := 10, ground := Ground.phase }, { on := 11, ground := Ground.phase }, { on := 12, ground := Ground.phase }, { on := 13, ground := Ground.phase }, { on := 14, ground := Ground.phase }, { on := 15, ground := Ground.phase }, { on := 16, ground := Ground.phase }, { on := 17, ground := Ground.phase }, { on := 18, ground := Ground.phase }, { on := 19, ground := Ground.phase }, { on := 20, ground := Ground.phase }], guard := none }) rfl (fun K hK => ?_) AllReadyH.nil
                    obtain ⟨o0, o1, _⟩ := cells2 Fbo9.out
                    go_simp
                    clear o0 o1
                    obtain ⟨z10, hzz10⟩ : ∃ W, ((z9.setCell ⟨g5, 0, none⟩ (.slice qn acc2.length mn)).setCell ⟨g5, 1, none⟩ (.slice qn2 pn.length mn2)) = W := ⟨_, rfl⟩
                    have B10 : Hid (Below w.heap.size w z10) := by unfold Hid; rw [← hzz10]; exact set2b B9.out (by have := HG5.out; omega) _ _
                    have Fba10 := hid ((congrArg (fun W : World => W.heap[w.heap.size]?) hzz10).symm.trans ((box_off (by have := HG5.out; omega) _ _).trans Fba9.out))
                    have Fbb10 := hid ((congrArg (fun W : World => W.heap[w.heap.size + 1]?) hzz10).symm.trans ((box_off (by have := HG5.out; omega) _ _).trans Fbb9.out))
                    have Fbr10 := hid ((congrArg (fun W : World => W.heap[w.heap.size + 2]?) hzz10).symm.trans ((box_off (by have := HG5.out; omega) _ _).trans Fbr9.out))
                    have Fbf10 := hid ((congrArg (fun W : World => W.heap[w1.heap.size]?) hzz10).symm.trans ((box_off (Nat.ne_of_gt HGf.out) _ _).trans Fbf9.out))
                    have Fbg10 := hid ((congrArg (fun W : World => W.heap[w4.heap.size]?) hzz10).symm.trans ((box_off (Nat.ne_of_gt HGg.out) _ _).trans Fbg9.out))
                    have Fbo10 := hid ((congrArg (fun W : World => W.heap[g5]?) hzz10).symm.trans (box_set2 Fbo9.out _ _))
                    have Fn10 : Hid (ShAt z10 (.agg #[.slice qn acc2.length mn, .slice qn2 pn.length mn2]) ⟨acc2, pn⟩) := by unfold Hid; rw [← hzz10]; exact Fn9.out.off2 Fbo9.out _ _
                    try rw [hzz10]
                    clear hzz10
                    refine hK.out _ _ (KH.out _ Fbf10.out Fbg10.out) (fun hHeld => ?_)
                    clear hK
                    refine wpAnyH_done (by kernel_rfl) ?_ _
                    clear hHeld KH
                    go_wp2
                    refine ⟨⟨j + 1, acc2, qn, mn, qn2, mn2, by omega, by go_num, B10, Fba10, Fbb10, Fbr10, Fbo10, Fn10, ?_, ?_⟩, by simp [intOf]; omega⟩
                    · unfold Hid
                      rw [← HA2.out, HTK.out, List.foldl_append, ← HACC.out]
                      show _ = M.withF (M.jf s.fs t.fs xn) acc
                      rw [HJ3.out]
                    · unfold Hid
                      rw [← HA2.out]
                      exact M.sm_with HSM.out (by omega) (by have := HUL.out; show vu.length ≤ _; omega)
                  · go_simp
                    refine (runion_any V5.drew _ _ vsf vsg Ff7.out Fg7.out (Nat.le_trans Lf.out (by decide)) (Nat.le_trans Lg.out (by decide))).mono ?_
                    rintro e z8 ⟨v8, rfl, hA, hb⟩
                    have B8 := hid (B7.out.trans (hb.mono B7.out.size))
                    have Fa8 := hid (Fa7.out.bel hb)
                    have Fb8 := hid (Fb7.out.bel hb)
                    have Fo8 := hid (Fo7.out.bel hb)
                    have Fba8 := hid (bx_bel Fba7.out hb)
                    have Fbb8 := hid (bx_bel Fbb7.out hb)
                    have Fbr8 := hid (bx_bel Fbr7.out hb)
                    have Fbo8 := hid (bx_bel Fbo7.out hb)
                    have Ff8 := hid (Ff7.out.bel hb)
                    have Fbf8 := hid (bx_bel Fbf7.out hb)
                    have Fg8 := hid (Fg7.out.bel hb)
                    have Fbg8 := hid (bx_bel Fbg7.out hb)
                    clear B7 Fa7 Fb7 Fo7 Fba7 Fbb7 Fbr7 Fbo7 Ff7 Fbf7 Fg7 Fbg7
                    obtain ⟨vu, hvu⟩ : ∃ l, M.norm (vsf ++ vsg) = l := ⟨_, rfl⟩
                    have hul : vu.length ≤ 20000 := by rw [← hvu]; have h := M.norm_length (vsf ++ vsg); rw [List.length_append] at h; have := Lf.out; have := Lg.out; omega
                    have HUL := hid hul
                    rw [hvu] at hA
                    have HJ3 : Hid (M.jf s.fs t.fs xn = ⟨xn, sug, vu⟩) := by unfold Hid; rw [HJ2.out, hvu]
                    obtain ⟨qu, mu, rfl⟩ := hA.form
                    have Fu8 : Hid (AtAt z8 (.slice qu vu.length mu) vu) := hid hA
                    clear hA hvu hul hb
                    refine hK.out _ _ (KH.out _ Fbf8.out Fbg8.out) (fun hHeld => ?_)
                    clear hK
                    refine wpAnyH_take (i := 19) (oi := { dst := some 90, op := Op.build 29 #[(0, Operand.tmp 72), (1, Operand.tmp 84), (2, Operand.tmp 89)], type := 29, pos := "ref.go:63", after := #[{ on := 1, ground := Ground.data }, { on := 13, ground := Ground.data }, { on := 18, ground := Ground.data }], guard := none }) (v := ?_) rfl (by kernel_rfl) (by kernel_rfl) (by kernel_rfl) (fun _ _ _ h => h) (Or.inl ⟨by rfl, ?_⟩) hHeld ?_
                    rotate_left
                    · intro w hSw; (try dsimp only at hSw); go_simp; (try with_reducible rfl)
                    simp only [Act.put, List.setIfInBounds_toArray, List.set_cons_zero, List.set_cons_succ]
                    refine wpAnyH_ready (rs := [0]) (by kernel_rfl) (by simp) ?_
                    refine AllReadyH.cons (o := { dst := some 71, op := Op.load 25 (Operand.tmp 5), type := 25, pos := "ref.go:63", after := #[], guard := none }) rfl (fun K hK => ?_) AllReadyH.nil
                    obtain ⟨o0, o1, _⟩ := cells2 Fbo8.out
                    go_simp
                    clear o0 o1
                    refine hK.out _ _ (KH.out _ Fbf8.out Fbg8.out) (fun hHeld => ?_)
                    clear hK
                    refine wpAnyH_ready (rs := [20]) (by kernel_rfl) (by simp) ?_
                    refine AllReadyH.cons (o := { dst := some 91, op := Op.call { callee := Callee.value (Operand.func 37), args := #[Operand.tmp 71, Operand.tmp 90], argTypes := #[25, 29] }, type := 25, pos := "ref.go:63", after := #[{ on := 0, ground := Ground.data }, { on := 19, ground := Ground.data }, { on := 18, ground := Ground.chain }], guard := none }) rfl (fun K hK => ?_) AllReadyH.nil
                    go_simp
                    refine (rwith_any z8 _ ⟨acc, pn⟩ xn sug vu qu mu Fo8.out Fu8.out (M.sm_mono HSM.out (by omega)) HRI.out).mono ?_
                    rintro e z9 ⟨v9, rfl, hsh, hb⟩
                    have B9 := hid (B8.out.trans (hb.mono B8.out.size))
                    have Fa9 := hid (Fa8.out.bel hb)
                    have Fb9 := hid (Fb8.out.bel hb)
                    have Fo9 := hid (Fo8.out.bel hb)
                    have Fba9 := hid (bx_bel Fba8.out hb)
                    have Fbb9 := hid (bx_bel Fbb8.out hb)
                    have Fbr9 := hid (bx_bel Fbr8.out hb)
                    have Fbo9 := hid (bx_bel Fbo8.out hb)
                    have Ff9 := hid (Ff8.out.bel hb)
                    have Fbf9 := hid (bx_bel Fbf8.out hb)
                    have Fg9 := hid (Fg8.out.bel hb)
                    have Fbg9 := hid (bx_bel Fbg8.out hb)
                    have Fu9 := hid (Fu8.out.bel hb)
                    clear B8 Fa8 Fb8 Fo8 Fba8 Fbb8 Fbr8 Fbo8 Ff8 Fbf8 Fg8 Fbg8 Fu8
                    obtain ⟨acc2, hacc2⟩ : ∃ l, M.withF ⟨xn, sug, vu⟩ acc = l := ⟨_, rfl⟩
                    rw [hacc2] at hsh
                    have HA2 := hid hacc2
                    obtain ⟨qn, mn, qn2, mn2, rfl⟩ := hsh.form
                    have Fn9 : Hid (ShAt z9 (.agg #[.slice qn acc2.length mn, .slice qn2 pn.length mn2]) ⟨acc2, pn⟩) := hid hsh
                    clear hsh hacc2 hb
                    refine hK.out _ _ (KH.out _ Fbf9.out Fbg9.out) (fun hHeld => ?_)
                    clear hK
                    refine wpAnyH_ready (rs := [21]) (by kernel_rfl) (by simp) ?_
                    refine AllReadyH.cons (o := { dst := none, op := Op.store 25 (Operand.tmp 5) (Operand.tmp 91), type := 0, pos := "ref.go:63", after := #[{ on := 20, ground := Ground.data }, { on := 20, ground := Ground.chain }, { on := 0, ground := Ground.phase }, { on := 1, ground := Ground.phase }, { on := 2, ground := Ground.phase }, { on := 3, ground := Ground.phase }, { on := 4, ground := Ground.phase }, { on := 5, ground := Ground.phase }, { on := 6, ground := Ground.phase }, { on := 7, ground := Ground.phase }, { on := 8, ground := Ground.phase }, { on := 9, ground := Ground.phase }, { on := 10, ground := Ground.phase }, { on := 11, ground := Ground.phase }, { on := 12, ground := Ground.phase }, { on := 13, ground := Ground.phase }, { on := 14, ground := Ground.phase }, { on := 15, ground := Ground.phase }, { on := 16, ground := Ground.phase }, { on := 17, ground := Ground.phase }, { on := 18, ground := Ground.phase }, { on := 19, ground := Ground.phase }, { on := 20, ground := Ground.phase }], guard := none }) rfl (fun K hK => ?_) AllReadyH.nil
                    obtain ⟨o0, o1, _⟩ := cells2 Fbo9.out
                    go_simp
                    clear o0 o1
                    obtain ⟨z10, hzz10⟩ : ∃ W, ((z9.setCell ⟨g5, 0, none⟩ (.slice qn acc2.length mn)).setCell ⟨g5, 1, none⟩ (.slice qn2 pn.length mn2)) = W := ⟨_, rfl⟩
                    have B10 : Hid (Below w.heap.size w z10) := by unfold Hid; rw [← hzz10]; exact set2b B9.out (by have := HG5.out; omega) _ _
                    have Fba10 := hid ((congrArg (fun W : World => W.heap[w.heap.size]?) hzz10).symm.trans ((box_off (by have := HG5.out; omega) _ _).trans Fba9.out))
                    have Fbb10 := hid ((congrArg (fun W : World => W.heap[w.heap.size + 1]?) hzz10).symm.trans ((box_off (by have := HG5.out; omega) _ _).trans Fbb9.out))
                    have Fbr10 := hid ((congrArg (fun W : World => W.heap[w.heap.size + 2]?) hzz10).symm.trans ((box_off (by have := HG5.out; omega) _ _).trans Fbr9.out))
                    have Fbf10 := hid ((congrArg (fun W : World => W.heap[w1.heap.size]?) hzz10).symm.trans ((box_off (Nat.ne_of_gt HGf.out) _ _).trans Fbf9.out))
                    have Fbg10 := hid ((congrArg (fun W : World => W.heap[w4.heap.size]?) hzz10).symm.trans ((box_off (Nat.ne_of_gt HGg.out) _ _).trans Fbg9.out))
                    have Fbo10 := hid ((congrArg (fun W : World => W.heap[g5]?) hzz10).symm.trans (box_set2 Fbo9.out _ _))
                    have Fn10 : Hid (ShAt z10 (.agg #[.slice qn acc2.length mn, .slice qn2 pn.length mn2]) ⟨acc2, pn⟩) := by unfold Hid; rw [← hzz10]; exact Fn9.out.off2 Fbo9.out _ _
                    try rw [hzz10]
                    clear hzz10
                    refine hK.out _ _ (KH.out _ Fbf10.out Fbg10.out) (fun hHeld => ?_)
                    clear hK
                    refine wpAnyH_done (by kernel_rfl) ?_ _
                    clear hHeld KH
                    go_wp2
                    refine ⟨⟨j + 1, acc2, qn, mn, qn2, mn2, by omega, by go_num, B10, Fba10, Fbb10, Fbr10, Fbo10, Fn10, ?_, ?_⟩, by simp [intOf]; omega⟩
                    · unfold Hid
                      rw [← HA2.out, HTK.out, List.foldl_append, ← HACC.out]
                      show _ = M.withF (M.jf s.fs t.fs xn) acc
                      rw [HJ3.out]
                    · unfold Hid
                      rw [← HA2.out]
                      exact M.sm_with HSM.out (by omega) (by have := HUL.out; show vu.length ≤ _; omega)
          · obtain ⟨k, rfl⟩ : ∃ k, j = R.length + k := ⟨j - R.length, by omega⟩
            have hkl : k < Q.length := by omega
            have hsub : IntKind.i64.wrap ((R.length : Int) + (k : Int) - (R.length : Int)) = (k : Int) := by rw [IntKind.wrap_i64]; omega
            have hsub2 : IntKind.i64.wrap (k : Int) = (k : Int) := by rw [IntKind.wrap_i64]; omega
            have hlt2 : decide ((R.length : Int) + (k : Int) < (R.length : Int) + (Q.length : Int)) = true := decide_eq_true (by omega)
            have hnl : decide ((R.length : Int) + (k : Int) < (R.length : Int)) = false := decide_eq_false (by omega)
            obtain ⟨bb, o, rfl, hltb, hc⟩ := Rs_some HQ.out hkl
            obtain ⟨c1, _, _⟩ := (hc k hkl).bel hltb HB.out
            obtain ⟨⟨⟨xn, xs, xv⟩, xa, xc⟩, hx⟩ : ∃ x, Q[k] = x := ⟨_, rfl⟩
            rw [hx] at c1
            dsimp only at c1
            have HTK : Hid ((s.fs ++ t.fs).take ((R.length + k) + 1) = (s.fs ++ t.fs).take (R.length + k) ++ [⟨xn, xs, xv⟩]) := by
              unfold Hid
              rw [List.take_succ_eq_append_getElem (by rw [List.length_append, HF.out.1, HF.out.2, fldOf_len, fldOf_len]; omega)]
              congr 2
              simp only [HF.out.1, HF.out.2, fldOf, ← List.map_append, List.getElem_map]
              rw [List.getElem_append_right (by omega)]
              simp only [Nat.add_sub_cancel_left, hx]
            clear hx hc
            obtain ⟨p, hp⟩ : ∃ t0, (M.getF s.fs xn).isSome = t0 := ⟨_, rfl⟩
            have Hp := hid hp
            clear hp
            obtain ⟨q, hq⟩ : ∃ t0, (M.getF t.fs xn).isSome = t0 := ⟨_, rfl⟩
            have Hq := hid hq
            clear hq
            obtain ⟨xba0, xba1, _⟩ := cells2 I1.out
            obtain ⟨xbb0, xbb1, _⟩ := cells2 I2.out
            obtain ⟨xbr0, xbr1, _⟩ := cells2 I3.out
            obtain ⟨xbo0, xbo1, _⟩ := cells2 I4.out
            go_wp2_with (first | (go_at_call 12; refine stopHere ?_))
            refine stopAt ?_
            refine (rget_any wr _ s xn FA.out HK1.out).mono ?_
            rintro e w1 ⟨y1, rfl, hyf, hoy, hb⟩
            have B1 := hid (HB.out.trans (hb.mono HB.out.size))
            have Fa1 := hid (FA.out.bel hb)
            have Fb1 := hid (FB.out.bel hb)
            have Fo1 := hid (HSH.out.bel hb)
            have Fba1 := hid (bx_bel I1.out hb)
            have Fbb1 := hid (bx_bel I2.out hb)
            have Fbr1 := hid (bx_bel I3.out hb)
            have Fbo1 := hid (bx_bel I4.out hb)
            clear HB FA FB HSH I1 I2 I3 I4
            rw [Hp.out]
            have Ff1 := hid hoy
            have Yf := hid hyf
            clear hoy hyf
            obtain ⟨⟨nmf, suf, vsf⟩, yaf, ycf⟩ := y1
            unfold fv
            clear hb xba0 xba1 xbb0 xbb1 xbr0 xbr1 xbo0 xbo1 c1 x1 x2 y1 y2 hlt hsub hsub2 hlt2 hnl
            have HGf : Hid (g5 < w1.heap.size) := (Array.getElem?_eq_some_iff.1 Fbo1.out).1
            obtain ⟨V2, hV2⟩ : ∃ W, w1.alloc (.cells #[.string nmf, .bool suf, .slice yaf vsf.length ycf] 29) = W := ⟨_, rfl⟩
            have hbx : Below w1.heap.size w1 V2 := by rw [← hV2]; exact (gr_new _ _).below
            have Nbf : Hid (V2.heap[w1.heap.size]? = some (.cells #[.string nmf, .bool suf, .slice yaf vsf.length ycf] 29 (0, 0))) := by unfold Hid; rw [← hV2]; exact new_at _ _
            have B3 := hid (B1.out.trans (hbx.mono B1.out.size))
            have Fa3 := hid (Fa1.out.bel hbx)
            have Fb3 := hid (Fb1.out.bel hbx)
            have Fo3 := hid (Fo1.out.bel hbx)
            have Fba3 := hid (bx_bel Fba1.out hbx)
            have Fbb3 := hid (bx_bel Fbb1.out hbx)
            have Fbr3 := hid (bx_bel Fbr1.out hbx)
            have Fbo3 := hid (bx_bel Fbo1.out hbx)
            have Ff3 := hid (Ff1.out.bel hbx)
            clear B1 Fa1 Fb1 Fo1 Fba1 Fbb1 Fbr1 Fbo1 Ff1
            clear hbx
            obtain ⟨xba0, xba1, _⟩ := cells2 Fba3.out
            obtain ⟨xbb0, xbb1, _⟩ := cells2 Fbb3.out
            obtain ⟨xbr0, xbr1, _⟩ := cells2 Fbr3.out
            obtain ⟨xbo0, xbo1, _⟩ := cells2 Fbo3.out
            obtain ⟨xbf0, xbf1, xbf2, _⟩ := cells3 Nbf.out
            go_wp2_with (first | (go_at_call 12; refine stopHere ?_))
            refine stopAt ?_
            refine (rget_any V2 _ t xn Fb3.out HK2.out).mono ?_
            rintro e w4 ⟨y4, rfl, hyf, hoy, hb⟩
            have B4 := hid (B3.out.trans (hb.mono B3.out.size))
            have Fa4 := hid (Fa3.out.bel hb)
            have Fb4 := hid (Fb3.out.bel hb)
            have Fo4 := hid (Fo3.out.bel hb)
            have Fba4 := hid (bx_bel Fba3.out hb)
            have Fbb4 := hid (bx_bel Fbb3.out hb)
            have Fbr4 := hid (bx_bel Fbr3.out hb)
            have Fbo4 := hid (bx_bel Fbo3.out hb)
            have Ff4 := hid (Ff3.out.bel hb)
            have Fbf4 := hid (bx_bel Nbf.out hb)
            clear B3 Fa3 Fb3 Fo3 Fba3 Fbb3 Fbr3 Fbo3 Ff3 Nbf
            rw [Hq.out]
            have Fg4 := hid hoy
            have Yg := hid hyf
            clear hoy hyf
            obtain ⟨⟨nmg, sug, vsg⟩, yag, ycg⟩ := y4
            unfold fv
            clear hb xba0 xba1 xbb0 xbb1 xbr0 xbr1 xbo0 xbo1 xbf0 xbf1 xbf2 hV2
            have HGg : Hid (g5 < w4.heap.size) := (Array.getElem?_eq_some_iff.1 Fbo4.out).1
            obtain ⟨V5, hV5⟩ : ∃ W, w4.alloc (.cells #[.string nmg, .bool sug, .slice yag vsg.length ycg] 29) = W := ⟨_, rfl⟩
            have hbx : Below w4.heap.size w4 V5 := by rw [← hV5]; exact (gr_new _ _).below
            have Nbg : Hid (V5.heap[w4.heap.size]? = some (.cells #[.string nmg, .bool sug, .slice yag vsg.length ycg] 29 (0, 0))) := by unfold Hid; rw [← hV5]; exact new_at _ _
            have B6 := hid (B4.out.trans (hbx.mono B4.out.size))
            have Fa6 := hid (Fa4.out.bel hbx)
            have Fb6 := hid (Fb4.out.bel hbx)
            have Fo6 := hid (Fo4.out.bel hbx)
            have Fba6 := hid (bx_bel Fba4.out hbx)
            have Fbb6 := hid (bx_bel Fbb4.out hbx)
            have Fbr6 := hid (bx_bel Fbr4.out hbx)
            have Fbo6 := hid (bx_bel Fbo4.out hbx)
            have Ff6 := hid (Ff4.out.bel hbx)
            have Fbf6 := hid (bx_bel Fbf4.out hbx)
            have Fg6 := hid (Fg4.out.bel hbx)
            clear B4 Fa4 Fb4 Fo4 Fba4 Fbb4 Fbr4 Fbo4 Ff4 Fbf4 Fg4
            clear hbx
            have HJF := hid (jf_of Yf.out Yg.out)
            rw [Hp.out, Hq.out] at HJF
            have Lf := hid (get_len0 HL1.out Yf.out)
            have Lg := hid (get_len0 HL2.out Yg.out)
            clear Yf Yg Hp Hq
            rcases p with _ | _
            · have HJ2 : Hid (M.jf s.fs t.fs xn = ⟨xn, false, M.norm (vsf ++ vsg)⟩) := by unfold Hid; rw [HJF.out]; simp
              clear HJF
              obtain ⟨xba0, xba1, _⟩ := cells2 Fba6.out
              obtain ⟨xbb0, xbb1, _⟩ := cells2 Fbb6.out
              obtain ⟨xbr0, xbr1, _⟩ := cells2 Fbr6.out
              obtain ⟨xbo0, xbo1, _⟩ := cells2 Fbo6.out
              obtain ⟨xbf0, xbf1, xbf2, _⟩ := cells3 Fbf6.out
              obtain ⟨xbg0, xbg1, xbg2, _⟩ := cells3 Nbg.out
              go_wp2_with fail
              clear xba0 xba1 xbb0 xbb1 xbr0 xbr1 xbo0 xbo1 xbf0 xbf1 xbf2 xbg0 xbg1 xbg2
              clear hV5
              have KH : Hid (∀ W : World, W.heap[w1.heap.size]? = some (.cells #[.string nmf, .bool suf, .slice yaf vsf.length ycf] 29 (0, 0)) → W.heap[w4.heap.size]? = some (.cells #[.string nmg, .bool sug, .slice yag vsg.length ycg] 29 (0, 0)) → (W.cell? ⟨w1.heap.size, 0, none⟩ = some (.string nmf) ∧ W.cell? ⟨w1.heap.size, 1, none⟩ = some (.bool suf) ∧ W.cell? ⟨w1.heap.size, 2, none⟩ = some (.slice yaf vsf.length ycf) ∧ W.cell? ⟨w4.heap.size, 0, none⟩ = some (.string nmg) ∧ W.cell? ⟨w4.heap.size, 1, none⟩ = some (.bool sug) ∧ W.cell? ⟨w4.heap.size, 2, none⟩ = some (.slice yag vsg.length ycg))) := fun W h1 h2 => by
                obtain ⟨e0, e1, e2, _⟩ := cells3 h1
                obtain ⟨e3, e4, e5, _⟩ := cells3 h2
                exact ⟨e0, e1, e2, e3, e4, e5⟩
              have hbd : Below V5.heap.size V5 V5.drew := (Gr.refl _).drew.below
              refine wp_region_held_drew (S := fun W => W.cell? ⟨w1.heap.size, 0, none⟩ = some (.string nmf) ∧ W.cell? ⟨w1.heap.size, 1, none⟩ = some (.bool suf) ∧ W.cell? ⟨w1.heap.size, 2, none⟩ = some (.slice yaf vsf.length ycf) ∧ W.cell? ⟨w4.heap.size, 0, none⟩ = some (.string nmg) ∧ W.cell? ⟨w4.heap.size, 1, none⟩ = some (.bool sug) ∧ W.cell? ⟨w4.heap.size, 2, none⟩ = some (.slice yag vsg.length ycg)) (by kernel_rfl) (KH.out _ (bx_bel0 Fbf6.out hbd) (bx_bel0 Nbg.out hbd)) (fun hHeld => ?_)
              have B7 := hid (B6.out.trans (hbd.mono B6.out.size))
              have Fa7 := hid (Fa6.out.bel hbd)
              have Fb7 := hid (Fb6.out.bel hbd)
              have Fo7 := hid (Fo6.out.bel hbd)
              have Fba7 := hid (bx_bel Fba6.out hbd)
              have Fbb7 := hid (bx_bel Fbb6.out hbd)
              have Fbr7 := hid (bx_bel Fbr6.out hbd)
              have Fbo7 := hid (bx_bel Fbo6.out hbd)
              have Ff7 := hid (Ff6.out.bel hbd)
              have Fbf7 := hid (bx_bel Fbf6.out hbd)
              have Fg7 := hid (Fg6.out.bel hbd)
              have Fbg7 := hid (bx_bel Nbg.out hbd)
              clear B6 Fa6 Fb6 Fo6 Fba6 Fbb6 Fbr6 Fbo6 Ff6 Fbf6 Fg6 Nbg
              clear hbd
              refine wpAnyH_take (i := 1) (oi := { dst := some 72, op := Op.move (Operand.tmp 7), type := 9, pos := "ref.go:63", after := #[], guard := none }) (v := ?_) rfl (by kernel_rfl) (by kernel_rfl) (by kernel_rfl) (fun _ _ _ h => h) (Or.inl ⟨by rfl, ?_⟩) hHeld ?_
              rotate_left
              · intro w hSw; (try dsimp only at hSw); go_simp; (try with_reducible rfl)
              simp only [Act.put, List.setIfInBounds_toArray, List.set_cons_zero, List.set_cons_succ]
              refine wpAnyH_take (i := 2) (oi := { dst := some 73, op := Op.move (Operand.tmp 9), type := 4, pos := "ref.go:63", after := #[], guard := none }) (v := ?_) rfl (by kernel_rfl) (by kernel_rfl) (by kernel_rfl) (fun _ _ _ h => h) (Or.inl ⟨by rfl, ?_⟩) hHeld ?_
              rotate_left
              · intro w hSw; (try dsimp only at hSw); go_simp; (try with_reducible rfl)
              simp only [Act.put, List.setIfInBounds_toArray, List.set_cons_zero, List.set_cons_succ]
              refine wpAnyH_take (i := 3) (oi := { dst := some 74, op := Op.move (Operand.tmp 73), type := 4, pos := "ref.go:63", after := #[{ on := 2, ground := Ground.data }], guard := none }) (v := ?_) rfl (by kernel_rfl) (by kernel_rfl) (by kernel_rfl) (fun _ _ _ h => h) (Or.inl ⟨by rfl, ?_⟩) hHeld ?_
              rotate_left
              · intro w hSw; (try dsimp only at hSw); go_simp; (try with_reducible rfl)
              simp only [Act.put, List.setIfInBounds_toArray, List.set_cons_zero, List.set_cons_succ]
              refine wpAnyH_take (i := 4) (oi := { dst := some 75, op := Op.move (Operand.tmp 11), type := 4, pos := "ref.go:63", after := #[{ on := 3, ground := Ground.guard }], guard := some (3, true) }) (v := undef) rfl (by kernel_rfl) (by kernel_rfl) (by kernel_rfl) (fun _ _ _ h => h) (Or.inr ⟨by rfl, rfl⟩) hHeld ?_
              simp only [Act.put, List.setIfInBounds_toArray, List.set_cons_zero, List.set_cons_succ]
              refine wpAnyH_take (i := 5) (oi := { dst := some 76, op := Op.pick (Operand.tmp 74) (Operand.tmp 75) (Operand.const (Value.bool false)), type := 4, pos := "ref.go:63", after := #[{ on := 3, ground := Ground.data }, { on := 4, ground := Ground.data }], guard := none }) (v := ?_) rfl (by kernel_rfl) (by kernel_rfl) (by kernel_rfl) (fun _ _ _ h => h) (Or.inl ⟨by rfl, ?_⟩) hHeld ?_
              rotate_left
              · intro w hSw; (try dsimp only at hSw); go_simp; (try with_reducible rfl)
              simp only [Act.put, List.setIfInBounds_toArray, List.set_cons_zero, List.set_cons_succ]
              refine wpAnyH_take (i := 6) (oi := { dst := some 77, op := Op.move (Operand.tmp 76), type := 4, pos := "ref.go:63", after := #[{ on := 5, ground := Ground.data }, { on := 3, ground := Ground.chain }], guard := none }) (v := ?_) rfl (by kernel_rfl) (by kernel_rfl) (by kernel_rfl) (fun _ _ _ h => h) (Or.inl ⟨by rfl, ?_⟩) hHeld ?_
              rotate_left
              · intro w hSw; (try dsimp only at hSw); go_simp; (try with_reducible rfl)
              simp only [Act.put, List.setIfInBounds_toArray, List.set_cons_zero, List.set_cons_succ]
              refine wpAnyH_take (i := 7) (oi := { dst := some 78, op := Op.fieldAddr 29 (Operand.tmp 8) 1, type := 0, pos := "ref.go:63", after := #[{ on := 6, ground := Ground.guard }], guard := some (6, true) }) (v := undef) rfl (by kernel_rfl) (by kernel_rfl) (by kernel_rfl) (fun _ _ _ h => h) (Or.inr ⟨by rfl, rfl⟩) hHeld ?_
              simp only [Act.put, List.setIfInBounds_toArray, List.set_cons_zero, List.set_cons_succ]
              refine wpAnyH_take (i := 8) (oi := { dst := some 79, op := Op.load 4 (Operand.tmp 78), type := 4, pos := "ref.go:63", after := #[{ on := 7, ground := Ground.data }, { on := 6, ground := Ground.guard }], guard := some (6, true) }) (v := undef) rfl (by kernel_rfl) (by kernel_rfl) (by kernel_rfl) (fun _ _ _ h => h) (Or.inr ⟨by rfl, rfl⟩) hHeld ?_
              simp only [Act.put, List.setIfInBounds_toArray, List.set_cons_zero, List.set_cons_succ]
              refine wpAnyH_take (i := 9) (oi := { dst := some 80, op := Op.pick (Operand.tmp 77) (Operand.tmp 79) (Operand.const (Value.bool false)), type := 4, pos := "ref.go:63", after := #[{ on := 6, ground := Ground.data }, { on := 8, ground := Ground.data }], guard := none }) (v := ?_) rfl (by kernel_rfl) (by kernel_rfl) (by kernel_rfl) (fun _ _ _ h => h) (Or.inl ⟨by rfl, ?_⟩) hHeld ?_
              rotate_left
              · intro w hSw; (try dsimp only at hSw); go_simp; (try with_reducible rfl)
              simp only [Act.put, List.setIfInBounds_toArray, List.set_cons_zero, List.set_cons_succ]
              refine wpAnyH_take (i := 10) (oi := { dst := some 81, op := Op.move (Operand.tmp 80), type := 4, pos := "ref.go:63", after := #[{ on := 9, ground := Ground.data }, { on := 6, ground := Ground.chain }], guard := none }) (v := ?_) rfl (by kernel_rfl) (by kernel_rfl) (by kernel_rfl) (fun _ _ _ h => h) (Or.inl ⟨by rfl, ?_⟩) hHeld ?_
              rotate_left
              · intro w hSw; (try dsimp only at hSw); go_simp; (try with_reducible rfl)
              simp only [Act.put, List.setIfInBounds_toArray, List.set_cons_zero, List.set_cons_succ]
              refine wpAnyH_take (i := 11) (oi := { dst := some 82, op := Op.fieldAddr 29 (Operand.tmp 10) 1, type := 0, pos := "ref.go:63", after := #[{ on := 10, ground := Ground.guard }], guard := some (10, true) }) (v := undef) rfl (by kernel_rfl) (by kernel_rfl) (by kernel_rfl) (fun _ _ _ h => h) (Or.inr ⟨by rfl, rfl⟩) hHeld ?_
              simp only [Act.put, List.setIfInBounds_toArray, List.set_cons_zero, List.set_cons_succ]
              refine wpAnyH_take (i := 12) (oi := { dst := some 83, op := Op.load 4 (Operand.tmp 82), type := 4, pos := "ref.go:63", after := #[{ on := 11, ground := Ground.data }, { on := 10, ground := Ground.guard }], guard := some (10, true) }) (v := undef) rfl (by kernel_rfl) (by kernel_rfl) (by kernel_rfl) (fun _ _ _ h => h) (Or.inr ⟨by rfl, rfl⟩) hHeld ?_
              simp only [Act.put, List.setIfInBounds_toArray, List.set_cons_zero, List.set_cons_succ]
              refine wpAnyH_take (i := 13) (oi := { dst := some 84, op := Op.pick (Operand.tmp 81) (Operand.tmp 83) (Operand.const (Value.bool false)), type := 4, pos := "ref.go:63", after := #[{ on := 10, ground := Ground.data }, { on := 12, ground := Ground.data }], guard := none }) (v := ?_) rfl (by kernel_rfl) (by kernel_rfl) (by kernel_rfl) (fun _ _ _ h => h) (Or.inl ⟨by rfl, ?_⟩) hHeld ?_
              rotate_left
              · intro w hSw; (try dsimp only at hSw); go_simp; (try with_reducible rfl)
              simp only [Act.put, List.setIfInBounds_toArray, List.set_cons_zero, List.set_cons_succ]
              refine wpAnyH_take (i := 14) (oi := { dst := some 85, op := Op.fieldAddr 29 (Operand.tmp 8) 2, type := 0, pos := "ref.go:63", after := #[], guard := none }) (v := ?_) rfl (by kernel_rfl) (by kernel_rfl) (by kernel_rfl) (fun _ _ _ h => h) (Or.inl ⟨by rfl, ?_⟩) hHeld ?_
              rotate_left
              · intro w hSw; (try dsimp only at hSw); go_simp; (try with_reducible rfl)
              simp only [Act.put, List.setIfInBounds_toArray, List.set_cons_zero, List.set_cons_succ]
              refine wpAnyH_take (i := 15) (oi := { dst := some 86, op := Op.load 23 (Operand.tmp 85), type := 23, pos := "ref.go:63", after := #[{ on := 14, ground := Ground.data }], guard := none }) (v := ?_) rfl (by kernel_rfl) (by kernel_rfl) (by kernel_rfl) (fun _ _ _ h => h) (Or.inl ⟨by rfl, ?_⟩) hHeld ?_
              rotate_left
              · intro w hSw; (try dsimp only at hSw); go_simp; (try with_reducible rfl)
              simp only [Act.put, List.setIfInBounds_toArray, List.set_cons_zero, List.set_cons_succ]
              refine wpAnyH_take (i := 16) (oi := { dst := some 87, op := Op.fieldAddr 29 (Operand.tmp 10) 2, type := 0, pos := "ref.go:63", after := #[], guard := none }) (v := ?_) rfl (by kernel_rfl) (by kernel_rfl) (by kernel_rfl) (fun _ _ _ h => h) (Or.inl ⟨by rfl, ?_⟩) hHeld ?_
              rotate_left
              · intro w hSw; (try dsimp only at hSw); go_simp; (try with_reducible rfl)
              simp only [Act.put, List.setIfInBounds_toArray, List.set_cons_zero, List.set_cons_succ]
              refine wpAnyH_take (i := 17) (oi := { dst := some 88, op := Op.load 23 (Operand.tmp 87), type := 23, pos := "ref.go:63", after := #[{ on := 16, ground := Ground.data }], guard := none }) (v := ?_) rfl (by kernel_rfl) (by kernel_rfl) (by kernel_rfl) (fun _ _ _ h => h) (Or.inl ⟨by rfl, ?_⟩) hHeld ?_
              rotate_left
              · intro w hSw; (try dsimp only at hSw); go_simp; (try with_reducible rfl)
              simp only [Act.put, List.setIfInBounds_toArray, List.set_cons_zero, List.set_cons_succ]
              refine wpAnyH_ready (rs := [0, 18]) (by kernel_rfl) (by simp) ?_
              refine AllReadyH.cons (o := { dst := some 71, op := Op.load 25 (Operand.tmp 5), type := 25, pos := "ref.go:63", after := #[], guard := none }) rfl (fun K hK => ?_) (AllReadyH.cons (o := { dst := some 89, op := Op.call { callee := Callee.value (Operand.func 30), args := #[Operand.tmp 86, Operand.tmp 88], argTypes := #[23, 23] }, type := 23, pos := "ref.go:63", after := #[{ on := 15, ground := Ground.data }, { on := 17, ground := Ground.data }, { on := 10, ground := Ground.chain }], guard := none }) rfl (fun K hK => ?_) AllReadyH.nil)
              · obtain ⟨o0, o1, _⟩ := cells2 Fbo7.out
                go_simp
                clear o0 o1
                refine hK.out _ _ (KH.out _ Fbf7.out Fbg7.out) (fun hHeld => ?_)
                clear hK
                refine wpAnyH_ready (rs := [18]) (by kernel_rfl) (by simp) ?_
                refine AllReadyH.cons (o := { dst := some 89, op := Op.call { callee := Callee.value (Operand.func 30), args := #[Operand.tmp 86, Operand.tmp 88], argTypes := #[23, 23] }, type := 23, pos := "ref.go:63", after := #[{ on := 15, ground := Ground.data }, { on := 17, ground := Ground.data }, { on := 10, ground := Ground.chain }], guard := none }) rfl (fun K hK => ?_) AllReadyH.nil
                go_simp
                refine (runion_any V5.drew _ _ vsf vsg Ff7.out Fg7.out (Nat.le_trans Lf.out (by decide)) (Nat.le_trans Lg.out (by decide))).mono ?_
                rintro e z8 ⟨v8, rfl, hA, hb⟩
                have B8 := hid (B7.out.trans (hb.mono B7.out.size))
                have Fa8 := hid (Fa7.out.bel hb)
                have Fb8 := hid (Fb7.out.bel hb)
                have Fo8 := hid (Fo7.out.bel hb)
                have Fba8 := hid (bx_bel Fba7.out hb)
                have Fbb8 := hid (bx_bel Fbb7.out hb)
                have Fbr8 := hid (bx_bel Fbr7.out hb)
                have Fbo8 := hid (bx_bel Fbo7.out hb)
                have Ff8 := hid (Ff7.out.bel hb)
                have Fbf8 := hid (bx_bel Fbf7.out hb)
                have Fg8 := hid (Fg7.out.bel hb)
                have Fbg8 := hid (bx_bel Fbg7.out hb)
                clear B7 Fa7 Fb7 Fo7 Fba7 Fbb7 Fbr7 Fbo7 Ff7 Fbf7 Fg7 Fbg7
                obtain ⟨vu, hvu⟩ : ∃ l, M.norm (vsf ++ vsg) = l := ⟨_, rfl⟩
                have hul : vu.length ≤ 20000 := by rw [← hvu]; have h := M.norm_length (vsf ++ vsg); rw [List.length_append] at h; have := Lf.out; have := Lg.out; omega
                have HUL := hid hul
                rw [hvu] at hA
                have HJ3 : Hid (M.jf s.fs t.fs xn = ⟨xn, false, vu⟩) := by unfold Hid; rw [HJ2.out, hvu]
                obtain ⟨qu, mu, rfl⟩ := hA.form
                have Fu8 : Hid (AtAt z8 (.slice qu vu.length mu) vu) := hid hA
                clear hA hvu hul hb
                refine hK.out _ _ (KH.out _ Fbf8.out Fbg8.out) (fun hHeld => ?_)
                clear hK
                refine wpAnyH_take (i := 19) (oi := { dst := some 90, op := Op.build 29 #[(0, Operand.tmp 72), (1, Operand.tmp 84), (2, Operand.tmp 89)], type := 29, pos := "ref.go:63", after := #[{ on := 1, ground := Ground.data }, { on := 13, ground := Ground.data }, { on := 18, ground := Ground.data }], guard := none }) (v := ?_) rfl (by kernel_rfl) (by kernel_rfl) (by kernel_rfl) (fun _ _ _ h => h) (Or.inl ⟨by rfl, ?_⟩) hHeld ?_
                rotate_left
                · intro w hSw; (try dsimp only at hSw); go_simp; (try with_reducible rfl)
                simp only [Act.put, List.setIfInBounds_toArray, List.set_cons_zero, List.set_cons_succ]
                refine wpAnyH_ready (rs := [20]) (by kernel_rfl) (by simp) ?_
                refine AllReadyH.cons (o := { dst := some 91, op := Op.call { callee := Callee.value (Operand.func 37), args := #[Operand.tmp 71, Operand.tmp 90], argTypes := #[25, 29] }, type := 25, pos := "ref.go:63", after := #[{ on := 0, ground := Ground.data }, { on := 19, ground := Ground.data }, { on := 18, ground := Ground.chain }], guard := none }) rfl (fun K hK => ?_) AllReadyH.nil
                go_simp
                refine (rwith_any z8 _ ⟨acc, pn⟩ xn false vu qu mu Fo8.out Fu8.out (M.sm_mono HSM.out (by omega)) HRI.out).mono ?_
                rintro e z9 ⟨v9, rfl, hsh, hb⟩
                have B9 := hid (B8.out.trans (hb.mono B8.out.size))
                have Fa9 := hid (Fa8.out.bel hb)
                have Fb9 := hid (Fb8.out.bel hb)
                have Fo9 := hid (Fo8.out.bel hb)
                have Fba9 := hid (bx_bel Fba8.out hb)
                have Fbb9 := hid (bx_bel Fbb8.out hb)
                have Fbr9 := hid (bx_bel Fbr8.out hb)
                have Fbo9 := hid (bx_bel Fbo8.out hb)
                have Ff9 := hid (Ff8.out.bel hb)
                have Fbf9 := hid (bx_bel Fbf8.out hb)
                have Fg9 := hid (Fg8.out.bel hb)
                have Fbg9 := hid (bx_bel Fbg8.out hb)
                have Fu9 := hid (Fu8.out.bel hb)
                clear B8 Fa8 Fb8 Fo8 Fba8 Fbb8 Fbr8 Fbo8 Ff8 Fbf8 Fg8 Fbg8 Fu8
                obtain ⟨acc2, hacc2⟩ : ∃ l, M.withF ⟨xn, false, vu⟩ acc = l := ⟨_, rfl⟩
                rw [hacc2] at hsh
                have HA2 := hid hacc2
                obtain ⟨qn, mn, qn2, mn2, rfl⟩ := hsh.form
                have Fn9 : Hid (ShAt z9 (.agg #[.slice qn acc2.length mn, .slice qn2 pn.length mn2]) ⟨acc2, pn⟩) := hid hsh
                clear hsh hacc2 hb
                refine hK.out _ _ (KH.out _ Fbf9.out Fbg9.out) (fun hHeld => ?_)
                clear hK
                refine wpAnyH_ready (rs := [21]) (by kernel_rfl) (by simp) ?_
                refine AllReadyH.cons (o := { dst := none, op := Op.store 25 (Operand.tmp 5) (Operand.tmp 91), type := 0, pos := "ref.go:63", after := #[{ on := 20, ground := Ground.data }, { on := 20, ground := Ground.chain }, { on := 0, ground := Ground.phase }, { on := 1, ground := Ground.phase }, { on := 2, ground := Ground.phase }, { on := 3, ground := Ground.phase }, { on := 4, ground := Ground.phase }, { on := 5, ground := Ground.phase }, { on := 6, ground := Ground.phase }, { on := 7, ground := Ground.phase }, { on := 8, ground := Ground.phase }, { on := 9, ground := Ground.phase }, { on := 10, ground := Ground.phase }, { on := 11, ground := Ground.phase }, { on := 12, ground := Ground.phase }, { on := 13, ground := Ground.phase }, { on := 14, ground := Ground.phase }, { on := 15, ground := Ground.phase }, { on := 16, ground := Ground.phase }, { on := 17, ground := Ground.phase }, { on := 18, ground := Ground.phase }, { on := 19, ground := Ground.phase }, { on := 20, ground := Ground.phase }], guard := none }) rfl (fun K hK => ?_) AllReadyH.nil
                obtain ⟨o0, o1, _⟩ := cells2 Fbo9.out
                go_simp
                clear o0 o1
                obtain ⟨z10, hzz10⟩ : ∃ W, ((z9.setCell ⟨g5, 0, none⟩ (.slice qn acc2.length mn)).setCell ⟨g5, 1, none⟩ (.slice qn2 pn.length mn2)) = W := ⟨_, rfl⟩
                have B10 : Hid (Below w.heap.size w z10) := by unfold Hid; rw [← hzz10]; exact set2b B9.out (by have := HG5.out; omega) _ _
                have Fba10 := hid ((congrArg (fun W : World => W.heap[w.heap.size]?) hzz10).symm.trans ((box_off (by have := HG5.out; omega) _ _).trans Fba9.out))
                have Fbb10 := hid ((congrArg (fun W : World => W.heap[w.heap.size + 1]?) hzz10).symm.trans ((box_off (by have := HG5.out; omega) _ _).trans Fbb9.out))
                have Fbr10 := hid ((congrArg (fun W : World => W.heap[w.heap.size + 2]?) hzz10).symm.trans ((box_off (by have := HG5.out; omega) _ _).trans Fbr9.out))
                have Fbf10 := hid ((congrArg (fun W : World => W.heap[w1.heap.size]?) hzz10).symm.trans ((box_off (Nat.ne_of_gt HGf.out) _ _).trans Fbf9.out))
                have Fbg10 := hid ((congrArg (fun W : World => W.heap[w4.heap.size]?) hzz10).symm.trans ((box_off (Nat.ne_of_gt HGg.out) _ _).trans Fbg9.out))
                have Fbo10 := hid ((congrArg (fun W : World => W.heap[g5]?) hzz10).symm.trans (box_set2 Fbo9.out _ _))
                have Fn10 : Hid (ShAt z10 (.agg #[.slice qn acc2.length mn, .slice qn2 pn.length mn2]) ⟨acc2, pn⟩) := by unfold Hid; rw [← hzz10]; exact Fn9.out.off2 Fbo9.out _ _
                try rw [hzz10]
                clear hzz10
                refine hK.out _ _ (KH.out _ Fbf10.out Fbg10.out) (fun hHeld => ?_)
                clear hK
                refine wpAnyH_done (by kernel_rfl) ?_ _
                clear hHeld KH
                go_wp2
                refine ⟨⟨R.length + k + 1, acc2, qn, mn, qn2, mn2, by omega, by go_num, B10, Fba10, Fbb10, Fbr10, Fbo10, Fn10, ?_, ?_⟩, by simp [intOf]; omega⟩
                · unfold Hid
                  rw [← HA2.out, HTK.out, List.foldl_append, ← HACC.out]
                  show _ = M.withF (M.jf s.fs t.fs xn) acc
                  rw [HJ3.out]
                · unfold Hid
                  rw [← HA2.out]
                  exact M.sm_with HSM.out (by omega) (by have := HUL.out; show vu.length ≤ _; omega)
              · go_simp
                refine (runion_any V5.drew _ _ vsf vsg Ff7.out Fg7.out (Nat.le_trans Lf.out (by decide)) (Nat.le_trans Lg.out (by decide))).mono ?_
                rintro e z8 ⟨v8, rfl, hA, hb⟩
                have B8 := hid (B7.out.trans (hb.mono B7.out.size))
                have Fa8 := hid (Fa7.out.bel hb)
                have Fb8 := hid (Fb7.out.bel hb)
                have Fo8 := hid (Fo7.out.bel hb)
                have Fba8 := hid (bx_bel Fba7.out hb)
                have Fbb8 := hid (bx_bel Fbb7.out hb)
                have Fbr8 := hid (bx_bel Fbr7.out hb)
                have Fbo8 := hid (bx_bel Fbo7.out hb)
                have Ff8 := hid (Ff7.out.bel hb)
                have Fbf8 := hid (bx_bel Fbf7.out hb)
                have Fg8 := hid (Fg7.out.bel hb)
                have Fbg8 := hid (bx_bel Fbg7.out hb)
                clear B7 Fa7 Fb7 Fo7 Fba7 Fbb7 Fbr7 Fbo7 Ff7 Fbf7 Fg7 Fbg7
                obtain ⟨vu, hvu⟩ : ∃ l, M.norm (vsf ++ vsg) = l := ⟨_, rfl⟩
                have hul : vu.length ≤ 20000 := by rw [← hvu]; have h := M.norm_length (vsf ++ vsg); rw [List.length_append] at h; have := Lf.out; have := Lg.out; omega
                have HUL := hid hul
                rw [hvu] at hA
                have HJ3 : Hid (M.jf s.fs t.fs xn = ⟨xn, false, vu⟩) := by unfold Hid; rw [HJ2.out, hvu]
                obtain ⟨qu, mu, rfl⟩ := hA.form
                have Fu8 : Hid (AtAt z8 (.slice qu vu.length mu) vu) := hid hA
                clear hA hvu hul hb
                refine hK.out _ _ (KH.out _ Fbf8.out Fbg8.out) (fun hHeld => ?_)
                clear hK
                refine wpAnyH_take (i := 19) (oi := { dst := some 90, op := Op.build 29 #[(0, Operand.tmp 72), (1, Operand.tmp 84), (2, Operand.tmp 89)], type := 29, pos := "ref.go:63", after := #[{ on := 1, ground := Ground.data }, { on := 13, ground := Ground.data }, { on := 18, ground := Ground.data }], guard := none }) (v := ?_) rfl (by kernel_rfl) (by kernel_rfl) (by kernel_rfl) (fun _ _ _ h => h) (Or.inl ⟨by rfl, ?_⟩) hHeld ?_
                rotate_left
                · intro w hSw; (try dsimp only at hSw); go_simp; (try with_reducible rfl)
                simp only [Act.put, List.setIfInBounds_toArray, List.set_cons_zero, List.set_cons_succ]
                refine wpAnyH_ready (rs := [0]) (by kernel_rfl) (by simp) ?_
                refine AllReadyH.cons (o := { dst := some 71, op := Op.load 25 (Operand.tmp 5), type := 25, pos := "ref.go:63", after := #[], guard := none }) rfl (fun K hK => ?_) AllReadyH.nil
                obtain ⟨o0, o1, _⟩ := cells2 Fbo8.out
                go_simp
                clear o0 o1
                refine hK.out _ _ (KH.out _ Fbf8.out Fbg8.out) (fun hHeld => ?_)
                clear hK
                refine wpAnyH_ready (rs := [20]) (by kernel_rfl) (by simp) ?_
                refine AllReadyH.cons (o := { dst := some 91, op := Op.call { callee := Callee.value (Operand.func 37), args := #[Operand.tmp 71, Operand.tmp 90], argTypes := #[25, 29] }, type := 25, pos := "ref.go:63", after := #[{ on := 0, ground := Ground.data }, { on := 19, ground := Ground.data }, { on := 18, ground := Ground.chain }], guard := none }) rfl (fun K hK => ?_) AllReadyH.nil
                go_simp
                refine (rwith_any z8 _ ⟨acc, pn⟩ xn false vu qu mu Fo8.out Fu8.out (M.sm_mono HSM.out (by omega)) HRI.out).mono ?_
                rintro e z9 ⟨v9, rfl, hsh, hb⟩
                have B9 := hid (B8.out.trans (hb.mono B8.out.size))
                have Fa9 := hid (Fa8.out.bel hb)
                have Fb9 := hid (Fb8.out.bel hb)
                have Fo9 := hid (Fo8.out.bel hb)
                have Fba9 := hid (bx_bel Fba8.out hb)
                have Fbb9 := hid (bx_bel Fbb8.out hb)
                have Fbr9 := hid (bx_bel Fbr8.out hb)
                have Fbo9 := hid (bx_bel Fbo8.out hb)
                have Ff9 := hid (Ff8.out.bel hb)
                have Fbf9 := hid (bx_bel Fbf8.out hb)
                have Fg9 := hid (Fg8.out.bel hb)
                have Fbg9 := hid (bx_bel Fbg8.out hb)
                have Fu9 := hid (Fu8.out.bel hb)
                clear B8 Fa8 Fb8 Fo8 Fba8 Fbb8 Fbr8 Fbo8 Ff8 Fbf8 Fg8 Fbg8 Fu8
                obtain ⟨acc2, hacc2⟩ : ∃ l, M.withF ⟨xn, false, vu⟩ acc = l := ⟨_, rfl⟩
                rw [hacc2] at hsh
                have HA2 := hid hacc2
                obtain ⟨qn, mn, qn2, mn2, rfl⟩ := hsh.form
                have Fn9 : Hid (ShAt z9 (.agg #[.slice qn acc2.length mn, .slice qn2 pn.length mn2]) ⟨acc2, pn⟩) := hid hsh
                clear hsh hacc2 hb
                refine hK.out _ _ (KH.out _ Fbf9.out Fbg9.out) (fun hHeld => ?_)
                clear hK
                refine wpAnyH_ready (rs := [21]) (by kernel_rfl) (by simp) ?_
                refine AllReadyH.cons (o := { dst := none, op := Op.store 25 (Operand.tmp 5) (Operand.tmp 91), type := 0, pos := "ref.go:63", after := #[{ on := 20, ground := Ground.data }, { on := 20, ground := Ground.chain }, { on := 0, ground := Ground.phase }, { on := 1, ground := Ground.phase }, { on := 2, ground := Ground.phase }, { on := 3, ground := Ground.phase }, { on := 4, ground := Ground.phase }, { on := 5, ground := Ground.phase }, { on := 6, ground := Ground.phase }, { on := 7, ground := Ground.phase }, { on := 8, ground := Ground.phase }, { on := 9, ground := Ground.phase }, { on := 10, ground := Ground.phase }, { on := 11, ground := Ground.phase }, { on := 12, ground := Ground.phase }, { on := 13, ground := Ground.phase }, { on := 14, ground := Ground.phase }, { on := 15, ground := Ground.phase }, { on := 16, ground := Ground.phase }, { on := 17, ground := Ground.phase }, { on := 18, ground := Ground.phase }, { on := 19, ground := Ground.phase }, { on := 20, ground := Ground.phase }], guard := none }) rfl (fun K hK => ?_) AllReadyH.nil
                obtain ⟨o0, o1, _⟩ := cells2 Fbo9.out
                go_simp
                clear o0 o1
                obtain ⟨z10, hzz10⟩ : ∃ W, ((z9.setCell ⟨g5, 0, none⟩ (.slice qn acc2.length mn)).setCell ⟨g5, 1, none⟩ (.slice qn2 pn.length mn2)) = W := ⟨_, rfl⟩
                have B10 : Hid (Below w.heap.size w z10) := by unfold Hid; rw [← hzz10]; exact set2b B9.out (by have := HG5.out; omega) _ _
                have Fba10 := hid ((congrArg (fun W : World => W.heap[w.heap.size]?) hzz10).symm.trans ((box_off (by have := HG5.out; omega) _ _).trans Fba9.out))
                have Fbb10 := hid ((congrArg (fun W : World => W.heap[w.heap.size + 1]?) hzz10).symm.trans ((box_off (by have := HG5.out; omega) _ _).trans Fbb9.out))
                have Fbr10 := hid ((congrArg (fun W : World => W.heap[w.heap.size + 2]?) hzz10).symm.trans ((box_off (by have := HG5.out; omega) _ _).trans Fbr9.out))
                have Fbf10 := hid ((congrArg (fun W : World => W.heap[w1.heap.size]?) hzz10).symm.trans ((box_off (Nat.ne_of_gt HGf.out) _ _).trans Fbf9.out))
                have Fbg10 := hid ((congrArg (fun W : World => W.heap[w4.heap.size]?) hzz10).symm.trans ((box_off (Nat.ne_of_gt HGg.out) _ _).trans Fbg9.out))
                have Fbo10 := hid ((congrArg (fun W : World => W.heap[g5]?) hzz10).symm.trans (box_set2 Fbo9.out _ _))
                have Fn10 : Hid (ShAt z10 (.agg #[.slice qn acc2.length mn, .slice qn2 pn.length mn2]) ⟨acc2, pn⟩) := by unfold Hid; rw [← hzz10]; exact Fn9.out.off2 Fbo9.out _ _
                try rw [hzz10]
                clear hzz10
                refine hK.out _ _ (KH.out _ Fbf10.out Fbg10.out) (fun hHeld => ?_)
                clear hK
                refine wpAnyH_done (by kernel_rfl) ?_ _
                clear hHeld KH
                go_wp2
                refine ⟨⟨R.length + k + 1, acc2, qn, mn, qn2, mn2, by omega, by go_num, B10, Fba10, Fbb10, Fbr10, Fbo10, Fn10, ?_, ?_⟩, by simp [intOf]; omega⟩
                · unfold Hid
                  rw [← HA2.out, HTK.out, List.foldl_append, ← HACC.out]
                  show _ = M.withF (M.jf s.fs t.fs xn) acc
                  rw [HJ3.out]
                · unfold Hid
                  rw [← HA2.out]
                  exact M.sm_with HSM.out (by omega) (by have := HUL.out; show vu.length ≤ _; omega)
            · rcases q with _ | _
              · have HJ2 : Hid (M.jf s.fs t.fs xn = ⟨xn, false, M.norm (vsf ++ vsg)⟩) := by unfold Hid; rw [HJF.out]; simp
                clear HJF
                obtain ⟨xba0, xba1, _⟩ := cells2 Fba6.out
                obtain ⟨xbb0, xbb1, _⟩ := cells2 Fbb6.out
                obtain ⟨xbr0, xbr1, _⟩ := cells2 Fbr6.out
                obtain ⟨xbo0, xbo1, _⟩ := cells2 Fbo6.out
                obtain ⟨xbf0, xbf1, xbf2, _⟩ := cells3 Fbf6.out
                obtain ⟨xbg0, xbg1, xbg2, _⟩ := cells3 Nbg.out
                go_wp2_with fail
                clear xba0 xba1 xbb0 xbb1 xbr0 xbr1 xbo0 xbo1 xbf0 xbf1 xbf2 xbg0 xbg1 xbg2
                clear hV5
                have KH : Hid (∀ W : World, W.heap[w1.heap.size]? = some (.cells #[.string nmf, .bool suf, .slice yaf vsf.length ycf] 29 (0, 0)) → W.heap[w4.heap.size]? = some (.cells #[.string nmg, .bool sug, .slice yag vsg.length ycg] 29 (0, 0)) → (W.cell? ⟨w1.heap.size, 0, none⟩ = some (.string nmf) ∧ W.cell? ⟨w1.heap.size, 1, none⟩ = some (.bool suf) ∧ W.cell? ⟨w1.heap.size, 2, none⟩ = some (.slice yaf vsf.length ycf) ∧ W.cell? ⟨w4.heap.size, 0, none⟩ = some (.string nmg) ∧ W.cell? ⟨w4.heap.size, 1, none⟩ = some (.bool sug) ∧ W.cell? ⟨w4.heap.size, 2, none⟩ = some (.slice yag vsg.length ycg))) := fun W h1 h2 => by
                  obtain ⟨e0, e1, e2, _⟩ := cells3 h1
                  obtain ⟨e3, e4, e5, _⟩ := cells3 h2
                  exact ⟨e0, e1, e2, e3, e4, e5⟩
                have hbd : Below V5.heap.size V5 V5.drew := (Gr.refl _).drew.below
                refine wp_region_held_drew (S := fun W => W.cell? ⟨w1.heap.size, 0, none⟩ = some (.string nmf) ∧ W.cell? ⟨w1.heap.size, 1, none⟩ = some (.bool suf) ∧ W.cell? ⟨w1.heap.size, 2, none⟩ = some (.slice yaf vsf.length ycf) ∧ W.cell? ⟨w4.heap.size, 0, none⟩ = some (.string nmg) ∧ W.cell? ⟨w4.heap.size, 1, none⟩ = some (.bool sug) ∧ W.cell? ⟨w4.heap.size, 2, none⟩ = some (.slice yag vsg.length ycg)) (by kernel_rfl) (KH.out _ (bx_bel0 Fbf6.out hbd) (bx_bel0 Nbg.out hbd)) (fun hHeld => ?_)
                have B7 := hid (B6.out.trans (hbd.mono B6.out.size))
                have Fa7 := hid (Fa6.out.bel hbd)
                have Fb7 := hid (Fb6.out.bel hbd)
                have Fo7 := hid (Fo6.out.bel hbd)
                have Fba7 := hid (bx_bel Fba6.out hbd)
                have Fbb7 := hid (bx_bel Fbb6.out hbd)
                have Fbr7 := hid (bx_bel Fbr6.out hbd)
                have Fbo7 := hid (bx_bel Fbo6.out hbd)
                have Ff7 := hid (Ff6.out.bel hbd)
                have Fbf7 := hid (bx_bel Fbf6.out hbd)
                have Fg7 := hid (Fg6.out.bel hbd)
                have Fbg7 := hid (bx_bel Nbg.out hbd)
                clear B6 Fa6 Fb6 Fo6 Fba6 Fbb6 Fbr6 Fbo6 Ff6 Fbf6 Fg6 Nbg
                clear hbd
                refine wpAnyH_take (i := 1) (oi := { dst := some 72, op := Op.move (Operand.tmp 7), type := 9, pos := "ref.go:63", after := #[], guard := none }) (v := ?_) rfl (by kernel_rfl) (by kernel_rfl) (by kernel_rfl) (fun _ _ _ h => h) (Or.inl ⟨by rfl, ?_⟩) hHeld ?_
                rotate_left
                · intro w hSw; (try dsimp only at hSw); go_simp; (try with_reducible rfl)
                simp only [Act.put, List.setIfInBounds_toArray, List.set_cons_zero, List.set_cons_succ]
                refine wpAnyH_take (i := 2) (oi := { dst := some 73, op := Op.move (Operand.tmp 9), type := 4, pos := "ref.go:63", after := #[], guard := none }) (v := ?_) rfl (by kernel_rfl) (by kernel_rfl) (by kernel_rfl) (fun _ _ _ h => h) (Or.inl ⟨by rfl, ?_⟩) hHeld ?_
                rotate_left
                · intro w hSw; (try dsimp only at hSw); go_simp; (try with_reducible rfl)
                simp only [Act.put, List.setIfInBounds_toArray, List.set_cons_zero, List.set_cons_succ]
                refine wpAnyH_take (i := 3) (oi := { dst := some 74, op := Op.move (Operand.tmp 73), type := 4, pos := "ref.go:63", after := #[{ on := 2, ground := Ground.data }], guard := none }) (v := ?_) rfl (by kernel_rfl) (by kernel_rfl) (by kernel_rfl) (fun _ _ _ h => h) (Or.inl ⟨by rfl, ?_⟩) hHeld ?_
                rotate_left
                · intro w hSw; (try dsimp only at hSw); go_simp; (try with_reducible rfl)
                simp only [Act.put, List.setIfInBounds_toArray, List.set_cons_zero, List.set_cons_succ]
                refine wpAnyH_take (i := 4) (oi := { dst := some 75, op := Op.move (Operand.tmp 11), type := 4, pos := "ref.go:63", after := #[{ on := 3, ground := Ground.guard }], guard := some (3, true) }) (v := ?_) rfl (by kernel_rfl) (by kernel_rfl) (by kernel_rfl) (fun _ _ _ h => h) (Or.inl ⟨by rfl, ?_⟩) hHeld ?_
                rotate_left
                · intro w hSw; (try dsimp only at hSw); go_simp; (try with_reducible rfl)
                simp only [Act.put, List.setIfInBounds_toArray, List.set_cons_zero, List.set_cons_succ]
                refine wpAnyH_take (i := 5) (oi := { dst := some 76, op := Op.pick (Operand.tmp 74) (Operand.tmp 75) (Operand.const (Value.bool false)), type := 4, pos := "ref.go:63", after := #[{ on := 3, ground := Ground.data }, { on := 4, ground := Ground.data }], guard := none }) (v := ?_) rfl (by kernel_rfl) (by kernel_rfl) (by kernel_rfl) (fun _ _ _ h => h) (Or.inl ⟨by rfl, ?_⟩) hHeld ?_
                rotate_left
                · intro w hSw; (try dsimp only at hSw); go_simp; (try with_reducible rfl)
                simp only [Act.put, List.setIfInBounds_toArray, List.set_cons_zero, List.set_cons_succ]
                refine wpAnyH_take (i := 6) (oi := { dst := some 77, op := Op.move (Operand.tmp 76), type := 4, pos := "ref.go:63", after := #[{ on := 5, ground := Ground.data }, { on := 3, ground := Ground.chain }], guard := none }) (v := ?_) rfl (by kernel_rfl) (by kernel_rfl) (by kernel_rfl) (fun _ _ _ h => h) (Or.inl ⟨by rfl, ?_⟩) hHeld ?_
                rotate_left
                · intro w hSw; (try dsimp only at hSw); go_simp; (try with_reducible rfl)
                simp only [Act.put, List.setIfInBounds_toArray, List.set_cons_zero, List.set_cons_succ]
                refine wpAnyH_take (i := 7) (oi := { dst := some 78, op := Op.fieldAddr 29 (Operand.tmp 8) 1, type := 0, pos := "ref.go:63", after := #[{ on := 6, ground := Ground.guard }], guard := some (6, true) }) (v := undef) rfl (by kernel_rfl) (by kernel_rfl) (by kernel_rfl) (fun _ _ _ h => h) (Or.inr ⟨by rfl, rfl⟩) hHeld ?_
                simp only [Act.put, List.setIfInBounds_toArray, List.set_cons_zero, List.set_cons_succ]
                refine wpAnyH_take (i := 8) (oi := { dst := some 79, op := Op.load 4 (Operand.tmp 78), type := 4, pos := "ref.go:63", after := #[{ on := 7, ground := Ground.data }, { on := 6, ground := Ground.guard }], guard := some (6, true) }) (v := undef) rfl (by kernel_rfl) (by kernel_rfl) (by kernel_rfl) (fun _ _ _ h => h) (Or.inr ⟨by rfl, rfl⟩) hHeld ?_
                simp only [Act.put, List.setIfInBounds_toArray, List.set_cons_zero, List.set_cons_succ]
                refine wpAnyH_take (i := 9) (oi := { dst := some 80, op := Op.pick (Operand.tmp 77) (Operand.tmp 79) (Operand.const (Value.bool false)), type := 4, pos := "ref.go:63", after := #[{ on := 6, ground := Ground.data }, { on := 8, ground := Ground.data }], guard := none }) (v := ?_) rfl (by kernel_rfl) (by kernel_rfl) (by kernel_rfl) (fun _ _ _ h => h) (Or.inl ⟨by rfl, ?_⟩) hHeld ?_
                rotate_left
                · intro w hSw; (try dsimp only at hSw); go_simp; (try with_reducible rfl)
                simp only [Act.put, List.setIfInBounds_toArray, List.set_cons_zero, List.set_cons_succ]
                refine wpAnyH_take (i := 10) (oi := { dst := some 81, op := Op.move (Operand.tmp 80), type := 4, pos := "ref.go:63", after := #[{ on := 9, ground := Ground.data }, { on := 6, ground := Ground.chain }], guard := none }) (v := ?_) rfl (by kernel_rfl) (by kernel_rfl) (by kernel_rfl) (fun _ _ _ h => h) (Or.inl ⟨by rfl, ?_⟩) hHeld ?_
                rotate_left
                · intro w hSw; (try dsimp only at hSw); go_simp; (try with_reducible rfl)
                simp only [Act.put, List.setIfInBounds_toArray, List.set_cons_zero, List.set_cons_succ]
                refine wpAnyH_take (i := 11) (oi := { dst := some 82, op := Op.fieldAddr 29 (Operand.tmp 10) 1, type := 0, pos := "ref.go:63", after := #[{ on := 10, ground := Ground.guard }], guard := some (10, true) }) (v := undef) rfl (by kernel_rfl) (by kernel_rfl) (by kernel_rfl) (fun _ _ _ h => h) (Or.inr ⟨by rfl, rfl⟩) hHeld ?_
                simp only [Act.put, List.setIfInBounds_toArray, List.set_cons_zero, List.set_cons_succ]
                refine wpAnyH_take (i := 12) (oi := { dst := some 83, op := Op.load 4 (Operand.tmp 82), type := 4, pos := "ref.go:63", after := #[{ on := 11, ground := Ground.data }, { on := 10, ground := Ground.guard }], guard := some (10, true) }) (v := undef) rfl (by kernel_rfl) (by kernel_rfl) (by kernel_rfl) (fun _ _ _ h => h) (Or.inr ⟨by rfl, rfl⟩) hHeld ?_
                simp only [Act.put, List.setIfInBounds_toArray, List.set_cons_zero, List.set_cons_succ]
                refine wpAnyH_take (i := 13) (oi := { dst := some 84, op := Op.pick (Operand.tmp 81) (Operand.tmp 83) (Operand.const (Value.bool false)), type := 4, pos := "ref.go:63", after := #[{ on := 10, ground := Ground.data }, { on := 12, ground := Ground.data }], guard := none }) (v := ?_) rfl (by kernel_rfl) (by kernel_rfl) (by kernel_rfl) (fun _ _ _ h => h) (Or.inl ⟨by rfl, ?_⟩) hHeld ?_
                rotate_left
                · intro w hSw; (try dsimp only at hSw); go_simp; (try with_reducible rfl)
                simp only [Act.put, List.setIfInBounds_toArray, List.set_cons_zero, List.set_cons_succ]
                refine wpAnyH_take (i := 14) (oi := { dst := some 85, op := Op.fieldAddr 29 (Operand.tmp 8) 2, type := 0, pos := "ref.go:63", after := #[], guard := none }) (v := ?_) rfl (by kernel_rfl) (by kernel_rfl) (by kernel_rfl) (fun _ _ _ h => h) (Or.inl ⟨by rfl, ?_⟩) hHeld ?_
                rotate_left
                · intro w hSw; (try dsimp only at hSw); go_simp; (try with_reducible rfl)
                simp only [Act.put, List.setIfInBounds_toArray, List.set_cons_zero, List.set_cons_succ]
                refine wpAnyH_take (i := 15) (oi := { dst := some 86, op := Op.load 23 (Operand.tmp 85), type := 23, pos := "ref.go:63", after := #[{ on := 14, ground := Ground.data }], guard := none }) (v := ?_) rfl (by kernel_rfl) (by kernel_rfl) (by kernel_rfl) (fun _ _ _ h => h) (Or.inl ⟨by rfl, ?_⟩) hHeld ?_
                rotate_left
                · intro w hSw; (try dsimp only at hSw); go_simp; (try with_reducible rfl)
                simp only [Act.put, List.setIfInBounds_toArray, List.set_cons_zero, List.set_cons_succ]
                refine wpAnyH_take (i := 16) (oi := { dst := some 87, op := Op.fieldAddr 29 (Operand.tmp 10) 2, type := 0, pos := "ref.go:63", after := #[], guard := none }) (v := ?_) rfl (by kernel_rfl) (by kernel_rfl) (by kernel_rfl) (fun _ _ _ h => h) (Or.inl ⟨by rfl, ?_⟩) hHeld ?_
                rotate_left
                · intro w hSw; (try dsimp only at hSw); go_simp; (try with_reducible rfl)
                simp only [Act.put, List.setIfInBounds_toArray, List.set_cons_zero, List.set_cons_succ]
                refine wpAnyH_take (i := 17) (oi := { dst := some 88, op := Op.load 23 (Operand.tmp 87), type := 23, pos := "ref.go:63", after := #[{ on := 16, ground := Ground.data }], guard := none }) (v := ?_) rfl (by kernel_rfl) (by kernel_rfl) (by kernel_rfl) (fun _ _ _ h => h) (Or.inl ⟨by rfl, ?_⟩) hHeld ?_
                rotate_left
                · intro w hSw; (try dsimp only at hSw); go_simp; (try with_reducible rfl)
                simp only [Act.put, List.setIfInBounds_toArray, List.set_cons_zero, List.set_cons_succ]
                refine wpAnyH_ready (rs := [0, 18]) (by kernel_rfl) (by simp) ?_
                refine AllReadyH.cons (o := { dst := some 71, op := Op.load 25 (Operand.tmp 5), type := 25, pos := "ref.go:63", after := #[], guard := none }) rfl (fun K hK => ?_) (AllReadyH.cons (o := { dst := some 89, op := Op.call { callee := Callee.value (Operand.func 30), args := #[Operand.tmp 86, Operand.tmp 88], argTypes := #[23, 23] }, type := 23, pos := "ref.go:63", after := #[{ on := 15, ground := Ground.data }, { on := 17, ground := Ground.data }, { on := 10, ground := Ground.chain }], guard := none }) rfl (fun K hK => ?_) AllReadyH.nil)
                · obtain ⟨o0, o1, _⟩ := cells2 Fbo7.out
                  go_simp
                  clear o0 o1
                  refine hK.out _ _ (KH.out _ Fbf7.out Fbg7.out) (fun hHeld => ?_)
                  clear hK
                  refine wpAnyH_ready (rs := [18]) (by kernel_rfl) (by simp) ?_
                  refine AllReadyH.cons (o := { dst := some 89, op := Op.call { callee := Callee.value (Operand.func 30), args := #[Operand.tmp 86, Operand.tmp 88], argTypes := #[23, 23] }, type := 23, pos := "ref.go:63", after := #[{ on := 15, ground := Ground.data }, { on := 17, ground := Ground.data }, { on := 10, ground := Ground.chain }], guard := none }) rfl (fun K hK => ?_) AllReadyH.nil
                  go_simp
                  refine (runion_any V5.drew _ _ vsf vsg Ff7.out Fg7.out (Nat.le_trans Lf.out (by decide)) (Nat.le_trans Lg.out (by decide))).mono ?_
                  rintro e z8 ⟨v8, rfl, hA, hb⟩
                  have B8 := hid (B7.out.trans (hb.mono B7.out.size))
                  have Fa8 := hid (Fa7.out.bel hb)
                  have Fb8 := hid (Fb7.out.bel hb)
                  have Fo8 := hid (Fo7.out.bel hb)
                  have Fba8 := hid (bx_bel Fba7.out hb)
                  have Fbb8 := hid (bx_bel Fbb7.out hb)
                  have Fbr8 := hid (bx_bel Fbr7.out hb)
                  have Fbo8 := hid (bx_bel Fbo7.out hb)
                  have Ff8 := hid (Ff7.out.bel hb)
                  have Fbf8 := hid (bx_bel Fbf7.out hb)
                  have Fg8 := hid (Fg7.out.bel hb)
                  have Fbg8 := hid (bx_bel Fbg7.out hb)
                  clear B7 Fa7 Fb7 Fo7 Fba7 Fbb7 Fbr7 Fbo7 Ff7 Fbf7 Fg7 Fbg7
                  obtain ⟨vu, hvu⟩ : ∃ l, M.norm (vsf ++ vsg) = l := ⟨_, rfl⟩
                  have hul : vu.length ≤ 20000 := by rw [← hvu]; have h := M.norm_length (vsf ++ vsg); rw [List.length_append] at h; have := Lf.out; have := Lg.out; omega
                  have HUL := hid hul
                  rw [hvu] at hA
                  have HJ3 : Hid (M.jf s.fs t.fs xn = ⟨xn, false, vu⟩) := by unfold Hid; rw [HJ2.out, hvu]
                  obtain ⟨qu, mu, rfl⟩ := hA.form
                  have Fu8 : Hid (AtAt z8 (.slice qu vu.length mu) vu) := hid hA
                  clear hA hvu hul hb
                  refine hK.out _ _ (KH.out _ Fbf8.out Fbg8.out) (fun hHeld => ?_)
                  clear hK
                  refine wpAnyH_take (i := 19) (oi := { dst := some 90, op := Op.build 29 #[(0, Operand.tmp 72), (1, Operand.tmp 84), (2, Operand.tmp 89)], type := 29, pos := "ref.go:63", after := #[{ on := 1, ground := Ground.data }, { on := 13, ground := Ground.data }, { on := 18, ground := Ground.data }], guard := none }) (v := ?_) rfl (by kernel_rfl) (by kernel_rfl) (by kernel_rfl) (fun _ _ _ h => h) (Or.inl ⟨by rfl, ?_⟩) hHeld ?_
                  rotate_left
                  · intro w hSw; (try dsimp only at hSw); go_simp; (try with_reducible rfl)
                  simp only [Act.put, List.setIfInBounds_toArray, List.set_cons_zero, List.set_cons_succ]
                  refine wpAnyH_ready (rs := [20]) (by kernel_rfl) (by simp) ?_
                  refine AllReadyH.cons (o := { dst := some 91, op := Op.call { callee := Callee.value (Operand.func 37), args := #[Operand.tmp 71, Operand.tmp 90], argTypes := #[25, 29] }, type := 25, pos := "ref.go:63", after := #[{ on := 0, ground := Ground.data }, { on := 19, ground := Ground.data }, { on := 18, ground := Ground.chain }], guard := none }) rfl (fun K hK => ?_) AllReadyH.nil
                  go_simp
                  refine (rwith_any z8 _ ⟨acc, pn⟩ xn false vu qu mu Fo8.out Fu8.out (M.sm_mono HSM.out (by omega)) HRI.out).mono ?_
                  rintro e z9 ⟨v9, rfl, hsh, hb⟩
                  have B9 := hid (B8.out.trans (hb.mono B8.out.size))
                  have Fa9 := hid (Fa8.out.bel hb)
                  have Fb9 := hid (Fb8.out.bel hb)
                  have Fo9 := hid (Fo8.out.bel hb)
                  have Fba9 := hid (bx_bel Fba8.out hb)
                  have Fbb9 := hid (bx_bel Fbb8.out hb)
                  have Fbr9 := hid (bx_bel Fbr8.out hb)
                  have Fbo9 := hid (bx_bel Fbo8.out hb)
                  have Ff9 := hid (Ff8.out.bel hb)
                  have Fbf9 := hid (bx_bel Fbf8.out hb)
                  have Fg9 := hid (Fg8.out.bel hb)
                  have Fbg9 := hid (bx_bel Fbg8.out hb)
                  have Fu9 := hid (Fu8.out.bel hb)
                  clear B8 Fa8 Fb8 Fo8 Fba8 Fbb8 Fbr8 Fbo8 Ff8 Fbf8 Fg8 Fbg8 Fu8
                  obtain ⟨acc2, hacc2⟩ : ∃ l, M.withF ⟨xn, false, vu⟩ acc = l := ⟨_, rfl⟩
                  rw [hacc2] at hsh
                  have HA2 := hid hacc2
                  obtain ⟨qn, mn, qn2, mn2, rfl⟩ := hsh.form
                  have Fn9 : Hid (ShAt z9 (.agg #[.slice qn acc2.length mn, .slice qn2 pn.length mn2]) ⟨acc2, pn⟩) := hid hsh
                  clear hsh hacc2 hb
                  refine hK.out _ _ (KH.out _ Fbf9.out Fbg9.out) (fun hHeld => ?_)
                  clear hK
                  refine wpAnyH_ready (rs := [21]) (by kernel_rfl) (by simp) ?_
                  refine AllReadyH.cons (o := { dst := none, op := Op.store 25 (Operand.tmp 5) (Operand.tmp 91), type := 0, pos := "ref.go:63", after := #[{ on := 20, ground := Ground.data }, { on := 20, ground := Ground.chain }, { on := 0, ground := Ground.phase }, { on := 1, ground := Ground.phase }, { on := 2, ground := Ground.phase }, { on := 3, ground := Ground.phase }, { on := 4, ground := Ground.phase }, { on := 5, ground := Ground.phase }, { on := 6, ground := Ground.phase }, { on := 7, ground := Ground.phase }, { on := 8, ground := Ground.phase }, { on := 9, ground := Ground.phase }, { on := 10, ground := Ground.phase }, { on := 11, ground := Ground.phase }, { on := 12, ground := Ground.phase }, { on := 13, ground := Ground.phase }, { on := 14, ground := Ground.phase }, { on := 15, ground := Ground.phase }, { on := 16, ground := Ground.phase }, { on := 17, ground := Ground.phase }, { on := 18, ground := Ground.phase }, { on := 19, ground := Ground.phase }, { on := 20, ground := Ground.phase }], guard := none }) rfl (fun K hK => ?_) AllReadyH.nil
                  obtain ⟨o0, o1, _⟩ := cells2 Fbo9.out
                  go_simp
                  clear o0 o1
                  obtain ⟨z10, hzz10⟩ : ∃ W, ((z9.setCell ⟨g5, 0, none⟩ (.slice qn acc2.length mn)).setCell ⟨g5, 1, none⟩ (.slice qn2 pn.length mn2)) = W := ⟨_, rfl⟩
                  have B10 : Hid (Below w.heap.size w z10) := by unfold Hid; rw [← hzz10]; exact set2b B9.out (by have := HG5.out; omega) _ _
                  have Fba10 := hid ((congrArg (fun W : World => W.heap[w.heap.size]?) hzz10).symm.trans ((box_off (by have := HG5.out; omega) _ _).trans Fba9.out))
                  have Fbb10 := hid ((congrArg (fun W : World => W.heap[w.heap.size + 1]?) hzz10).symm.trans ((box_off (by have := HG5.out; omega) _ _).trans Fbb9.out))
                  have Fbr10 := hid ((congrArg (fun W : World => W.heap[w.heap.size + 2]?) hzz10).symm.trans ((box_off (by have := HG5.out; omega) _ _).trans Fbr9.out))
                  have Fbf10 := hid ((congrArg (fun W : World => W.heap[w1.heap.size]?) hzz10).symm.trans ((box_off (Nat.ne_of_gt HGf.out) _ _).trans Fbf9.out))
                  have Fbg10 := hid ((congrArg (fun W : World => W.heap[w4.heap.size]?) hzz10).symm.trans ((box_off (Nat.ne_of_gt HGg.out) _ _).trans Fbg9.out))
                  have Fbo10 := hid ((congrArg (fun W : World => W.heap[g5]?) hzz10).symm.trans (box_set2 Fbo9.out _ _))
                  have Fn10 : Hid (ShAt z10 (.agg #[.slice qn acc2.length mn, .slice qn2 pn.length mn2]) ⟨acc2, pn⟩) := by unfold Hid; rw [← hzz10]; exact Fn9.out.off2 Fbo9.out _ _
                  try rw [hzz10]
                  clear hzz10
                  refine hK.out _ _ (KH.out _ Fbf10.out Fbg10.out) (fun hHeld => ?_)
                  clear hK
                  refine wpAnyH_done (by kernel_rfl) ?_ _
                  clear hHeld KH
                  go_wp2
                  refine ⟨⟨R.length + k + 1, acc2, qn, mn, qn2, mn2, by omega, by go_num, B10, Fba10, Fbb10, Fbr10, Fbo10, Fn10, ?_, ?_⟩, by simp [intOf]; omega⟩
                  · unfold Hid
                    rw [← HA2.out, HTK.out, List.foldl_append, ← HACC.out]
                    show _ = M.withF (M.jf s.fs t.fs xn) acc
                    rw [HJ3.out]
                  · unfold Hid
                    rw [← HA2.out]
                    exact M.sm_with HSM.out (by omega) (by have := HUL.out; show vu.length ≤ _; omega)
                · go_simp
                  refine (runion_any V5.drew _ _ vsf vsg Ff7.out Fg7.out (Nat.le_trans Lf.out (by decide)) (Nat.le_trans Lg.out (by decide))).mono ?_
                  rintro e z8 ⟨v8, rfl, hA, hb⟩
                  have B8 := hid (B7.out.trans (hb.mono B7.out.size))
                  have Fa8 := hid (Fa7.out.bel hb)
                  have Fb8 := hid (Fb7.out.bel hb)
                  have Fo8 := hid (Fo7.out.bel hb)
                  have Fba8 := hid (bx_bel Fba7.out hb)
                  have Fbb8 := hid (bx_bel Fbb7.out hb)
                  have Fbr8 := hid (bx_bel Fbr7.out hb)
                  have Fbo8 := hid (bx_bel Fbo7.out hb)
                  have Ff8 := hid (Ff7.out.bel hb)
                  have Fbf8 := hid (bx_bel Fbf7.out hb)
                  have Fg8 := hid (Fg7.out.bel hb)
                  have Fbg8 := hid (bx_bel Fbg7.out hb)
                  clear B7 Fa7 Fb7 Fo7 Fba7 Fbb7 Fbr7 Fbo7 Ff7 Fbf7 Fg7 Fbg7
                  obtain ⟨vu, hvu⟩ : ∃ l, M.norm (vsf ++ vsg) = l := ⟨_, rfl⟩
                  have hul : vu.length ≤ 20000 := by rw [← hvu]; have h := M.norm_length (vsf ++ vsg); rw [List.length_append] at h; have := Lf.out; have := Lg.out; omega
                  have HUL := hid hul
                  rw [hvu] at hA
                  have HJ3 : Hid (M.jf s.fs t.fs xn = ⟨xn, false, vu⟩) := by unfold Hid; rw [HJ2.out, hvu]
                  obtain ⟨qu, mu, rfl⟩ := hA.form
                  have Fu8 : Hid (AtAt z8 (.slice qu vu.length mu) vu) := hid hA
                  clear hA hvu hul hb
                  refine hK.out _ _ (KH.out _ Fbf8.out Fbg8.out) (fun hHeld => ?_)
                  clear hK
                  refine wpAnyH_take (i := 19) (oi := { dst := some 90, op := Op.build 29 #[(0, Operand.tmp 72), (1, Operand.tmp 84), (2, Operand.tmp 89)], type := 29, pos := "ref.go:63", after := #[{ on := 1, ground := Ground.data }, { on := 13, ground := Ground.data }, { on := 18, ground := Ground.data }], guard := none }) (v := ?_) rfl (by kernel_rfl) (by kernel_rfl) (by kernel_rfl) (fun _ _ _ h => h) (Or.inl ⟨by rfl, ?_⟩) hHeld ?_
                  rotate_left
                  · intro w hSw; (try dsimp only at hSw); go_simp; (try with_reducible rfl)
                  simp only [Act.put, List.setIfInBounds_toArray, List.set_cons_zero, List.set_cons_succ]
                  refine wpAnyH_ready (rs := [0]) (by kernel_rfl) (by simp) ?_
                  refine AllReadyH.cons (o := { dst := some 71, op := Op.load 25 (Operand.tmp 5), type := 25, pos := "ref.go:63", after := #[], guard := none }) rfl (fun K hK => ?_) AllReadyH.nil
                  obtain ⟨o0, o1, _⟩ := cells2 Fbo8.out
                  go_simp
                  clear o0 o1
                  refine hK.out _ _ (KH.out _ Fbf8.out Fbg8.out) (fun hHeld => ?_)
                  clear hK
                  refine wpAnyH_ready (rs := [20]) (by kernel_rfl) (by simp) ?_
                  refine AllReadyH.cons (o := { dst := some 91, op := Op.call { callee := Callee.value (Operand.func 37), args := #[Operand.tmp 71, Operand.tmp 90], argTypes := #[25, 29] }, type := 25, pos := "ref.go:63", after := #[{ on := 0, ground := Ground.data }, { on := 19, ground := Ground.data }, { on := 18, ground := Ground.chain }], guard := none }) rfl (fun K hK => ?_) AllReadyH.nil
                  go_simp
                  refine (rwith_any z8 _ ⟨acc, pn⟩ xn false vu qu mu Fo8.out Fu8.out (M.sm_mono HSM.out (by omega)) HRI.out).mono ?_
                  rintro e z9 ⟨v9, rfl, hsh, hb⟩
                  have B9 := hid (B8.out.trans (hb.mono B8.out.size))
                  have Fa9 := hid (Fa8.out.bel hb)
                  have Fb9 := hid (Fb8.out.bel hb)
                  have Fo9 := hid (Fo8.out.bel hb)
                  have Fba9 := hid (bx_bel Fba8.out hb)
                  have Fbb9 := hid (bx_bel Fbb8.out hb)
                  have Fbr9 := hid (bx_bel Fbr8.out hb)
                  have Fbo9 := hid (bx_bel Fbo8.out hb)
                  have Ff9 := hid (Ff8.out.bel hb)
                  have Fbf9 := hid (bx_bel Fbf8.out hb)
                  have Fg9 := hid (Fg8.out.bel hb)
                  have Fbg9 := hid (bx_bel Fbg8.out hb)
                  have Fu9 := hid (Fu8.out.bel hb)
                  clear B8 Fa8 Fb8 Fo8 Fba8 Fbb8 Fbr8 Fbo8 Ff8 Fbf8 Fg8 Fbg8 Fu8
                  obtain ⟨acc2, hacc2⟩ : ∃ l, M.withF ⟨xn, false, vu⟩ acc = l := ⟨_, rfl⟩
                  rw [hacc2] at hsh
                  have HA2 := hid hacc2
                  obtain ⟨qn, mn, qn2, mn2, rfl⟩ := hsh.form
                  have Fn9 : Hid (ShAt z9 (.agg #[.slice qn acc2.length mn, .slice qn2 pn.length mn2]) ⟨acc2, pn⟩) := hid hsh
                  clear hsh hacc2 hb
                  refine hK.out _ _ (KH.out _ Fbf9.out Fbg9.out) (fun hHeld => ?_)
                  clear hK
                  refine wpAnyH_ready (rs := [21]) (by kernel_rfl) (by simp) ?_
                  refine AllReadyH.cons (o := { dst := none, op := Op.store 25 (Operand.tmp 5) (Operand.tmp 91), type := 0, pos := "ref.go:63", after := #[{ on := 20, ground := Ground.data }, { on := 20, ground := Ground.chain }, { on := 0, ground := Ground.phase }, { on := 1, ground := Ground.phase }, { on := 2, ground := Ground.phase }, { on := 3, ground := Ground.phase }, { on := 4, ground := Ground.phase }, { on := 5, ground := Ground.phase }, { on := 6, ground := Ground.phase }, { on := 7, ground := Ground.phase }, { on := 8, ground := Ground.phase }, { on := 9, ground := Ground.phase }, { on := 10, ground := Ground.phase }, { on := 11, ground := Ground.phase }, { on := 12, ground := Ground.phase }, { on := 13, ground := Ground.phase }, { on := 14, ground := Ground.phase }, { on := 15, ground := Ground.phase }, { on := 16, ground := Ground.phase }, { on := 17, ground := Ground.phase }, { on := 18, ground := Ground.phase }, { on := 19, ground := Ground.phase }, { on := 20, ground := Ground.phase }], guard := none }) rfl (fun K hK => ?_) AllReadyH.nil
                  obtain ⟨o0, o1, _⟩ := cells2 Fbo9.out
                  go_simp
                  clear o0 o1
                  obtain ⟨z10, hzz10⟩ : ∃ W, ((z9.setCell ⟨g5, 0, none⟩ (.slice qn acc2.length mn)).setCell ⟨g5, 1, none⟩ (.slice qn2 pn.length mn2)) = W := ⟨_, rfl⟩
                  have B10 : Hid (Below w.heap.size w z10) := by unfold Hid; rw [← hzz10]; exact set2b B9.out (by have := HG5.out; omega) _ _
                  have Fba10 := hid ((congrArg (fun W : World => W.heap[w.heap.size]?) hzz10).symm.trans ((box_off (by have := HG5.out; omega) _ _).trans Fba9.out))
                  have Fbb10 := hid ((congrArg (fun W : World => W.heap[w.heap.size + 1]?) hzz10).symm.trans ((box_off (by have := HG5.out; omega) _ _).trans Fbb9.out))
                  have Fbr10 := hid ((congrArg (fun W : World => W.heap[w.heap.size + 2]?) hzz10).symm.trans ((box_off (by have := HG5.out; omega) _ _).trans Fbr9.out))
                  have Fbf10 := hid ((congrArg (fun W : World => W.heap[w1.heap.size]?) hzz10).symm.trans ((box_off (Nat.ne_of_gt HGf.out) _ _).trans Fbf9.out))
                  have Fbg10 := hid ((congrArg (fun W : World => W.heap[w4.heap.size]?) hzz10).symm.trans ((box_off (Nat.ne_of_gt HGg.out) _ _).trans Fbg9.out))
                  have Fbo10 := hid ((congrArg (fun W : World => W.heap[g5]?) hzz10).symm.trans (box_set2 Fbo9.out _ _))
                  have Fn10 : Hid (ShAt z10 (.agg #[.slice qn acc2.length mn, .slice qn2 pn.length mn2]) ⟨acc2, pn⟩) := by unfold Hid; rw [← hzz10]; exact Fn9.out.off2 Fbo9.out _ _
                  try rw [hzz10]
                  clear hzz10
                  refine hK.out _ _ (KH.out _ Fbf10.out Fbg10.out) (fun hHeld => ?_)
                  clear hK
                  refine wpAnyH_done (by kernel_rfl) ?_ _
                  clear hHeld KH
                  go_wp2
                  refine ⟨⟨R.length + k + 1, acc2, qn, mn, qn2, mn2, by omega, by go_num, B10, Fba10, Fbb10, Fbr10, Fbo10, Fn10, ?_, ?_⟩, by simp [intOf]; omega⟩
                  · unfold Hid
                    rw [← HA2.out, HTK.out, List.foldl_append, ← HACC.out]
                    show _ = M.withF (M.jf s.fs t.fs xn) acc
                    rw [HJ3.out]
                  · unfold Hid
                    rw [← HA2.out]
                    exact M.sm_with HSM.out (by omega) (by have := HUL.out; show vu.length ≤ _; omega)
              · rcases suf with _ | _
                · have HJ2 : Hid (M.jf s.fs t.fs xn = ⟨xn, false, M.norm (vsf ++ vsg)⟩) := by unfold Hid; rw [HJF.out]; simp
                  clear HJF
                  obtain ⟨xba0, xba1, _⟩ := cells2 Fba6.out
                  obtain ⟨xbb0, xbb1, _⟩ := cells2 Fbb6.out
                  obtain ⟨xbr0, xbr1, _⟩ := cells2 Fbr6.out
                  obtain ⟨xbo0, xbo1, _⟩ := cells2 Fbo6.out
                  obtain ⟨xbf0, xbf1, xbf2, _⟩ := cells3 Fbf6.out
                  obtain ⟨xbg0, xbg1, xbg2, _⟩ := cells3 Nbg.out
                  go_wp2_with fail
                  clear xba0 xba1 xbb0 xbb1 xbr0 xbr1 xbo0 xbo1 xbf0 xbf1 xbf2 xbg0 xbg1 xbg2
                  clear hV5
                  have KH : Hid (∀ W : World, W.heap[w1.heap.size]? = some (.cells #[.string nmf, .bool false, .slice yaf vsf.length ycf] 29 (0, 0)) → W.heap[w4.heap.size]? = some (.cells #[.string nmg, .bool sug, .slice yag vsg.length ycg] 29 (0, 0)) → (W.cell? ⟨w1.heap.size, 0, none⟩ = some (.string nmf) ∧ W.cell? ⟨w1.heap.size, 1, none⟩ = some (.bool false) ∧ W.cell? ⟨w1.heap.size, 2, none⟩ = some (.slice yaf vsf.length ycf) ∧ W.cell? ⟨w4.heap.size, 0, none⟩ = some (.string nmg) ∧ W.cell? ⟨w4.heap.size, 1, none⟩ = some (.bool sug) ∧ W.cell? ⟨w4.heap.size, 2, none⟩ = some (.slice yag vsg.length ycg))) := fun W h1 h2 => by
                    obtain ⟨e0, e1, e2, _⟩ := cells3 h1
                    obtain ⟨e3, e4, e5, _⟩ := cells3 h2
                    exact ⟨e0, e1, e2, e3, e4, e5⟩
                  have hbd : Below V5.heap.size V5 V5.drew := (Gr.refl _).drew.below
                  refine wp_region_held_drew (S := fun W => W.cell? ⟨w1.heap.size, 0, none⟩ = some (.string nmf) ∧ W.cell? ⟨w1.heap.size, 1, none⟩ = some (.bool false) ∧ W.cell? ⟨w1.heap.size, 2, none⟩ = some (.slice yaf vsf.length ycf) ∧ W.cell? ⟨w4.heap.size, 0, none⟩ = some (.string nmg) ∧ W.cell? ⟨w4.heap.size, 1, none⟩ = some (.bool sug) ∧ W.cell? ⟨w4.heap.size, 2, none⟩ = some (.slice yag vsg.length ycg)) (by kernel_rfl) (KH.out _ (bx_bel0 Fbf6.out hbd) (bx_bel0 Nbg.out hbd)) (fun hHeld => ?_)
                  have B7 := hid (B6.out.trans (hbd.mono B6.out.size))
                  have Fa7 := hid (Fa6.out.bel hbd)
                  have Fb7 := hid (Fb6.out.bel hbd)
                  have Fo7 := hid (Fo6.out.bel hbd)
                  have Fba7 := hid (bx_bel Fba6.out hbd)
                  have Fbb7 := hid (bx_bel Fbb6.out hbd)
                  have Fbr7 := hid (bx_bel Fbr6.out hbd)
                  have Fbo7 := hid (bx_bel Fbo6.out hbd)
                  have Ff7 := hid (Ff6.out.bel hbd)
                  have Fbf7 := hid (bx_bel Fbf6.out hbd)
                  have Fg7 := hid (Fg6.out.bel hbd)
                  have Fbg7 := hid (bx_bel Nbg.out hbd)
                  clear B6 Fa6 Fb6 Fo6 Fba6 Fbb6 Fbr6 Fbo6 Ff6 Fbf6 Fg6 Nbg
                  clear hbd
                  refine wpAnyH_take (i := 1) (oi := { dst := some 72, op := Op.move (Operand.tmp 7), type := 9, pos := "ref.go:63", after := #[], guard := none }) (v := ?_) rfl (by kernel_rfl) (by kernel_rfl) (by kernel_rfl) (fun _ _ _ h => h) (Or.inl ⟨by rfl, ?_⟩) hHeld ?_
                  rotate_left
                  · intro w hSw; (try dsimp only at hSw); go_simp; (try with_reducible rfl)
                  simp only [Act.put, List.setIfInBounds_toArray, List.set_cons_zero, List.set_cons_succ]
                  refine wpAnyH_take (i := 2) (oi := { dst := some 73, op := Op.move (Operand.tmp 9), type := 4, pos := "ref.go:63", after := #[], guard := none }) (v := ?_) rfl (by kernel_rfl) (by kernel_rfl) (by kernel_rfl) (fun _ _ _ h => h) (Or.inl ⟨by rfl, ?_⟩) hHeld ?_
                  rotate_left
                  · intro w hSw; (try dsimp only at hSw); go_simp; (try with_reducible rfl)
                  simp only [Act.put, List.setIfInBounds_toArray, List.set_cons_zero, List.set_cons_succ]
                  refine wpAnyH_take (i := 3) (oi := { dst := some 74, op := Op.move (Operand.tmp 73), type := 4, pos := "ref.go:63", after := #[{ on := 2, ground := Ground.data }], guard := none }) (v := ?_) rfl (by kernel_rfl) (by kernel_rfl) (by kernel_rfl) (fun _ _ _ h => h) (Or.inl ⟨by rfl, ?_⟩) hHeld ?_
                  rotate_left
                  · intro w hSw; (try dsimp only at hSw); go_simp; (try with_reducible rfl)
                  simp only [Act.put, List.setIfInBounds_toArray, List.set_cons_zero, List.set_cons_succ]
                  refine wpAnyH_take (i := 4) (oi := { dst := some 75, op := Op.move (Operand.tmp 11), type := 4, pos := "ref.go:63", after := #[{ on := 3, ground := Ground.guard }], guard := some (3, true) }) (v := ?_) rfl (by kernel_rfl) (by kernel_rfl) (by kernel_rfl) (fun _ _ _ h => h) (Or.inl ⟨by rfl, ?_⟩) hHeld ?_
                  rotate_left
                  · intro w hSw; (try dsimp only at hSw); go_simp; (try with_reducible rfl)
                  simp only [Act.put, List.setIfInBounds_toArray, List.set_cons_zero, List.set_cons_succ]
                  refine wpAnyH_take (i := 5) (oi := { dst := some 76, op := Op.pick (Operand.tmp 74) (Operand.tmp 75) (Operand.const (Value.bool false)), type := 4, pos := "ref.go:63", after := #[{ on := 3, ground := Ground.data }, { on := 4, ground := Ground.data }], guard := none }) (v := ?_) rfl (by kernel_rfl) (by kernel_rfl) (by kernel_rfl) (fun _ _ _ h => h) (Or.inl ⟨by rfl, ?_⟩) hHeld ?_
                  rotate_left
                  · intro w hSw; (try dsimp only at hSw); go_simp; (try with_reducible rfl)
                  simp only [Act.put, List.setIfInBounds_toArray, List.set_cons_zero, List.set_cons_succ]
                  refine wpAnyH_take (i := 6) (oi := { dst := some 77, op := Op.move (Operand.tmp 76), type := 4, pos := "ref.go:63", after := #[{ on := 5, ground := Ground.data }, { on := 3, ground := Ground.chain }], guard := none }) (v := ?_) rfl (by kernel_rfl) (by kernel_rfl) (by kernel_rfl) (fun _ _ _ h => h) (Or.inl ⟨by rfl, ?_⟩) hHeld ?_
                  rotate_left
                  · intro w hSw; (try dsimp only at hSw); go_simp; (try with_reducible rfl)
                  simp only [Act.put, List.setIfInBounds_toArray, List.set_cons_zero, List.set_cons_succ]
                  refine wpAnyH_take (i := 7) (oi := { dst := some 78, op := Op.fieldAddr 29 (Operand.tmp 8) 1, type := 0, pos := "ref.go:63", after := #[{ on := 6, ground := Ground.guard }], guard := some (6, true) }) (v := ?_) rfl (by kernel_rfl) (by kernel_rfl) (by kernel_rfl) (fun _ _ _ h => h) (Or.inl ⟨by rfl, ?_⟩) hHeld ?_
                  rotate_left
                  · intro w hSw; (try dsimp only at hSw); go_simp; (try with_reducible rfl)
                  simp only [Act.put, List.setIfInBounds_toArray, List.set_cons_zero, List.set_cons_succ]
                  refine wpAnyH_take (i := 8) (oi := { dst := some 79, op := Op.load 4 (Operand.tmp 78), type := 4, pos := "ref.go:63", after := #[{ on := 7, ground := Ground.data }, { on := 6, ground := Ground.guard }], guard := some (6, true) }) (v := ?_) rfl (by kernel_rfl) (by kernel_rfl) (by kernel_rfl) (fun _ _ _ h => h) (Or.inl ⟨by rfl, ?_⟩) hHeld ?_
                  rotate_left
                  · intro w hSw; (try dsimp only at hSw); go_simp; (try with_reducible rfl)
                  simp only [Act.put, List.setIfInBounds_toArray, List.set_cons_zero, List.set_cons_succ]
                  refine wpAnyH_take (i := 9) (oi := { dst := some 80, op := Op.pick (Operand.tmp 77) (Operand.tmp 79) (Operand.const (Value.bool false)), type := 4, pos := "ref.go:63", after := #[{ on := 6, ground := Ground.data }, { on := 8, ground := Ground.data }], guard := none }) (v := ?_) rfl (by kernel_rfl) (by kernel_rfl) (by kernel_rfl) (fun _ _ _ h => h) (Or.inl ⟨by rfl, ?_⟩) hHeld ?_
                  rotate_left
                  · intro w hSw; (try dsimp only at hSw); go_simp; (try with_reducible rfl)
                  simp only [Act.put, List.setIfInBounds_toArray, List.set_cons_zero, List.set_cons_succ]
                  refine wpAnyH_take (i := 10) (oi := { dst := some 81, op := Op.move (Operand.tmp 80), type := 4, pos := "ref.go:63", after := #[{ on := 9, ground := Ground.data }, { on := 6, ground := Ground.chain }], guard := none }) (v := ?_) rfl (by kernel_rfl) (by kernel_rfl) (by kernel_rfl) (fun _ _ _ h => h) (Or.inl ⟨by rfl, ?_⟩) hHeld ?_
                  rotate_left
                  · intro w hSw; (try dsimp only at hSw); go_simp; (try with_reducible rfl)
                  simp only [Act.put, List.setIfInBounds_toArray, List.set_cons_zero, List.set_cons_succ]
                  refine wpAnyH_take (i := 11) (oi := { dst := some 82, op := Op.fieldAddr 29 (Operand.tmp 10) 1, type := 0, pos := "ref.go:63", after := #[{ on := 10, ground := Ground.guard }], guard := some (10, true) }) (v := undef) rfl (by kernel_rfl) (by kernel_rfl) (by kernel_rfl) (fun _ _ _ h => h) (Or.inr ⟨by rfl, rfl⟩) hHeld ?_
                  simp only [Act.put, List.setIfInBounds_toArray, List.set_cons_zero, List.set_cons_succ]
                  refine wpAnyH_take (i := 12) (oi := { dst := some 83, op := Op.load 4 (Operand.tmp 82), type := 4, pos := "ref.go:63", after := #[{ on := 11, ground := Ground.data }, { on := 10, ground := Ground.guard }], guard := some (10, true) }) (v := undef) rfl (by kernel_rfl) (by kernel_rfl) (by kernel_rfl) (fun _ _ _ h => h) (Or.inr ⟨by rfl, rfl⟩) hHeld ?_
                  simp only [Act.put, List.setIfInBounds_toArray, List.set_cons_zero, List.set_cons_succ]
                  refine wpAnyH_take (i := 13) (oi := { dst := some 84, op := Op.pick (Operand.tmp 81) (Operand.tmp 83) (Operand.const (Value.bool false)), type := 4, pos := "ref.go:63", after := #[{ on := 10, ground := Ground.data }, { on := 12, ground := Ground.data }], guard := none }) (v := ?_) rfl (by kernel_rfl) (by kernel_rfl) (by kernel_rfl) (fun _ _ _ h => h) (Or.inl ⟨by rfl, ?_⟩) hHeld ?_
                  rotate_left
                  · intro w hSw; (try dsimp only at hSw); go_simp; (try with_reducible rfl)
                  simp only [Act.put, List.setIfInBounds_toArray, List.set_cons_zero, List.set_cons_succ]
                  refine wpAnyH_take (i := 14) (oi := { dst := some 85, op := Op.fieldAddr 29 (Operand.tmp 8) 2, type := 0, pos := "ref.go:63", after := #[], guard := none }) (v := ?_) rfl (by kernel_rfl) (by kernel_rfl) (by kernel_rfl) (fun _ _ _ h => h) (Or.inl ⟨by rfl, ?_⟩) hHeld ?_
                  rotate_left
                  · intro w hSw; (try dsimp only at hSw); go_simp; (try with_reducible rfl)
                  simp only [Act.put, List.setIfInBounds_toArray, List.set_cons_zero, List.set_cons_succ]
                  refine wpAnyH_take (i := 15) (oi := { dst := some 86, op := Op.load 23 (Operand.tmp 85), type := 23, pos := "ref.go:63", after := #[{ on := 14, ground := Ground.data }], guard := none }) (v := ?_) rfl (by kernel_rfl) (by kernel_rfl) (by kernel_rfl) (fun _ _ _ h => h) (Or.inl ⟨by rfl, ?_⟩) hHeld ?_
                  rotate_left
                  · intro w hSw; (try dsimp only at hSw); go_simp; (try with_reducible rfl)
                  simp only [Act.put, List.setIfInBounds_toArray, List.set_cons_zero, List.set_cons_succ]
                  refine wpAnyH_take (i := 16) (oi := { dst := some 87, op := Op.fieldAddr 29 (Operand.tmp 10) 2, type := 0, pos := "ref.go:63", after := #[], guard := none }) (v := ?_) rfl (by kernel_rfl) (by kernel_rfl) (by kernel_rfl) (fun _ _ _ h => h) (Or.inl ⟨by rfl, ?_⟩) hHeld ?_
                  rotate_left
                  · intro w hSw; (try dsimp only at hSw); go_simp; (try with_reducible rfl)
                  simp only [Act.put, List.setIfInBounds_toArray, List.set_cons_zero, List.set_cons_succ]
                  refine wpAnyH_take (i := 17) (oi := { dst := some 88, op := Op.load 23 (Operand.tmp 87), type := 23, pos := "ref.go:63", after := #[{ on := 16, ground := Ground.data }], guard := none }) (v := ?_) rfl (by kernel_rfl) (by kernel_rfl) (by kernel_rfl) (fun _ _ _ h => h) (Or.inl ⟨by rfl, ?_⟩) hHeld ?_
                  rotate_left
                  · intro w hSw; (try dsimp only at hSw); go_simp; (try with_reducible rfl)
                  simp only [Act.put, List.setIfInBounds_toArray, List.set_cons_zero, List.set_cons_succ]
                  refine wpAnyH_ready (rs := [0, 18]) (by kernel_rfl) (by simp) ?_
                  refine AllReadyH.cons (o := { dst := some 71, op := Op.load 25 (Operand.tmp 5), type := 25, pos := "ref.go:63", after := #[], guard := none }) rfl (fun K hK => ?_) (AllReadyH.cons (o := { dst := some 89, op := Op.call { callee := Callee.value (Operand.func 30), args := #[Operand.tmp 86, Operand.tmp 88], argTypes := #[23, 23] }, type := 23, pos := "ref.go:63", after := #[{ on := 15, ground := Ground.data }, { on := 17, ground := Ground.data }, { on := 10, ground := Ground.chain }], guard := none }) rfl (fun K hK => ?_) AllReadyH.nil)
                  · obtain ⟨o0, o1, _⟩ := cells2 Fbo7.out
                    go_simp
                    clear o0 o1
                    refine hK.out _ _ (KH.out _ Fbf7.out Fbg7.out) (fun hHeld => ?_)
                    clear hK
                    refine wpAnyH_ready (rs := [18]) (by kernel_rfl) (by simp) ?_
                    refine AllReadyH.cons (o := { dst := some 89, op := Op.call { callee := Callee.value (Operand.func 30), args := #[Operand.tmp 86, Operand.tmp 88], argTypes := #[23, 23] }, type := 23, pos := "ref.go:63", after := #[{ on := 15, ground := Ground.data }, { on := 17, ground := Ground.data }, { on := 10, ground := Ground.chain }], guard := none }) rfl (fun K hK => ?_) AllReadyH.nil
                    go_simp
                    refine (runion_any V5.drew _ _ vsf vsg Ff7.out Fg7.out (Nat.le_trans Lf.out (by decide)) (Nat.le_trans Lg.out (by decide))).mono ?_
                    rintro e z8 ⟨v8, rfl, hA, hb⟩
                    have B8 := hid (B7.out.trans (hb.mono B7.out.size))
                    have Fa8 := hid (Fa7.out.bel hb)
                    have Fb8 := hid (Fb7.out.bel hb)
                    have Fo8 := hid (Fo7.out.bel hb)
                    have Fba8 := hid (bx_bel Fba7.out hb)
                    have Fbb8 := hid (bx_bel Fbb7.out hb)
                    have Fbr8 := hid (bx_bel Fbr7.out hb)
                    have Fbo8 := hid (bx_bel Fbo7.out hb)
                    have Ff8 := hid (Ff7.out.bel hb)
                    have Fbf8 := hid (bx_bel Fbf7.out hb)
                    have Fg8 := hid (Fg7.out.bel hb)
                    have Fbg8 := hid (bx_bel Fbg7.out hb)
                    clear B7 Fa7 Fb7 Fo7 Fba7 Fbb7 Fbr7 Fbo7 Ff7 Fbf7 Fg7 Fbg7
                    obtain ⟨vu, hvu⟩ : ∃ l, M.norm (vsf ++ vsg) = l := ⟨_, rfl⟩
                    have hul : vu.length ≤ 20000 := by rw [← hvu]; have h := M.norm_length (vsf ++ vsg); rw [List.length_append] at h; have := Lf.out; have := Lg.out; omega
                    have HUL := hid hul
                    rw [hvu] at hA
                    have HJ3 : Hid (M.jf s.fs t.fs xn = ⟨xn, false, vu⟩) := by unfold Hid; rw [HJ2.out, hvu]
                    obtain ⟨qu, mu, rfl⟩ := hA.form
                    have Fu8 : Hid (AtAt z8 (.slice qu vu.length mu) vu) := hid hA
                    clear hA hvu hul hb
                    refine hK.out _ _ (KH.out _ Fbf8.out Fbg8.out) (fun hHeld => ?_)
                    clear hK
                    refine wpAnyH_take (i := 19) (oi := { dst := some 90, op := Op.build 29 #[(0, Operand.tmp 72), (1, Operand.tmp 84), (2, Operand.tmp 89)], type := 29, pos := "ref.go:63", after := #[{ on := 1, ground := Ground.data }, { on := 13, ground := Ground.data }, { on := 18, ground := Ground.data }], guard := none }) (v := ?_) rfl (by kernel_rfl) (by kernel_rfl) (by kernel_rfl) (fun _ _ _ h => h) (Or.inl ⟨by rfl, ?_⟩) hHeld ?_
                    rotate_left
                    · intro w hSw; (try dsimp only at hSw); go_simp; (try with_reducible rfl)
                    simp only [Act.put, List.setIfInBounds_toArray, List.set_cons_zero, List.set_cons_succ]
                    refine wpAnyH_ready (rs := [20]) (by kernel_rfl) (by simp) ?_
                    refine AllReadyH.cons (o := { dst := some 91, op := Op.call { callee := Callee.value (Operand.func 37), args := #[Operand.tmp 71, Operand.tmp 90], argTypes := #[25, 29] }, type := 25, pos := "ref.go:63", after := #[{ on := 0, ground := Ground.data }, { on := 19, ground := Ground.data }, { on := 18, ground := Ground.chain }], guard := none }) rfl (fun K hK => ?_) AllReadyH.nil
                    go_simp
                    refine (rwith_any z8 _ ⟨acc, pn⟩ xn false vu qu mu Fo8.out Fu8.out (M.sm_mono HSM.out (by omega)) HRI.out).mono ?_
                    rintro e z9 ⟨v9, rfl, hsh, hb⟩
                    have B9 := hid (B8.out.trans (hb.mono B8.out.size))
                    have Fa9 := hid (Fa8.out.bel hb)
                    have Fb9 := hid (Fb8.out.bel hb)
                    have Fo9 := hid (Fo8.out.bel hb)
                    have Fba9 := hid (bx_bel Fba8.out hb)
                    have Fbb9 := hid (bx_bel Fbb8.out hb)
                    have Fbr9 := hid (bx_bel Fbr8.out hb)
                    have Fbo9 := hid (bx_bel Fbo8.out hb)
                    have Ff9 := hid (Ff8.out.bel hb)
                    have Fbf9 := hid (bx_bel Fbf8.out hb)
                    have Fg9 := hid (Fg8.out.bel hb)
                    have Fbg9 := hid (bx_bel Fbg8.out hb)
                    have Fu9 := hid (Fu8.out.bel hb)
                    clear B8 Fa8 Fb8 Fo8 Fba8 Fbb8 Fbr8 Fbo8 Ff8 Fbf8 Fg8 Fbg8 Fu8
                    obtain ⟨acc2, hacc2⟩ : ∃ l, M.withF ⟨xn, false, vu⟩ acc = l := ⟨_, rfl⟩
                    rw [hacc2] at hsh
                    have HA2 := hid hacc2
                    obtain ⟨qn, mn, qn2, mn2, rfl⟩ := hsh.form
                    have Fn9 : Hid (ShAt z9 (.agg #[.slice qn acc2.length mn, .slice qn2 pn.length mn2]) ⟨acc2, pn⟩) := hid hsh
                    clear hsh hacc2 hb
                    refine hK.out _ _ (KH.out _ Fbf9.out Fbg9.out) (fun hHeld => ?_)
                    clear hK
                    refine wpAnyH_ready (rs := [21]) (by kernel_rfl) (by simp) ?_
                    refine AllReadyH.cons (o := { dst := none, op := Op.store 25 (Operand.tmp 5) (Operand.tmp 91), type := 0, pos := "ref.go:63", after := #[{ on := 20, ground := Ground.data }, { on := 20, ground := Ground.chain }, { on := 0, ground := Ground.phase }, { on := 1, ground := Ground.phase }, { on := 2, ground := Ground.phase }, { on := 3, ground := Ground.phase }, { on := 4, ground := Ground.phase }, { on := 5, ground := Ground.phase }, { on := 6, ground := Ground.phase }, { on := 7, ground := Ground.phase }, { on := 8, ground := Ground.phase }, { on := 9, ground := Ground.phase }, { on := 10, ground := Ground.phase }, { on := 11, ground := Ground.phase }, { on := 12, ground := Ground.phase }, { on := 13, ground := Ground.phase }, { on := 14, ground := Ground.phase }, { on := 15, ground := Ground.phase }, { on := 16, ground := Ground.phase }, { on := 17, ground := Ground.phase }, { on := 18, ground := Ground.phase }, { on := 19, ground := Ground.phase }, { on := 20, ground := Ground.phase }], guard := none }) rfl (fun K hK => ?_) AllReadyH.nil
                    obtain ⟨o0, o1, _⟩ := cells2 Fbo9.out
                    go_simp
                    clear o0 o1
                    obtain ⟨z10, hzz10⟩ : ∃ W, ((z9.setCell ⟨g5, 0, none⟩ (.slice qn acc2.length mn)).setCell ⟨g5, 1, none⟩ (.slice qn2 pn.length mn2)) = W := ⟨_, rfl⟩
                    have B10 : Hid (Below w.heap.size w z10) := by unfold Hid; rw [← hzz10]; exact set2b B9.out (by have := HG5.out; omega) _ _
                    have Fba10 := hid ((congrArg (fun W : World => W.heap[w.heap.size]?) hzz10).symm.trans ((box_off (by have := HG5.out; omega) _ _).trans Fba9.out))
                    have Fbb10 := hid ((congrArg (fun W : World => W.heap[w.heap.size + 1]?) hzz10).symm.trans ((box_off (by have := HG5.out; omega) _ _).trans Fbb9.out))
                    have Fbr10 := hid ((congrArg (fun W : World => W.heap[w.heap.size + 2]?) hzz10).symm.trans ((box_off (by have := HG5.out; omega) _ _).trans Fbr9.out))
                    have Fbf10 := hid ((congrArg (fun W : World => W.heap[w1.heap.size]?) hzz10).symm.trans ((box_off (Nat.ne_of_gt HGf.out) _ _).trans Fbf9.out))
                    have Fbg10 := hid ((congrArg (fun W : World => W.heap[w4.heap.size]?) hzz10).symm.trans ((box_off (Nat.ne_of_gt HGg.out) _ _).trans Fbg9.out))
                    have Fbo10 := hid ((congrArg (fun W : World => W.heap[g5]?) hzz10).symm.trans (box_set2 Fbo9.out _ _))
                    have Fn10 : Hid (ShAt z10 (.agg #[.slice qn acc2.length mn, .slice qn2 pn.length mn2]) ⟨acc2, pn⟩) := by unfold Hid; rw [← hzz10]; exact Fn9.out.off2 Fbo9.out _ _
                    try rw [hzz10]
                    clear hzz10
                    refine hK.out _ _ (KH.out _ Fbf10.out Fbg10.out) (fun hHeld => ?_)
                    clear hK
                    refine wpAnyH_done (by kernel_rfl) ?_ _
                    clear hHeld KH
                    go_wp2
                    refine ⟨⟨R.length + k + 1, acc2, qn, mn, qn2, mn2, by omega, by go_num, B10, Fba10, Fbb10, Fbr10, Fbo10, Fn10, ?_, ?_⟩, by simp [intOf]; omega⟩
                    · unfold Hid
                      rw [← HA2.out, HTK.out, List.foldl_append, ← HACC.out]
                      show _ = M.withF (M.jf s.fs t.fs xn) acc
                      rw [HJ3.out]
                    · unfold Hid
                      rw [← HA2.out]
                      exact M.sm_with HSM.out (by omega) (by have := HUL.out; show vu.length ≤ _; omega)
                  · go_simp
                    refine (runion_any V5.drew _ _ vsf vsg Ff7.out Fg7.out (Nat.le_trans Lf.out (by decide)) (Nat.le_trans Lg.out (by decide))).mono ?_
                    rintro e z8 ⟨v8, rfl, hA, hb⟩
                    have B8 := hid (B7.out.trans (hb.mono B7.out.size))
                    have Fa8 := hid (Fa7.out.bel hb)
                    have Fb8 := hid (Fb7.out.bel hb)
                    have Fo8 := hid (Fo7.out.bel hb)
                    have Fba8 := hid (bx_bel Fba7.out hb)
                    have Fbb8 := hid (bx_bel Fbb7.out hb)
                    have Fbr8 := hid (bx_bel Fbr7.out hb)
                    have Fbo8 := hid (bx_bel Fbo7.out hb)
                    have Ff8 := hid (Ff7.out.bel hb)
                    have Fbf8 := hid (bx_bel Fbf7.out hb)
                    have Fg8 := hid (Fg7.out.bel hb)
                    have Fbg8 := hid (bx_bel Fbg7.out hb)
                    clear B7 Fa7 Fb7 Fo7 Fba7 Fbb7 Fbr7 Fbo7 Ff7 Fbf7 Fg7 Fbg7
                    obtain ⟨vu, hvu⟩ : ∃ l, M.norm (vsf ++ vsg) = l := ⟨_, rfl⟩
                    have hul : vu.length ≤ 20000 := by rw [← hvu]; have h := M.norm_length (vsf ++ vsg); rw [List.length_append] at h; have := Lf.out; have := Lg.out; omega
                    have HUL := hid hul
                    rw [hvu] at hA
                    have HJ3 : Hid (M.jf s.fs t.fs xn = ⟨xn, false, vu⟩) := by unfold Hid; rw [HJ2.out, hvu]
                    obtain ⟨qu, mu, rfl⟩ := hA.form
                    have Fu8 : Hid (AtAt z8 (.slice qu vu.length mu) vu) := hid hA
                    clear hA hvu hul hb
                    refine hK.out _ _ (KH.out _ Fbf8.out Fbg8.out) (fun hHeld => ?_)
                    clear hK
                    refine wpAnyH_take (i := 19) (oi := { dst := some 90, op := Op.build 29 #[(0, Operand.tmp 72), (1, Operand.tmp 84), (2, Operand.tmp 89)], type := 29, pos := "ref.go:63", after := #[{ on := 1, ground := Ground.data }, { on := 13, ground := Ground.data }, { on := 18, ground := Ground.data }], guard := none }) (v := ?_) rfl (by kernel_rfl) (by kernel_rfl) (by kernel_rfl) (fun _ _ _ h => h) (Or.inl ⟨by rfl, ?_⟩) hHeld ?_
                    rotate_left
                    · intro w hSw; (try dsimp only at hSw); go_simp; (try with_reducible rfl)
                    simp only [Act.put, List.setIfInBounds_toArray, List.set_cons_zero, List.set_cons_succ]
                    refine wpAnyH_ready (rs := [0]) (by kernel_rfl) (by simp) ?_
                    refine AllReadyH.cons (o := { dst := some 71, op := Op.load 25 (Operand.tmp 5), type := 25, pos := "ref.go:63", after := #[], guard := none }) rfl (fun K hK => ?_) AllReadyH.nil
                    obtain ⟨o0, o1, _⟩ := cells2 Fbo8.out
                    go_simp
                    clear o0 o1
                    refine hK.out _ _ (KH.out _ Fbf8.out Fbg8.out) (fun hHeld => ?_)
                    clear hK
                    refine wpAnyH_ready (rs := [20]) (by kernel_rfl) (by simp) ?_
                    refine AllReadyH.cons (o := { dst := some 91, op := Op.call { callee := Callee.value (Operand.func 37), args := #[Operand.tmp 71, Operand.tmp 90], argTypes := #[25, 29] }, type := 25, pos := "ref.go:63", after := #[{ on := 0, ground := Ground.data }, { on := 19, ground := Ground.data }, { on := 18, ground := Ground.chain }], guard := none }) rfl (fun K hK => ?_) AllReadyH.nil
                    go_simp
                    refine (rwith_any z8 _ ⟨acc, pn⟩ xn false vu qu mu Fo8.out Fu8.out (M.sm_mono HSM.out (by omega)) HRI.out).mono ?_
                    rintro e z9 ⟨v9, rfl, hsh, hb⟩
                    have B9 := hid (B8.out.trans (hb.mono B8.out.size))
                    have Fa9 := hid (Fa8.out.bel hb)
                    have Fb9 := hid (Fb8.out.bel hb)
                    have Fo9 := hid (Fo8.out.bel hb)
                    have Fba9 := hid (bx_bel Fba8.out hb)
                    have Fbb9 := hid (bx_bel Fbb8.out hb)
                    have Fbr9 := hid (bx_bel Fbr8.out hb)
                    have Fbo9 := hid (bx_bel Fbo8.out hb)
                    have Ff9 := hid (Ff8.out.bel hb)
                    have Fbf9 := hid (bx_bel Fbf8.out hb)
                    have Fg9 := hid (Fg8.out.bel hb)
                    have Fbg9 := hid (bx_bel Fbg8.out hb)
                    have Fu9 := hid (Fu8.out.bel hb)
                    clear B8 Fa8 Fb8 Fo8 Fba8 Fbb8 Fbr8 Fbo8 Ff8 Fbf8 Fg8 Fbg8 Fu8
                    obtain ⟨acc2, hacc2⟩ : ∃ l, M.withF ⟨xn, false, vu⟩ acc = l := ⟨_, rfl⟩
                    rw [hacc2] at hsh
                    have HA2 := hid hacc2
                    obtain ⟨qn, mn, qn2, mn2, rfl⟩ := hsh.form
                    have Fn9 : Hid (ShAt z9 (.agg #[.slice qn acc2.length mn, .slice qn2 pn.length mn2]) ⟨acc2, pn⟩) := hid hsh
                    clear hsh hacc2 hb
                    refine hK.out _ _ (KH.out _ Fbf9.out Fbg9.out) (fun hHeld => ?_)
                    clear hK
                    refine wpAnyH_ready (rs := [21]) (by kernel_rfl) (by simp) ?_
                    refine AllReadyH.cons (o := { dst := none, op := Op.store 25 (Operand.tmp 5) (Operand.tmp 91), type := 0, pos := "ref.go:63", after := #[{ on := 20, ground := Ground.data }, { on := 20, ground := Ground.chain }, { on := 0, ground := Ground.phase }, { on := 1, ground := Ground.phase }, { on := 2, ground := Ground.phase }, { on := 3, ground := Ground.phase }, { on := 4, ground := Ground.phase }, { on := 5, ground := Ground.phase }, { on := 6, ground := Ground.phase }, { on := 7, ground := Ground.phase }, { on := 8, ground := Ground.phase }, { on := 9, ground := Ground.phase }, { on := 10, ground := Ground.phase }, { on := 11, ground := Ground.phase }, { on := 12, ground := Ground.phase }, { on := 13, ground := Ground.phase }, { on := 14, ground := Ground.phase }, { on := 15, ground := Ground.phase }, { on := 16, ground := Ground.phase }, { on := 17, ground := Ground.phase }, { on := 18, ground := Ground.phase }, { on := 19, ground := Ground.phase }, { on := 20, ground := Ground.phase }], guard := none }) rfl (fun K hK => ?_) AllReadyH.nil
                    obtain ⟨o0, o1, _⟩ := cells2 Fbo9.out
                    go_simp
                    clear o0 o1
                    obtain ⟨z10, hzz10⟩ : ∃ W, ((z9.setCell ⟨g5, 0, none⟩ (.slice qn acc2.length mn)).setCell ⟨g5, 1, none⟩ (.slice qn2 pn.length mn2)) = W := ⟨_, rfl⟩
                    have B10 : Hid (Below w.heap.size w z10) := by unfold Hid; rw [← hzz10]; exact set2b B9.out (by have := HG5.out; omega) _ _
                    have Fba10 := hid ((congrArg (fun W : World => W.heap[w.heap.size]?) hzz10).symm.trans ((box_off (by have := HG5.out; omega) _ _).trans Fba9.out))
                    have Fbb10 := hid ((congrArg (fun W : World => W.heap[w.heap.size + 1]?) hzz10).symm.trans ((box_off (by have := HG5.out; omega) _ _).trans Fbb9.out))
                    have Fbr10 := hid ((congrArg (fun W : World => W.heap[w.heap.size + 2]?) hzz10).symm.trans ((box_off (by have := HG5.out; omega) _ _).trans Fbr9.out))
                    have Fbf10 := hid ((congrArg (fun W : World => W.heap[w1.heap.size]?) hzz10).symm.trans ((box_off (Nat.ne_of_gt HGf.out) _ _).trans Fbf9.out))
                    have Fbg10 := hid ((congrArg (fun W : World => W.heap[w4.heap.size]?) hzz10).symm.trans ((box_off (Nat.ne_of_gt HGg.out) _ _).trans Fbg9.out))
                    have Fbo10 := hid ((congrArg (fun W : World => W.heap[g5]?) hzz10).symm.trans (box_set2 Fbo9.out _ _))
                    have Fn10 : Hid (ShAt z10 (.agg #[.slice qn acc2.length mn, .slice qn2 pn.length mn2]) ⟨acc2, pn⟩) := by unfold Hid; rw [← hzz10]; exact Fn9.out.off2 Fbo9.out _ _
                    try rw [hzz10]
                    clear hzz10
                    refine hK.out _ _ (KH.out _ Fbf10.out Fbg10.out) (fun hHeld => ?_)
                    clear hK
                    refine wpAnyH_done (by kernel_rfl) ?_ _
                    clear hHeld KH
                    go_wp2
                    refine ⟨⟨R.length + k + 1, acc2, qn, mn, qn2, mn2, by omega, by go_num, B10, Fba10, Fbb10, Fbr10, Fbo10, Fn10, ?_, ?_⟩, by simp [intOf]; omega⟩
                    · unfold Hid
                      rw [← HA2.out, HTK.out, List.foldl_append, ← HACC.out]
                      show _ = M.withF (M.jf s.fs t.fs xn) acc
                      rw [HJ3.out]
                    · unfold Hid
                      rw [← HA2.out]
                      exact M.sm_with HSM.out (by omega) (by have := HUL.out; show vu.length ≤ _; omega)
                · have HJ2 : Hid (M.jf s.fs t.fs xn = ⟨xn, sug, M.norm (vsf ++ vsg)⟩) := by unfold Hid; rw [HJF.out]; simp
                  clear HJF
                  obtain ⟨xba0, xba1, _⟩ := cells2 Fba6.out
                  obtain ⟨xbb0, xbb1, _⟩ := cells2 Fbb6.out
                  obtain ⟨xbr0, xbr1, _⟩ := cells2 Fbr6.out
                  obtain ⟨xbo0, xbo1, _⟩ := cells2 Fbo6.out
                  obtain ⟨xbf0, xbf1, xbf2, _⟩ := cells3 Fbf6.out
                  obtain ⟨xbg0, xbg1, xbg2, _⟩ := cells3 Nbg.out
                  go_wp2_with fail
                  clear xba0 xba1 xbb0 xbb1 xbr0 xbr1 xbo0 xbo1 xbf0 xbf1 xbf2 xbg0 xbg1 xbg2
                  clear hV5
                  have KH : Hid (∀ W : World, W.heap[w1.heap.size]? = some (.cells #[.string nmf, .bool true, .slice yaf vsf.length ycf] 29 (0, 0)) → W.heap[w4.heap.size]? = some (.cells #[.string nmg, .bool sug, .slice yag vsg.length ycg] 29 (0, 0)) → (W.cell? ⟨w1.heap.size, 0, none⟩ = some (.string nmf) ∧ W.cell? ⟨w1.heap.size, 1, none⟩ = some (.bool true) ∧ W.cell? ⟨w1.heap.size, 2, none⟩ = some (.slice yaf vsf.length ycf) ∧ W.cell? ⟨w4.heap.size, 0, none⟩ = some (.string nmg) ∧ W.cell? ⟨w4.heap.size, 1, none⟩ = some (.bool sug) ∧ W.cell? ⟨w4.heap.size, 2, none⟩ = some (.slice yag vsg.length ycg))) := fun W h1 h2 => by
                    obtain ⟨e0, e1, e2, _⟩ := cells3 h1
                    obtain ⟨e3, e4, e5, _⟩ := cells3 h2
                    exact ⟨e0, e1, e2, e3, e4, e5⟩
                  have hbd : Below V5.heap.size V5 V5.drew := (Gr.refl _).drew.below
                  refine wp_region_held_drew (S := fun W => W.cell? ⟨w1.heap.size, 0, none⟩ = some (.string nmf) ∧ W.cell? ⟨w1.heap.size, 1, none⟩ = some (.bool true) ∧ W.cell? ⟨w1.heap.size, 2, none⟩ = some (.slice yaf vsf.length ycf) ∧ W.cell? ⟨w4.heap.size, 0, none⟩ = some (.string nmg) ∧ W.cell? ⟨w4.heap.size, 1, none⟩ = some (.bool sug) ∧ W.cell? ⟨w4.heap.size, 2, none⟩ = some (.slice yag vsg.length ycg)) (by kernel_rfl) (KH.out _ (bx_bel0 Fbf6.out hbd) (bx_bel0 Nbg.out hbd)) (fun hHeld => ?_)
                  have B7 := hid (B6.out.trans (hbd.mono B6.out.size))
                  have Fa7 := hid (Fa6.out.bel hbd)
                  have Fb7 := hid (Fb6.out.bel hbd)
                  have Fo7 := hid (Fo6.out.bel hbd)
                  have Fba7 := hid (bx_bel Fba6.out hbd)
                  have Fbb7 := hid (bx_bel Fbb6.out hbd)
                  have Fbr7 := hid (bx_bel Fbr6.out hbd)
                  have Fbo7 := hid (bx_bel Fbo6.out hbd)
                  have Ff7 := hid (Ff6.out.bel hbd)
                  have Fbf7 := hid (bx_bel Fbf6.out hbd)
                  have Fg7 := hid (Fg6.out.bel hbd)
                  have Fbg7 := hid (bx_bel Nbg.out hbd)
                  clear B6 Fa6 Fb6 Fo6 Fba6 Fbb6 Fbr6 Fbo6 Ff6 Fbf6 Fg6 Nbg
                  clear hbd
                  refine wpAnyH_take (i := 1) (oi := { dst := some 72, op := Op.move (Operand.tmp 7), type := 9, pos := "ref.go:63", after := #[], guard := none }) (v := ?_) rfl (by kernel_rfl) (by kernel_rfl) (by kernel_rfl) (fun _ _ _ h => h) (Or.inl ⟨by rfl, ?_⟩) hHeld ?_
                  rotate_left
                  · intro w hSw; (try dsimp only at hSw); go_simp; (try with_reducible rfl)
                  simp only [Act.put, List.setIfInBounds_toArray, List.set_cons_zero, List.set_cons_succ]
                  refine wpAnyH_take (i := 2) (oi := { dst := some 73, op := Op.move (Operand.tmp 9), type := 4, pos := "ref.go:63", after := #[], guard := none }) (v := ?_) rfl (by kernel_rfl) (by kernel_rfl) (by kernel_rfl) (fun _ _ _ h => h) (Or.inl ⟨by rfl, ?_⟩) hHeld ?_
                  rotate_left
                  · intro w hSw; (try dsimp only at hSw); go_simp; (try with_reducible rfl)
                  simp only [Act.put, List.setIfInBounds_toArray, List.set_cons_zero, List.set_cons_succ]
                  refine wpAnyH_take (i := 3) (oi := { dst := some 74, op := Op.move (Operand.tmp 73), type := 4, pos := "ref.go:63", after := #[{ on := 2, ground := Ground.data }], guard := none }) (v := ?_) rfl (by kernel_rfl) (by kernel_rfl) (by kernel_rfl) (fun _ _ _ h => h) (Or.inl ⟨by rfl, ?_⟩) hHeld ?_
                  rotate_left
                  · intro w hSw; (try dsimp only at hSw); go_simp; (try with_reducible rfl)
                  simp only [Act.put, List.setIfInBounds_toArray, List.set_cons_zero, List.set_cons_succ]
                  refine wpAnyH_take (i := 4) (oi := { dst := some 75, op := Op.move (Operand.tmp 11), type := 4, pos := "ref.go:63", after := #[{ on := 3, ground := Ground.guard }], guard := some (3, true) }) (v := ?_) rfl (by kernel_rfl) (by kernel_rfl) (by kernel_rfl) (fun _ _ _ h => h) (Or.inl ⟨by rfl, ?_⟩) hHeld ?_
                  rotate_left
                  · intro w hSw; (try dsimp only at hSw); go_simp; (try with_reducible rfl)
                  simp only [Act.put, List.setIfInBounds_toArray, List.set_cons_zero, List.set_cons_succ]
                  refine wpAnyH_take (i := 5) (oi := { dst := some 76, op := Op.pick (Operand.tmp 74) (Operand.tmp 75) (Operand.const (Value.bool false)), type := 4, pos := "ref.go:63", after := #[{ on := 3, ground := Ground.data }, { on := 4, ground := Ground.data }], guard := none }) (v := ?_) rfl (by kernel_rfl) (by kernel_rfl) (by kernel_rfl) (fun _ _ _ h => h) (Or.inl ⟨by rfl, ?_⟩) hHeld ?_
                  rotate_left
                  · intro w hSw; (try dsimp only at hSw); go_simp; (try with_reducible rfl)
                  simp only [Act.put, List.setIfInBounds_toArray, List.set_cons_zero, List.set_cons_succ]
                  refine wpAnyH_take (i := 6) (oi := { dst := some 77, op := Op.move (Operand.tmp 76), type := 4, pos := "ref.go:63", after := #[{ on := 5, ground := Ground.data }, { on := 3, ground := Ground.chain }], guard := none }) (v := ?_) rfl (by kernel_rfl) (by kernel_rfl) (by kernel_rfl) (fun _ _ _ h => h) (Or.inl ⟨by rfl, ?_⟩) hHeld ?_
                  rotate_left
                  · intro w hSw; (try dsimp only at hSw); go_simp; (try with_reducible rfl)
                  simp only [Act.put, List.setIfInBounds_toArray, List.set_cons_zero, List.set_cons_succ]
                  refine wpAnyH_take (i := 7) (oi := { dst := some 78, op := Op.fieldAddr 29 (Operand.tmp 8) 1, type := 0, pos := "ref.go:63", after := #[{ on := 6, ground := Ground.guard }], guard := some (6, true) }) (v := ?_) rfl (by kernel_rfl) (by kernel_rfl) (by kernel_rfl) (fun _ _ _ h => h) (Or.inl ⟨by rfl, ?_⟩) hHeld ?_
                  rotate_left
                  · intro w hSw; (try dsimp only at hSw); go_simp; (try with_reducible rfl)
                  simp only [Act.put, List.setIfInBounds_toArray, List.set_cons_zero, List.set_cons_succ]
                  refine wpAnyH_take (i := 8) (oi := { dst := some 79, op := Op.load 4 (Operand.tmp 78), type := 4, pos := "ref.go:63", after := #[{ on := 7, ground := Ground.data }, { on := 6, ground := Ground.guard }], guard := some (6, true) }) (v := ?_) rfl (by kernel_rfl) (by kernel_rfl) (by kernel_rfl) (fun _ _ _ h => h) (Or.inl ⟨by rfl, ?_⟩) hHeld ?_
                  rotate_left
                  · intro w hSw; (try dsimp only at hSw); go_simp; (try with_reducible rfl)
                  simp only [Act.put, List.setIfInBounds_toArray, List.set_cons_zero, List.set_cons_succ]
                  refine wpAnyH_take (i := 9) (oi := { dst := some 80, op := Op.pick (Operand.tmp 77) (Operand.tmp 79) (Operand.const (Value.bool false)), type := 4, pos := "ref.go:63", after := #[{ on := 6, ground := Ground.data }, { on := 8, ground := Ground.data }], guard := none }) (v := ?_) rfl (by kernel_rfl) (by kernel_rfl) (by kernel_rfl) (fun _ _ _ h => h) (Or.inl ⟨by rfl, ?_⟩) hHeld ?_
                  rotate_left
                  · intro w hSw; (try dsimp only at hSw); go_simp; (try with_reducible rfl)
                  simp only [Act.put, List.setIfInBounds_toArray, List.set_cons_zero, List.set_cons_succ]
                  refine wpAnyH_take (i := 10) (oi := { dst := some 81, op := Op.move (Operand.tmp 80), type := 4, pos := "ref.go:63", after := #[{ on := 9, ground := Ground.data }, { on := 6, ground := Ground.chain }], guard := none }) (v := ?_) rfl (by kernel_rfl) (by kernel_rfl) (by kernel_rfl) (fun _ _ _ h => h) (Or.inl ⟨by rfl, ?_⟩) hHeld ?_
                  rotate_left
                  · intro w hSw; (try dsimp only at hSw); go_simp; (try with_reducible rfl)
                  simp only [Act.put, List.setIfInBounds_toArray, List.set_cons_zero, List.set_cons_succ]
                  refine wpAnyH_take (i := 11) (oi := { dst := some 82, op := Op.fieldAddr 29 (Operand.tmp 10) 1, type := 0, pos := "ref.go:63", after := #[{ on := 10, ground := Ground.guard }], guard := some (10, true) }) (v := ?_) rfl (by kernel_rfl) (by kernel_rfl) (by kernel_rfl) (fun _ _ _ h => h) (Or.inl ⟨by rfl, ?_⟩) hHeld ?_
                  rotate_left
                  · intro w hSw; (try dsimp only at hSw); go_simp; (try with_reducible rfl)
                  simp only [Act.put, List.setIfInBounds_toArray, List.set_cons_zero, List.set_cons_succ]
                  refine wpAnyH_take (i := 12) (oi := { dst := some 83, op := Op.load 4 (Operand.tmp 82), type := 4, pos := "ref.go:63", after := #[{ on := 11, ground := Ground.data }, { on := 10, ground := Ground.guard }], guard := some (10, true) }) (v := ?_) rfl (by kernel_rfl) (by kernel_rfl) (by kernel_rfl) (fun _ _ _ h => h) (Or.inl ⟨by rfl, ?_⟩) hHeld ?_
                  rotate_left
                  · intro w hSw; (try dsimp only at hSw); go_simp; (try with_reducible rfl)
                  simp only [Act.put, List.setIfInBounds_toArray, List.set_cons_zero, List.set_cons_succ]
                  refine wpAnyH_take (i := 13) (oi := { dst := some 84, op := Op.pick (Operand.tmp 81) (Operand.tmp 83) (Operand.const (Value.bool false)), type := 4, pos := "ref.go:63", after := #[{ on := 10, ground := Ground.data }, { on := 12, ground := Ground.data }], guard := none }) (v := ?_) rfl (by kernel_rfl) (by kernel_rfl) (by kernel_rfl) (fun _ _ _ h => h) (Or.inl ⟨by rfl, ?_⟩) hHeld ?_
                  rotate_left
                  · intro w hSw; (try dsimp only at hSw); go_simp; (try with_reducible rfl)
                  simp only [Act.put, List.setIfInBounds_toArray, List.set_cons_zero, List.set_cons_succ]
                  refine wpAnyH_take (i := 14) (oi := { dst := some 85, op := Op.fieldAddr 29 (Operand.tmp 8) 2, type := 0, pos := "ref.go:63", after := #[], guard := none }) (v := ?_) rfl (by kernel_rfl) (by kernel_rfl) (by kernel_rfl) (fun _ _ _ h => h) (Or.inl ⟨by rfl, ?_⟩) hHeld ?_
                  rotate_left
                  · intro w hSw; (try dsimp only at hSw); go_simp; (try with_reducible rfl)
                  simp only [Act.put, List.setIfInBounds_toArray, List.set_cons_zero, List.set_cons_succ]
                  refine wpAnyH_take (i := 15) (oi := { dst := some 86, op := Op.load 23 (Operand.tmp 85), type := 23, pos := "ref.go:63", after := #[{ on := 14, ground := Ground.data }], guard := none }) (v := ?_) rfl (by kernel_rfl) (by kernel_rfl) (by kernel_rfl) (fun _ _ _ h => h) (Or.inl ⟨by rfl, ?_⟩) hHeld ?_
                  rotate_left
                  · intro w hSw; (try dsimp only at hSw); go_simp; (try with_reducible rfl)
                  simp only [Act.put, List.setIfInBounds_toArray, List.set_cons_zero, List.set_cons_succ]
                  refine wpAnyH_take (i := 16) (oi := { dst := some 87, op := Op.fieldAddr 29 (Operand.tmp 10) 2, type := 0, pos := "ref.go:63", after := #[], guard := none }) (v := ?_) rfl (by kernel_rfl) (by kernel_rfl) (by kernel_rfl) (fun _ _ _ h => h) (Or.inl ⟨by rfl, ?_⟩) hHeld ?_
                  rotate_left
                  · intro w hSw; (try dsimp only at hSw); go_simp; (try with_reducible rfl)
                  simp only [Act.put, List.setIfInBounds_toArray, List.set_cons_zero, List.set_cons_succ]
                  refine wpAnyH_take (i := 17) (oi := { dst := some 88, op := Op.load 23 (Operand.tmp 87), type := 23, pos := "ref.go:63", after := #[{ on := 16, ground := Ground.data }], guard := none }) (v := ?_) rfl (by kernel_rfl) (by kernel_rfl) (by kernel_rfl) (fun _ _ _ h => h) (Or.inl ⟨by rfl, ?_⟩) hHeld ?_
                  rotate_left
                  · intro w hSw; (try dsimp only at hSw); go_simp; (try with_reducible rfl)
                  simp only [Act.put, List.setIfInBounds_toArray, List.set_cons_zero, List.set_cons_succ]
                  refine wpAnyH_ready (rs := [0, 18]) (by kernel_rfl) (by simp) ?_
                  refine AllReadyH.cons (o := { dst := some 71, op := Op.load 25 (Operand.tmp 5), type := 25, pos := "ref.go:63", after := #[], guard := none }) rfl (fun K hK => ?_) (AllReadyH.cons (o := { dst := some 89, op := Op.call { callee := Callee.value (Operand.func 30), args := #[Operand.tmp 86, Operand.tmp 88], argTypes := #[23, 23] }, type := 23, pos := "ref.go:63", after := #[{ on := 15, ground := Ground.data }, { on := 17, ground := Ground.data }, { on := 10, ground := Ground.chain }], guard := none }) rfl (fun K hK => ?_) AllReadyH.nil)
                  · obtain ⟨o0, o1, _⟩ := cells2 Fbo7.out
                    go_simp
                    clear o0 o1
                    refine hK.out _ _ (KH.out _ Fbf7.out Fbg7.out) (fun hHeld => ?_)
                    clear hK
                    refine wpAnyH_ready (rs := [18]) (by kernel_rfl) (by simp) ?_
                    refine AllReadyH.cons (o := { dst := some 89, op := Op.call { callee := Callee.value (Operand.func 30), args := #[Operand.tmp 86, Operand.tmp 88], argTypes := #[23, 23] }, type := 23, pos := "ref.go:63", after := #[{ on := 15, ground := Ground.data }, { on := 17, ground := Ground.data }, { on := 10, ground := Ground.chain }], guard := none }) rfl (fun K hK => ?_) AllReadyH.nil
                    go_simp
                    refine (runion_any V5.drew _ _ vsf vsg Ff7.out Fg7.out (Nat.le_trans Lf.out (by decide)) (Nat.le_trans Lg.out (by decide))).mono ?_
                    rintro e z8 ⟨v8, rfl, hA, hb⟩
                    have B8 := hid (B7.out.trans (hb.mono B7.out.size))
                    have Fa8 := hid (Fa7.out.bel hb)
                    have Fb8 := hid (Fb7.out.bel hb)
                    have Fo8 := hid (Fo7.out.bel hb)
                    have Fba8 := hid (bx_bel Fba7.out hb)
                    have Fbb8 := hid (bx_bel Fbb7.out hb)
                    have Fbr8 := hid (bx_bel Fbr7.out hb)
                    have Fbo8 := hid (bx_bel Fbo7.out hb)
                    have Ff8 := hid (Ff7.out.bel hb)
                    have Fbf8 := hid (bx_bel Fbf7.out hb)
                    have Fg8 := hid (Fg7.out.bel hb)
                    have Fbg8 := hid (bx_bel Fbg7.out hb)
                    clear B7 Fa7 Fb7 Fo7 Fba7 Fbb7 Fbr7 Fbo7 Ff7 Fbf7 Fg7 Fbg7
                    obtain ⟨vu, hvu⟩ : ∃ l, M.norm (vsf ++ vsg) = l := ⟨_, rfl⟩
                    have hul : vu.length ≤ 20000 := by rw [← hvu]; have h := M.norm_length (vsf ++ vsg); rw [List.length_append] at h; have := Lf.out; have := Lg.out; omega
                    have HUL := hid hul
                    rw [hvu] at hA
                    have HJ3 : Hid (M.jf s.fs t.fs xn = ⟨xn, sug, vu⟩) := by unfold Hid; rw [HJ2.out, hvu]
                    obtain ⟨qu, mu, rfl⟩ := hA.form
                    have Fu8 : Hid (AtAt z8 (.slice qu vu.length mu) vu) := hid hA
                    clear hA hvu hul hb
                    refine hK.out _ _ (KH.out _ Fbf8.out Fbg8.out) (fun hHeld => ?_)
                    clear hK
                    refine wpAnyH_take (i := 19) (oi := { dst := some 90, op := Op.build 29 #[(0, Operand.tmp 72), (1, Operand.tmp 84), (2, Operand.tmp 89)], type := 29, pos := "ref.go:63", after := #[{ on := 1, ground := Ground.data }, { on := 13, ground := Ground.data }, { on := 18, ground := Ground.data }], guard := none }) (v := ?_) rfl (by kernel_rfl) (by kernel_rfl) (by kernel_rfl) (fun _ _ _ h => h) (Or.inl ⟨by rfl, ?_⟩) hHeld ?_
                    rotate_left
                    · intro w hSw; (try dsimp only at hSw); go_simp; (try with_reducible rfl)
                    simp only [Act.put, List.setIfInBounds_toArray, List.set_cons_zero, List.set_cons_succ]
                    refine wpAnyH_ready (rs := [20]) (by kernel_rfl) (by simp) ?_
                    refine AllReadyH.cons (o := { dst := some 91, op := Op.call { callee := Callee.value (Operand.func 37), args := #[Operand.tmp 71, Operand.tmp 90], argTypes := #[25, 29] }, type := 25, pos := "ref.go:63", after := #[{ on := 0, ground := Ground.data }, { on := 19, ground := Ground.data }, { on := 18, ground := Ground.chain }], guard := none }) rfl (fun K hK => ?_) AllReadyH.nil
                    go_simp
                    refine (rwith_any z8 _ ⟨acc, pn⟩ xn sug vu qu mu Fo8.out Fu8.out (M.sm_mono HSM.out (by omega)) HRI.out).mono ?_
                    rintro e z9 ⟨v9, rfl, hsh, hb⟩
                    have B9 := hid (B8.out.trans (hb.mono B8.out.size))
                    have Fa9 := hid (Fa8.out.bel hb)
                    have Fb9 := hid (Fb8.out.bel hb)
                    have Fo9 := hid (Fo8.out.bel hb)
                    have Fba9 := hid (bx_bel Fba8.out hb)
                    have Fbb9 := hid (bx_bel Fbb8.out hb)
                    have Fbr9 := hid (bx_bel Fbr8.out hb)
                    have Fbo9 := hid (bx_bel Fbo8.out hb)
                    have Ff9 := hid (Ff8.out.bel hb)
                    have Fbf9 := hid (bx_bel Fbf8.out hb)
                    have Fg9 := hid (Fg8.out.bel hb)
                    have Fbg9 := hid (bx_bel Fbg8.out hb)
                    have Fu9 := hid (Fu8.out.bel hb)
                    clear B8 Fa8 Fb8 Fo8 Fba8 Fbb8 Fbr8 Fbo8 Ff8 Fbf8 Fg8 Fbg8 Fu8
                    obtain ⟨acc2, hacc2⟩ : ∃ l, M.withF ⟨xn, sug, vu⟩ acc = l := ⟨_, rfl⟩
                    rw [hacc2] at hsh
                    have HA2 := hid hacc2
                    obtain ⟨qn, mn, qn2, mn2, rfl⟩ := hsh.form
                    have Fn9 : Hid (ShAt z9 (.agg #[.slice qn acc2.length mn, .slice qn2 pn.length mn2]) ⟨acc2, pn⟩) := hid hsh
                    clear hsh hacc2 hb
                    refine hK.out _ _ (KH.out _ Fbf9.out Fbg9.out) (fun hHeld => ?_)
                    clear hK
                    refine wpAnyH_ready (rs := [21]) (by kernel_rfl) (by simp) ?_
                    refine AllReadyH.cons (o := { dst := none, op := Op.store 25 (Operand.tmp 5) (Operand.tmp 91), type := 0, pos := "ref.go:63", after := #[{ on := 20, ground := Ground.data }, { on := 20, ground := Ground.chain }, { on := 0, ground := Ground.phase }, { on := 1, ground := Ground.phase }, { on := 2, ground := Ground.phase }, { on := 3, ground := Ground.phase }, { on := 4, ground := Ground.phase }, { on := 5, ground := Ground.phase }, { on := 6, ground := Ground.phase }, { on := 7, ground := Ground.phase }, { on := 8, ground := Ground.phase }, { on := 9, ground := Ground.phase }, { on := 10, ground := Ground.phase }, { on := 11, ground := Ground.phase }, { on := 12, ground := Ground.phase }, { on := 13, ground := Ground.phase }, { on := 14, ground := Ground.phase }, { on := 15, ground := Ground.phase }, { on := 16, ground := Ground.phase }, { on := 17, ground := Ground.phase }, { on := 18, ground := Ground.phase }, { on := 19, ground := Ground.phase }, { on := 20, ground := Ground.phase }], guard := none }) rfl (fun K hK => ?_) AllReadyH.nil
                    obtain ⟨o0, o1, _⟩ := cells2 Fbo9.out
                    go_simp
                    clear o0 o1
                    obtain ⟨z10, hzz10⟩ : ∃ W, ((z9.setCell ⟨g5, 0, none⟩ (.slice qn acc2.length mn)).setCell ⟨g5, 1, none⟩ (.slice qn2 pn.length mn2)) = W := ⟨_, rfl⟩
                    have B10 : Hid (Below w.heap.size w z10) := by unfold Hid; rw [← hzz10]; exact set2b B9.out (by have := HG5.out; omega) _ _
                    have Fba10 := hid ((congrArg (fun W : World => W.heap[w.heap.size]?) hzz10).symm.trans ((box_off (by have := HG5.out; omega) _ _).trans Fba9.out))
                    have Fbb10 := hid ((congrArg (fun W : World => W.heap[w.heap.size + 1]?) hzz10).symm.trans ((box_off (by have := HG5.out; omega) _ _).trans Fbb9.out))
                    have Fbr10 := hid ((congrArg (fun W : World => W.heap[w.heap.size + 2]?) hzz10).symm.trans ((box_off (by have := HG5.out; omega) _ _).trans Fbr9.out))
                    have Fbf10 := hid ((congrArg (fun W : World => W.heap[w1.heap.size]?) hzz10).symm.trans ((box_off (Nat.ne_of_gt HGf.out) _ _).trans Fbf9.out))
                    have Fbg10 := hid ((congrArg (fun W : World => W.heap[w4.heap.size]?) hzz10).symm.trans ((box_off (Nat.ne_of_gt HGg.out) _ _).trans Fbg9.out))
                    have Fbo10 := hid ((congrArg (fun W : World => W.heap[g5]?) hzz10).symm.trans (box_set2 Fbo9.out _ _))
                    have Fn10 : Hid (ShAt z10 (.agg #[.slice qn acc2.length mn, .slice qn2 pn.length mn2]) ⟨acc2, pn⟩) := by unfold Hid; rw [← hzz10]; exact Fn9.out.off2 Fbo9.out _ _
                    try rw [hzz10]
                    clear hzz10
                    refine hK.out _ _ (KH.out _ Fbf10.out Fbg10.out) (fun hHeld => ?_)
                    clear hK
                    refine wpAnyH_done (by kernel_rfl) ?_ _
                    clear hHeld KH
                    go_wp2
                    refine ⟨⟨R.length + k + 1, acc2, qn, mn, qn2, mn2, by omega, by go_num, B10, Fba10, Fbb10, Fbr10, Fbo10, Fn10, ?_, ?_⟩, by simp [intOf]; omega⟩
                    · unfold Hid
                      rw [← HA2.out, HTK.out, List.foldl_append, ← HACC.out]
                      show _ = M.withF (M.jf s.fs t.fs xn) acc
                      rw [HJ3.out]
                    · unfold Hid
                      rw [← HA2.out]
                      exact M.sm_with HSM.out (by omega) (by have := HUL.out; show vu.length ≤ _; omega)
                  · go_simp
                    refine (runion_any V5.drew _ _ vsf vsg Ff7.out Fg7.out (Nat.le_trans Lf.out (by decide)) (Nat.le_trans Lg.out (by decide))).mono ?_
                    rintro e z8 ⟨v8, rfl, hA, hb⟩
                    have B8 := hid (B7.out.trans (hb.mono B7.out.size))
                    have Fa8 := hid (Fa7.out.bel hb)
                    have Fb8 := hid (Fb7.out.bel hb)
                    have Fo8 := hid (Fo7.out.bel hb)
                    have Fba8 := hid (bx_bel Fba7.out hb)
                    have Fbb8 := hid (bx_bel Fbb7.out hb)
                    have Fbr8 := hid (bx_bel Fbr7.out hb)
                    have Fbo8 := hid (bx_bel Fbo7.out hb)
                    have Ff8 := hid (Ff7.out.bel hb)
                    have Fbf8 := hid (bx_bel Fbf7.out hb)
                    have Fg8 := hid (Fg7.out.bel hb)
                    have Fbg8 := hid (bx_bel Fbg7.out hb)
                    clear B7 Fa7 Fb7 Fo7 Fba7 Fbb7 Fbr7 Fbo7 Ff7 Fbf7 Fg7 Fbg7
                    obtain ⟨vu, hvu⟩ : ∃ l, M.norm (vsf ++ vsg) = l := ⟨_, rfl⟩
                    have hul : vu.length ≤ 20000 := by rw [← hvu]; have h := M.norm_length (vsf ++ vsg); rw [List.length_append] at h; have := Lf.out; have := Lg.out; omega
                    have HUL := hid hul
                    rw [hvu] at hA
                    have HJ3 : Hid (M.jf s.fs t.fs xn = ⟨xn, sug, vu⟩) := by unfold Hid; rw [HJ2.out, hvu]
                    obtain ⟨qu, mu, rfl⟩ := hA.form
                    have Fu8 : Hid (AtAt z8 (.slice qu vu.length mu) vu) := hid hA
                    clear hA hvu hul hb
                    refine hK.out _ _ (KH.out _ Fbf8.out Fbg8.out) (fun hHeld => ?_)
                    clear hK
                    refine wpAnyH_take (i := 19) (oi := { dst := some 90, op := Op.build 29 #[(0, Operand.tmp 72), (1, Operand.tmp 84), (2, Operand.tmp 89)], type := 29, pos := "ref.go:63", after := #[{ on := 1, ground := Ground.data }, { on := 13, ground := Ground.data }, { on := 18, ground := Ground.data }], guard := none }) (v := ?_) rfl (by kernel_rfl) (by kernel_rfl) (by kernel_rfl) (fun _ _ _ h => h) (Or.inl ⟨by rfl, ?_⟩) hHeld ?_
                    rotate_left
                    · intro w hSw; (try dsimp only at hSw); go_simp; (try with_reducible rfl)
                    simp only [Act.put, List.setIfInBounds_toArray, List.set_cons_zero, List.set_cons_succ]
                    refine wpAnyH_ready (rs := [0]) (by kernel_rfl) (by simp) ?_
                    refine AllReadyH.cons (o := { dst := some 71, op := Op.load 25 (Operand.tmp 5), type := 25, pos := "ref.go:63", after := #[], guard := none }) rfl (fun K hK => ?_) AllReadyH.nil
                    obtain ⟨o0, o1, _⟩ := cells2 Fbo8.out
                    go_simp
                    clear o0 o1
                    refine hK.out _ _ (KH.out _ Fbf8.out Fbg8.out) (fun hHeld => ?_)
                    clear hK
                    refine wpAnyH_ready (rs := [20]) (by kernel_rfl) (by simp) ?_
                    refine AllReadyH.cons (o := { dst := some 91, op := Op.call { callee := Callee.value (Operand.func 37), args := #[Operand.tmp 71, Operand.tmp 90], argTypes := #[25, 29] }, type := 25, pos := "ref.go:63", after := #[{ on := 0, ground := Ground.data }, { on := 19, ground := Ground.data }, { on := 18, ground := Ground.chain }], guard := none }) rfl (fun K hK => ?_) AllReadyH.nil
                    go_simp
                    refine (rwith_any z8 _ ⟨acc, pn⟩ xn sug vu qu mu Fo8.out Fu8.out (M.sm_mono HSM.out (by omega)) HRI.out).mono ?_
                    rintro e z9 ⟨v9, rfl, hsh, hb⟩
                    have B9 := hid (B8.out.trans (hb.mono B8.out.size))
                    have Fa9 := hid (Fa8.out.bel hb)
                    have Fb9 := hid (Fb8.out.bel hb)
                    have Fo9 := hid (Fo8.out.bel hb)
                    have Fba9 := hid (bx_bel Fba8.out hb)
                    have Fbb9 := hid (bx_bel Fbb8.out hb)
                    have Fbr9 := hid (bx_bel Fbr8.out hb)
                    have Fbo9 := hid (bx_bel Fbo8.out hb)
                    have Ff9 := hid (Ff8.out.bel hb)
                    have Fbf9 := hid (bx_bel Fbf8.out hb)
                    have Fg9 := hid (Fg8.out.bel hb)
                    have Fbg9 := hid (bx_bel Fbg8.out hb)
                    have Fu9 := hid (Fu8.out.bel hb)
                    clear B8 Fa8 Fb8 Fo8 Fba8 Fbb8 Fbr8 Fbo8 Ff8 Fbf8 Fg8 Fbg8 Fu8
                    obtain ⟨acc2, hacc2⟩ : ∃ l, M.withF ⟨xn, sug, vu⟩ acc = l := ⟨_, rfl⟩
                    rw [hacc2] at hsh
                    have HA2 := hid hacc2
                    obtain ⟨qn, mn, qn2, mn2, rfl⟩ := hsh.form
                    have Fn9 : Hid (ShAt z9 (.agg #[.slice qn acc2.length mn, .slice qn2 pn.length mn2]) ⟨acc2, pn⟩) := hid hsh
                    clear hsh hacc2 hb
                    refine hK.out _ _ (KH.out _ Fbf9.out Fbg9.out) (fun hHeld => ?_)
                    clear hK
                    refine wpAnyH_ready (rs := [21]) (by kernel_rfl) (by simp) ?_
                    refine AllReadyH.cons (o := { dst := none, op := Op.store 25 (Operand.tmp 5) (Operand.tmp 91), type := 0, pos := "ref.go:63", after := #[{ on := 20, ground := Ground.data }, { on := 20, ground := Ground.chain }, { on := 0, ground := Ground.phase }, { on := 1, ground := Ground.phase }, { on := 2, ground := Ground.phase }, { on := 3, ground := Ground.phase }, { on := 4, ground := Ground.phase }, { on := 5, ground := Ground.phase }, { on := 6, ground := Ground.phase }, { on := 7, ground := Ground.phase }, { on := 8, ground := Ground.phase }, { on := 9, ground := Ground.phase }, { on := 10, ground := Ground.phase }, { on := 11, ground := Ground.phase }, { on := 12, ground := Ground.phase }, { on := 13, ground := Ground.phase }, { on := 14, ground := Ground.phase }, { on := 15, ground := Ground.phase }, { on := 16, ground := Ground.phase }, { on := 17, ground := Ground.phase }, { on := 18, ground := Ground.phase }, { on := 19, ground := Ground.phase }, { on := 20, ground := Ground.phase }], guard := none }) rfl (fun K hK => ?_) AllReadyH.nil
                    obtain ⟨o0, o1, _⟩ := cells2 Fbo9.out
                    go_simp
                    clear o0 o1
                    obtain ⟨z10, hzz10⟩ : ∃ W, ((z9.setCell ⟨g5, 0, none⟩ (.slice qn acc2.length mn)).setCell ⟨g5, 1, none⟩ (.slice qn2 pn.length mn2)) = W := ⟨_, rfl⟩
                    have B10 : Hid (Below w.heap.size w z10) := by unfold Hid; rw [← hzz10]; exact set2b B9.out (by have := HG5.out; omega) _ _
                    have Fba10 := hid ((congrArg (fun W : World => W.heap[w.heap.size]?) hzz10).symm.trans ((box_off (by have := HG5.out; omega) _ _).trans Fba9.out))
                    have Fbb10 := hid ((congrArg (fun W : World => W.heap[w.heap.size + 1]?) hzz10).symm.trans ((box_off (by have := HG5.out; omega) _ _).trans Fbb9.out))
                    have Fbr10 := hid ((congrArg (fun W : World => W.heap[w.heap.size + 2]?) hzz10).symm.trans ((box_off (by have := HG5.out; omega) _ _).trans Fbr9.out))
                    have Fbf10 := hid ((congrArg (fun W : World => W.heap[w1.heap.size]?) hzz10).symm.trans ((box_off (Nat.ne_of_gt HGf.out) _ _).trans Fbf9.out))
                    have Fbg10 := hid ((congrArg (fun W : World => W.heap[w4.heap.size]?) hzz10).symm.trans ((box_off (Nat.ne_of_gt HGg.out) _ _).trans Fbg9.out))
                    have Fbo10 := hid ((congrArg (fun W : World => W.heap[g5]?) hzz10).symm.trans (box_set2 Fbo9.out _ _))
                    have Fn10 : Hid (ShAt z10 (.agg #[.slice qn acc2.length mn, .slice qn2 pn.length mn2]) ⟨acc2, pn⟩) := by unfold Hid; rw [← hzz10]; exact Fn9.out.off2 Fbo9.out _ _
                    try rw [hzz10]
                    clear hzz10
                    refine hK.out _ _ (KH.out _ Fbf10.out Fbg10.out) (fun hHeld => ?_)
                    clear hK
                    refine wpAnyH_done (by kernel_rfl) ?_ _
                    clear hHeld KH
                    go_wp2
                    refine ⟨⟨R.length + k + 1, acc2, qn, mn, qn2, mn2, by omega, by go_num, B10, Fba10, Fbb10, Fbr10, Fbo10, Fn10, ?_, ?_⟩, by simp [intOf]; omega⟩
                    · unfold Hid
                      rw [← HA2.out, HTK.out, List.foldl_append, ← HACC.out]
                      show _ = M.withF (M.jf s.fs t.fs xn) acc
                      rw [HJ3.out]
                    · unfold Hid
                      rw [← HA2.out]
                      exact M.sm_with HSM.out (by omega) (by have := HUL.out; show vu.length ≤ _; omega)
        · have hlt : decide ((j : Int) < (R.length : Int) + (Q.length : Int)) = false := decide_eq_false (by omega)
          obtain ⟨o0, o1, _⟩ := cells2 I4.out
          obtain ⟨r0, r1, rf⟩ := cells2 I3.out
          go_wp2
          refine bodyPost_ret (v := .agg #[.slice qo acc.length mo, .slice qp pn.length mp]) (by simp [results, Try.results18, go_sem, r0, r1]) rfl ?_
          have hE : M.joinS s t = ⟨acc, pn⟩ := by
            have h := HACC.out
            rw [List.take_of_length_le (by rw [List.length_append, HF.out.1, HF.out.2, fldOf_len, fldOf_len]; omega)] at h
            unfold M.joinS M.joinF
            rw [← h, HPN.out]
          rw [← HRES.out, MS.out, MT.out]
          exact ⟨_, rfl, by show ShAt _ _ (M.joinS s t); rw [hE]; exact HSH.out.off2 I3.out _ _, set2b HB.out (by omega) _ _⟩
end Go.Proofs.Ytnllcfagdcepfaa
