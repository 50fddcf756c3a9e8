/-
  The walk of object.Within. Conditions: shapes of at most 100000 fields of as many atoms.
-/
import Derived.Test.YtcnikcfnfohoeaaS10
set_option linter.unusedVariables false
set_option linter.unusedSimpArgs false
namespace Go.Proofs.Ytcnikcfnfohoeaa
open Go.RowKit Go.Sort

theorem Rs_small {w : World} {a : Option Addr} {c : Nat} {s : M.Shp} {n : Nat} (h : FsAt w (.slice a n c) s.fs) (hn : n = s.fs.length) : ∃ R, s.fs = fldOf R ∧ R.length = n ∧ RsAt w (.slice a n c) R := by
  obtain ⟨R, e, hR⟩ := h
  exact ⟨R, e.symm, by rw [hn, ← e, fldOf_len], hR⟩

set_option maxHeartbeats 4000000 in
theorem owithin_any (w : World) (va vb : Value) (s t : M.Shp) (h1 : ShAt w va s) (h2 : ShAt w vb t) (K1 : M.Sm 100000 s) (K2 : M.Sm 100000 t) :
    Calls Try.prog 19 #[va, vb] w fun e w' => e = .returned (.bool (M.mayS s && M.mayS t && M.withinS s t)) ∧ Below w.heap.size w w' := by
  have mixed := mixedP
  obtain ⟨res, hres⟩ : ∃ r, (M.mayS s && M.mayS t && M.withinS s t) = r := ⟨_, rfl⟩
  rw [hres]
  have HRES := hid hres
  clear hres
  have T1 := hid h1
  have T2 := hid h2
  obtain ⟨R, a, c, b, d, hs, rfl, hR, hP⟩ := h1.open
  obtain ⟨Q, a', c', b', d', ht, rfl, hQ, hP'⟩ := h2.open
  obtain ⟨n1, v1, p1⟩ := sm_fs K1 hs
  obtain ⟨n2, v2, p2⟩ := sm_fs K2 ht
  have HF : Hid (s.fs = fldOf R ∧ t.fs = fldOf Q) := ⟨by rw [hs], by rw [ht]⟩
  have HK1 := hid K1
  have HK2 := hid K2
  have HR := hid hR
  have HQ := hid hQ
  have HP := hid hP
  have HP' := hid hP'
  have HV1 := hid v1
  have HV2 := hid v2
  clear h1 h2 hs ht hR hQ hP hP' K1 K2 v1 v2
  obtain ⟨sn, hsn⟩ : ∃ n, s.pr.length = n := ⟨_, rfl⟩
  obtain ⟨tn, htn⟩ : ∃ n, t.pr.length = n := ⟨_, rfl⟩
  rw [hsn] at T1 HP p1 ⊢
  rw [htn] at T2 HP' p2 ⊢
  have HSN := hid hsn
  have HTN := hid htn
  clear hsn htn
  obtain ⟨W0, hW0⟩ : ∃ W0, (w.alloc (.cells #[.slice a R.length c, .slice b sn d] 25)).alloc (.cells #[.slice a' Q.length c', .slice b' tn d'] 25) = W0 := ⟨_, rfl⟩
  have hb1 := (gr_new w (.cells #[.slice a R.length c, .slice b sn d] 25)).below
  have hb2 := (gr_new (w.alloc (.cells #[.slice a R.length c, .slice b sn d] 25)) (.cells #[.slice a' Q.length c', .slice b' tn d'] 25)).below
  have p3 := kept (new_at w (.cells #[.slice a R.length c, .slice b sn d] 25)) (by simp) hb2
  have p4 := new_at (w.alloc (.cells #[.slice a R.length c, .slice b sn d] 25)) (.cells #[.slice a' Q.length c', .slice b' tn d'] 25)
  rw [World.size_alloc] at p4
  have hz : w.heap.size + 1 < W0.heap.size := by rw [← hW0]; simp
  have hB : Below w.heap.size w W0 := by rw [← hW0]; exact hb1.trans (hb2.mono hb1.size)
  rw [hW0] at p3 p4
  have B0 := hid hB
  have P1 := hid p3
  have P2 := hid p4
  obtain ⟨x1, x2, _⟩ := cells2 p3
  obtain ⟨y1, y2, _⟩ := cells2 p4
  clear hb1 hb2 hB p3 p4
  have KA := omay_any W0 _ s (T1.out.bel B0.out) HK1.out
  cases ms : M.mayS s with
  | false =>
    rw [ms] at KA
    have HKA := hid KA
    have MS := hid ms
    clear KA ms
    go_enter Try.func19, Try.ntmps19
    go_wp2_with (go_at_call 13; refine stopHere ?_)
    refine stopAt ?_
    refine HKA.out.mono ?_
    rintro e w1 ⟨rfl, hb1⟩
    clear hW0 x1 x2 y1 y2
    go_wp2
    go_ret
    exact ⟨ret_bool (by rw [← HRES.out, MS.out]; rfl), B0.out.trans (hb1.mono B0.out.size)⟩
  | true =>
    rw [ms] at KA
    have HKA := hid KA
    have MS := hid ms
    clear KA ms
    go_enter Try.func19, Try.ntmps19
    go_wp2_with (go_at_call 13; refine stopHere ?_)
    refine stopAt ?_
    refine HKA.out.mono ?_
    rintro e w1 ⟨rfl, hb1⟩
    have B1 : Hid (Below w.heap.size w w1) := B0.out.trans (hb1.mono B0.out.size)
    have hz1 : w.heap.size + 1 < w1.heap.size := Nat.lt_of_lt_of_le hz hb1.size
    have Q1 := hid (kept P1.out (by omega) hb1)
    have Q2 := hid (kept P2.out hz hb1)
    clear hW0 x1 x2 y1 y2 hb1
    obtain ⟨x1, x2, _⟩ := cells2 Q1.out
    obtain ⟨y1, y2, _⟩ := cells2 Q2.out
    have KB := omay_any w1 _ t (T2.out.bel B1.out) HK2.out
    cases mt : M.mayS t with
    | false =>
      rw [mt] at KB
      have HKB := hid KB
      have MT := hid mt
      clear KB mt
      go_wp2_with (go_at_call 13; refine stopHere ?_)
      refine stopAt ?_
      refine HKB.out.mono ?_
      rintro e w2 ⟨rfl, hb2⟩
      clear x1 x2 y1 y2
      go_wp2
      go_ret
      exact ⟨ret_bool (by rw [← HRES.out, MS.out, MT.out]; rfl), B1.out.trans (hb2.mono B1.out.size)⟩
    | true =>
      rw [mt] at KB
      have HKB := hid KB
      have MT := hid mt
      clear KB mt
      go_wp2_with (go_at_call 13; refine stopHere ?_)
      refine stopAt ?_
      refine HKB.out.mono ?_
      rintro e w2 ⟨rfl, hb2⟩
      have B2 : Hid (Below w.heap.size w w2) := B1.out.trans (hb2.mono B1.out.size)
      have hz2 : w.heap.size + 1 < w2.heap.size := Nat.lt_of_lt_of_le hz1 hb2.size
      have U1 := hid (kept Q1.out (by omega) hb2)
      have U2 := hid (kept Q2.out hz1 hb2)
      clear x1 x2 y1 y2 hb2
      obtain ⟨x1, x2, _⟩ := cells2 U1.out
      obtain ⟨y1, y2, _⟩ := cells2 U2.out
      have KC := within_any w2 _ _ s.pr t.pr (HP.out.bel B2.out) (HP'.out.bel B2.out) (by rw [HSN.out]; exact p1) (by rw [HTN.out]; exact p2)
      have HWS : Hid (M.withinS s t = (M.within s.pr t.pr && M.withinF (fldOf R) (fldOf Q))) := by unfold Hid M.withinS; rw [HF.out.1, HF.out.2]
      cases mw : M.within s.pr t.pr with
      | false =>
        rw [mw] at KC
        have HKC := hid KC
        have MW := hid mw
        clear KC mw
        go_wp2_with (go_at_call 38; refine stopHere ?_)
        refine stopAt ?_
        refine HKC.out.mono ?_
        rintro e w3 ⟨rfl, hb3⟩
        clear x1 x2 y1 y2
        go_wp2
        go_ret
        exact ⟨ret_bool (by rw [← HRES.out, MS.out, MT.out, HWS.out, MW.out]; rfl), B2.out.trans (hb3.mono B2.out.size)⟩
      | true =>
        rw [mw] at KC
        have HKC := hid KC
        have MW := hid mw
        clear KC mw
        go_wp2_with (go_at_call 38; refine stopHere ?_)
        refine stopAt ?_
        refine HKC.out.mono ?_
        rintro e w3 ⟨rfl, hb3⟩
        have B3 : Hid (Below w.heap.size w w3) := B2.out.trans (hb3.mono B2.out.size)
        have V1 := hid (kept U1.out (by omega) hb3)
        have V2 := hid (kept U2.out hz2 hb3)
        clear x1 x2 y1 y2 hb3
        obtain ⟨x1, x2, _⟩ := cells2 V1.out
        obtain ⟨y1, y2, _⟩ := cells2 V2.out
        have KD := hid (owithinF_any w3 _ _ R Q (HR.out.bel B3.out) (HQ.out.bel B3.out) n1 n2 (by rw [← HF.out.1]; exact M.ris_may MS.out) (by rw [← HF.out.2]; exact M.ris_may MT.out) HV1.out HV2.out)
        go_wp2_with (go_at_call 39; refine stopHere ?_)
        refine stopAt ?_
        refine KD.out.mono ?_
        rintro e w4 ⟨rfl, hb4⟩
        clear x1 x2 y1 y2
        go_wp2
        go_ret
        exact ⟨ret_bool (by rw [← HRES.out, MS.out, MT.out, HWS.out, MW.out]; rfl), B3.out.trans (hb4.mono B3.out.size)⟩
end Go.Proofs.Ytcnikcfnfohoeaa
