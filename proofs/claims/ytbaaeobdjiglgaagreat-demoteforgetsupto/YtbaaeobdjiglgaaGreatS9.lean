/-
  The walk of the document's Same over shapes. Conditions: shapes of at most 100000 fields of as many atoms.
-/
import Derived.Test.YtbaaeobdjiglgaaGreatS7
set_option linter.unusedVariables false
set_option linter.unusedSimpArgs false
namespace Go.Proofs.YtbaaeobdjiglgaaGreat
open Go.RowKit Go.Sort

theorem pair_new {wr : World} {A B : Obj} : Below wr.heap.size wr ((wr.alloc A).alloc B).drew ∧ ((wr.alloc A).alloc B).drew.heap[wr.heap.size]? = some A ∧ ((wr.alloc A).alloc B).drew.heap[wr.heap.size + 1]? = some B := by
  have h1 := (gr_new wr A).below
  have h2 := (gr_new (wr.alloc A) B).below
  have h3 : ((wr.alloc A).alloc B).heap[wr.heap.size]? = some A := kept (B := (wr.alloc A).heap.size) (new_at wr A) (by simp) h2
  refine ⟨(((gr_new wr A).alloc B).drew).below, h3, ?_⟩
  have := new_at (wr.alloc A) B
  rw [World.size_alloc] at this
  exact this
theorem fld_ext {f g : M.Fld} (h1 : f.nm = g.nm) (h2 : f.su = g.su) (h3 : f.vs = g.vs) : f = g := by
  cases f; cases g; simp at h1 h2 h3; subst h1 h2 h3; rfl
theorem same_step {R Q : List Cel} {j : Nat} {x y : Cel} (h1 : j < R.length) (h2 : j < Q.length) (h : (fldOf R).take j = (fldOf Q).take j) (hx : R[j] = x) (hy : Q[j] = y) (e : x.f = y.f) : (fldOf R).take (j + 1) = (fldOf Q).take (j + 1) := by
  refine take_eq (by rw [fldOf_len]; exact h1) (by rw [fldOf_len]; exact h2) h ?_
  simp only [fldOf, List.getElem_map]
  rw [hx, hy, e]
theorem same_not {R Q : List Cel} {j : Nat} {x y : Cel} {s t : M.Shp} (h1 : j < R.length) (h2 : j < Q.length) (hx : R[j] = x) (hy : Q[j] = y) (hs : s.fs = fldOf R ∧ t.fs = fldOf Q) (ne : x.f ≠ y.f) : false = M.sameS s t := by
  symm
  refine decide_eq_false fun e => ne ?_
  subst e
  have e2 : fldOf R = fldOf Q := by rw [← hs.1, hs.2]
  have e3 : (fldOf R)[j]'(by rw [fldOf_len]; exact h1) = (fldOf Q)[j]'(by rw [fldOf_len]; exact h2) := by simp only [e2]
  simp only [fldOf, List.getElem_map] at e3
  rw [hx, hy] at e3
  exact e3

set_option maxHeartbeats 4000000 in
set_option maxRecDepth 100000 in
theorem rsameS_any (w : World) (v1 v2 : Value) (s t : M.Shp) (h1 : ShAt w v1 s) (h2 : ShAt w v2 t) (K1 : M.Sm 100000 s) :
    Calls Tryz.prog 21 #[v1, v2] w fun e w' => e = .returned (.bool (M.sameS s t)) ∧ Below w.heap.size w w' := by
  obtain ⟨R, a, c, b, d, hs, rfl, hR, hP⟩ := h1.open
  obtain ⟨Q, a', c', b', d', ht, rfl, hQ, hP'⟩ := h2.open
  have mixed := mixedP
  obtain ⟨hn, hvs, hpn⟩ := sm_fs K1 hs
  have HSS : Hid (s.fs = fldOf R ∧ t.fs = fldOf Q) := ⟨by rw [hs], by rw [ht]⟩
  have T1 := hid hR
  have T2 := hid hQ
  have HV := hid hvs
  have TP1 := hid hP
  have TP2 := hid hP'
  obtain ⟨sp, hsp⟩ : ∃ l, s.pr = l := ⟨_, rfl⟩
  obtain ⟨tp, htp⟩ : ∃ l, t.pr = l := ⟨_, rfl⟩
  rw [hsp] at TP1 hpn ⊢
  rw [htp] at TP2 ⊢
  have HSP := hid hsp
  have HTP := hid htp
  clear h1 h2 hs ht K1 hR hQ hP hP' hvs hsp htp
  obtain ⟨W0, hW0⟩ : ∃ W0, (w.alloc (.cells #[.slice a R.length c, .slice b sp.length d] 31)).alloc (.cells #[.slice a' Q.length c', .slice b' tp.length d'] 31) = W0 := ⟨_, rfl⟩
  have hb1 := (gr_new w (.cells #[.slice a R.length c, .slice b sp.length d] 31)).below
  have hb2 := (gr_new (w.alloc (.cells #[.slice a R.length c, .slice b sp.length d] 31)) (.cells #[.slice a' Q.length c', .slice b' tp.length d'] 31)).below
  have p1 := kept (new_at w (.cells #[.slice a R.length c, .slice b sp.length d] 31)) (by simp) hb2
  have p2 := new_at (w.alloc (.cells #[.slice a R.length c, .slice b sp.length d] 31)) (.cells #[.slice a' Q.length c', .slice b' tp.length d'] 31)
  rw [World.size_alloc] at p2
  have hz : w.heap.size + 1 < W0.heap.size := by rw [← hW0]; simp
  have hB : Below w.heap.size w W0 := by rw [← hW0]; exact hb1.trans (hb2.mono hb1.size)
  rw [hW0] at p1 p2
  have B0 := hid hB
  have P1 := hid p1
  have P2 := hid p2
  obtain ⟨x1, x2, _⟩ := cells2 p1
  obtain ⟨y1, y2, _⟩ := cells2 p2
  clear hb1 hb2 hB p1 p2
  by_cases hl : R.length = Q.length
  · have hd : ((R.length : Int) != (Q.length : Int)) = false := by simp [hl]
    have HL := hid hl
    clear hl
    have K := same_any W0 _ _ sp tp (TP1.out.bel B0.out) (TP2.out.bel B0.out) (by omega)
    cases hsame : M.sameB sp tp with
    | false =>
      rw [hsame] at K
      have HK := hid K
      have HN : Hid (s ≠ t) := fun e => of_decide_eq_false hsame (by rw [← HSP.out, ← HTP.out, e])
      clear K hsame
      go_enter Tryz.func21, Tryz.ntmps21
      go_wp2_with (go_at_call 23; refine stopHere ?_)
      refine stopAt ?_
      refine HK.out.mono ?_
      rintro e w1 ⟨rfl, hb1⟩
      clear hW0 x1 x2 y1 y2
      go_wp2
      go_ret
      exact ⟨ret_bool (decide_eq_false HN.out).symm, B0.out.trans (hb1.mono B0.out.size)⟩
    | true =>
      rw [hsame] at K
      have HK := hid K
      have HSP2 : Hid (s.pr = t.pr) := by unfold Hid; rw [HSP.out, HTP.out]; exact of_decide_eq_true hsame
      clear K hsame
      go_enter Tryz.func21, Tryz.ntmps21
      go_wp2_with (go_at_call 23; refine stopHere ?_)
      refine stopAt ?_
      refine HK.out.mono ?_
      rintro e w1 ⟨rfl, hb1⟩
      have B1 := hid hb1
      clear hW0 x1 x2 y1 y2 hb1
      go_wp2
      go_loopw [5] (fun i w' => ∃ j : Nat, j ≤ R.length ∧ i = .int .i64 j ∧ Hid ((fldOf R).take j = (fldOf Q).take j) ∧ Hid (Below W0.heap.size W0 w')) (fun i _ => R.length - (intOf i).toNat)
      case atStart => exact ⟨0, Nat.zero_le _, rfl, rfl, B1⟩
      case round =>
       obtain ⟨j, hj, rfl, hm, hbel⟩ := hrel
       have hBW : Hid (Below w.heap.size w wr) := B0.out.trans (hbel.out.mono (by omega))
       obtain ⟨x1, x2⟩ := two_bel ⟨(cells2 P1.out).1, (cells2 P1.out).2.1⟩ (by omega) hbel.out
       obtain ⟨y1, y2⟩ := two_bel ⟨(cells2 P2.out).1, (cells2 P2.out).2.1⟩ hz hbel.out
       have hwr : w.heap.size + 1 < wr.heap.size := Nat.lt_of_lt_of_le hz hbel.out.size
       by_cases hjl : j < R.length
       · have hjl2 : j < Q.length := by have := HL.out; omega
         obtain ⟨b1, o1, rfl, hlt1, hc1⟩ := Rs_some T1.out hjl
         obtain ⟨b2, o2, rfl, hlt2, hc2⟩ := Rs_some T2.out hjl2
         obtain ⟨c1, c2, c3⟩ := (hc1 j hjl).bel hlt1 hBW.out
         obtain ⟨d1, d2, d3⟩ := (hc2 j hjl2).bel hlt2 hBW.out
         have HX := hid (T1.out.1 _ (List.getElem_mem hjl))
         have HY := hid (T2.out.1 _ (List.getElem_mem hjl2))
         have hxl := HV.out _ (List.getElem_mem hjl)
         obtain ⟨x, hx⟩ : ∃ x, R[j] = x := ⟨_, rfl⟩
         obtain ⟨y, hy⟩ : ∃ y, Q[j] = y := ⟨_, rfl⟩
         rw [hx] at c1 c2 c3 HX hxl
         rw [hy] at d1 d2 d3 HY
         have HXE := hid hx
         have HYE := hid hy
         have hlw1 : b1 < wr.heap.size := by omega
         have hlw2 : b2 < wr.heap.size := by omega
         clear hx hy hc1 hc2
         go_wp2_with fail
         go_region_held3 (fun w' => w'.cell? ⟨w.heap.size, 0, none⟩ = some (.slice (some ⟨b1, o1, none⟩) R.length c) ∧ w'.cell? ⟨w.heap.size + 1, 0, none⟩ = some (.slice (some ⟨b2, o2, none⟩) Q.length c') ∧ w'.cell? ⟨b1, o1 + j * 3, none⟩ = some (.string x.f.nm) ∧ w'.cell? ⟨b1, o1 + j * 3 + 1, none⟩ = some (.bool x.f.su) ∧ w'.cell? ⟨b1, o1 + j * 3 + 2, none⟩ = some (.slice x.a x.f.vs.length x.c) ∧ w'.cell? ⟨b2, o2 + j * 3, none⟩ = some (.string y.f.nm) ∧ w'.cell? ⟨b2, o2 + j * 3 + 1, none⟩ = some (.bool y.f.su) ∧ w'.cell? ⟨b2, o2 + j * 3 + 2, none⟩ = some (.slice y.a y.f.vs.length y.c)) (go_keep) (fail)
         · obtain ⟨hn0, hn1, hn2⟩ := pair_new (wr := wr) (A := (.cells #[.string x.f.nm, .bool x.f.su, .slice x.a x.f.vs.length x.c] 49)) (B := (.cells #[.string y.f.nm, .bool y.f.su, .slice y.a y.f.vs.length y.c] 49))
           generalize hw4 : ((wr.alloc (.cells #[.string x.f.nm, .bool x.f.su, .slice x.a x.f.vs.length x.c] 49)).alloc (.cells #[.string y.f.nm, .bool y.f.su, .slice y.a y.f.vs.length y.c] 49)).drew = w4 at hn0 hn1 hn2 ⊢
           clear hw4
           have hP := hn1
           have hQ := hn2
           clear hn1 hn2
           have hb4 : Hid (Below w.heap.size w w4) := hBW.out.trans (hn0.mono hBW.out.size)
           have hB4 : Hid (Below W0.heap.size W0 w4) := hbel.out.trans (hn0.mono hbel.out.size)
           obtain ⟨k0, k1, k2, kf⟩ := cells3 hP
           obtain ⟨l0, l1, l2, lf⟩ := cells3 hQ
           have HX4 := hid (HX.out.bel (hBW.out.trans (hn0.mono hBW.out.size)))
           have HY4 := hid (HY.out.bel (hBW.out.trans (hn0.mono hBW.out.size)))
           clear hn0 hP hQ c1 c2 c3 d1 d2 d3 x1 x2 y1 y2
           by_cases h1 : x.f.nm = y.f.nm
           · have h1b : (!(x.f.nm.toList == y.f.nm.toList)) = false := by rw [same_name]; simp [h1]
             have h1c : (x.f.nm.toList == y.f.nm.toList) = true := by rw [same_name]; simp [h1]
             have H1 := hid h1
             clear h1
             by_cases h2 : x.f.su = y.f.su
             · have H2 := hid h2
               have h2b : (x.f.su != y.f.su) = false := by simp [h2]
               clear h2
               have K := same_any w4 _ _ x.f.vs y.f.vs HX4.out HY4.out (by omega)
               unfold Cel.v at K
               cases h3 : M.sameB x.f.vs y.f.vs with
               | true =>
                 rw [h3] at K
                 have HK := hid K
                 have H3 : Hid (x.f.vs = y.f.vs) := hid (of_decide_eq_true h3)
                 clear h3 K
                 go_wp2_with (go_at_call 23; refine stopHere ?_)
                 refine stopAt ?_
                 refine HK.out.mono ?_
                 rintro e w5 ⟨rfl, hb5⟩
                 clear k0 k1 k2 kf l0 l1 l2 lf
                 go_wp2
                 refine ⟨⟨j + 1, by omega, by go_num, ?_, hB4.out.trans (hb5.mono hB4.out.size)⟩, by simp [intOf]; omega⟩
                 exact same_step hjl hjl2 hm.out HXE.out HYE.out (fld_ext H1.out H2.out H3.out)
               | false =>
                 rw [h3] at K
                 have HK := hid K
                 have H3 : Hid (x.f.vs ≠ y.f.vs) := hid (of_decide_eq_false h3)
                 clear h3 K
                 go_wp2_with (go_at_call 23; refine stopHere ?_)
                 refine stopAt ?_
                 refine HK.out.mono ?_
                 rintro e w5 ⟨rfl, hb5⟩
                 clear k0 k1 k2 kf l0 l1 l2 lf
                 go_wp2
                 go_ret
                 exact ⟨ret_bool (same_not hjl hjl2 HXE.out HYE.out HSS.out fun e => H3.out (by rw [e])), hb4.out.trans (hb5.mono hb4.out.size)⟩
             · have H2 := hid h2
               have h2b : (x.f.su != y.f.su) = true := by simp [h2]
               clear h2
               go_wp2
               go_ret
               exact ⟨ret_bool (same_not hjl hjl2 HXE.out HYE.out HSS.out fun e => H2.out (by rw [e])), hb4.out⟩
           · have h1b : (!(x.f.nm.toList == y.f.nm.toList)) = true := by rw [same_name]; simp [h1]
             have h1c : (x.f.nm.toList == y.f.nm.toList) = false := by rw [same_name]; simp [h1]
             have H1 := hid h1
             clear h1
             go_wp2
             go_ret
             exact ⟨ret_bool (same_not hjl hjl2 HXE.out HYE.out HSS.out fun e => H1.out (by rw [e])), hb4.out⟩
         · obtain ⟨hn0, hn1, hn2⟩ := pair_new (wr := wr) (A := (.cells #[.string y.f.nm, .bool y.f.su, .slice y.a y.f.vs.length y.c] 49)) (B := (.cells #[.string x.f.nm, .bool x.f.su, .slice x.a x.f.vs.length x.c] 49))
           generalize hw4 : ((wr.alloc (.cells #[.string y.f.nm, .bool y.f.su, .slice y.a y.f.vs.length y.c] 49)).alloc (.cells #[.string x.f.nm, .bool x.f.su, .slice x.a x.f.vs.length x.c] 49)).drew = w4 at hn0 hn1 hn2 ⊢
           clear hw4
           have hP := hn2
           have hQ := hn1
           clear hn1 hn2
           have hb4 : Hid (Below w.heap.size w w4) := hBW.out.trans (hn0.mono hBW.out.size)
           have hB4 : Hid (Below W0.heap.size W0 w4) := hbel.out.trans (hn0.mono hbel.out.size)
           obtain ⟨k0, k1, k2, kf⟩ := cells3 hP
           obtain ⟨l0, l1, l2, lf⟩ := cells3 hQ
           have HX4 := hid (HX.out.bel (hBW.out.trans (hn0.mono hBW.out.size)))
           have HY4 := hid (HY.out.bel (hBW.out.trans (hn0.mono hBW.out.size)))
           clear hn0 hP hQ c1 c2 c3 d1 d2 d3 x1 x2 y1 y2
           by_cases h1 : x.f.nm = y.f.nm
           · have h1b : (!(x.f.nm.toList == y.f.nm.toList)) = false := by rw [same_name]; simp [h1]
             have h1c : (x.f.nm.toList == y.f.nm.toList) = true := by rw [same_name]; simp [h1]
             have H1 := hid h1
             clear h1
             by_cases h2 : x.f.su = y.f.su
             · have H2 := hid h2
               have h2b : (x.f.su != y.f.su) = false := by simp [h2]
               clear h2
               have K := same_any w4 _ _ x.f.vs y.f.vs HX4.out HY4.out (by omega)
               unfold Cel.v at K
               cases h3 : M.sameB x.f.vs y.f.vs with
               | true =>
                 rw [h3] at K
                 have HK := hid K
                 have H3 : Hid (x.f.vs = y.f.vs) := hid (of_decide_eq_true h3)
                 clear h3 K
                 go_wp2_with (go_at_call 23; refine stopHere ?_)
                 refine stopAt ?_
                 refine HK.out.mono ?_
                 rintro e w5 ⟨rfl, hb5⟩
                 clear k0 k1 k2 kf l0 l1 l2 lf
                 go_wp2
                 refine ⟨⟨j + 1, by omega, by go_num, ?_, hB4.out.trans (hb5.mono hB4.out.size)⟩, by simp [intOf]; omega⟩
                 exact same_step hjl hjl2 hm.out HXE.out HYE.out (fld_ext H1.out H2.out H3.out)
               | false =>
                 rw [h3] at K
                 have HK := hid K
                 have H3 : Hid (x.f.vs ≠ y.f.vs) := hid (of_decide_eq_false h3)
                 clear h3 K
                 go_wp2_with (go_at_call 23; refine stopHere ?_)
                 refine stopAt ?_
                 refine HK.out.mono ?_
                 rintro e w5 ⟨rfl, hb5⟩
                 clear k0 k1 k2 kf l0 l1 l2 lf
                 go_wp2
                 go_ret
                 exact ⟨ret_bool (same_not hjl hjl2 HXE.out HYE.out HSS.out fun e => H3.out (by rw [e])), hb4.out.trans (hb5.mono hb4.out.size)⟩
             · have H2 := hid h2
               have h2b : (x.f.su != y.f.su) = true := by simp [h2]
               clear h2
               go_wp2
               go_ret
               exact ⟨ret_bool (same_not hjl hjl2 HXE.out HYE.out HSS.out fun e => H2.out (by rw [e])), hb4.out⟩
           · have h1b : (!(x.f.nm.toList == y.f.nm.toList)) = true := by rw [same_name]; simp [h1]
             have h1c : (x.f.nm.toList == y.f.nm.toList) = false := by rw [same_name]; simp [h1]
             have H1 := hid h1
             clear h1
             go_wp2
             go_ret
             exact ⟨ret_bool (same_not hjl hjl2 HXE.out HYE.out HSS.out fun e => H1.out (by rw [e])), hb4.out⟩
       · go_wp2
         go_ret
         refine ⟨ret_bool (decide_eq_true ?_).symm, hBW.out⟩
         have := hm.out
         rw [List.take_of_length_le (by rw [fldOf_len]; omega), List.take_of_length_le (by rw [fldOf_len]; have := HL.out; omega)] at this
         exact M.shp_ext (by rw [HSS.out.1, HSS.out.2, this]) HSP2.out
  · have hd : ((R.length : Int) != (Q.length : Int)) = true := by simp; omega
    have HN : Hid (s ≠ t) := fun e => hl (by
      have e2 : fldOf R = fldOf Q := by rw [← HSS.out.1, ← HSS.out.2, e]
      rw [← fldOf_len R, e2, fldOf_len])
    clear hl
    go_enter Tryz.func21, Tryz.ntmps21
    go_wp2
    go_ret
    exact ⟨ret_bool (decide_eq_false HN.out).symm, B0.out⟩
end Go.Proofs.YtbaaeobdjiglgaaGreat
