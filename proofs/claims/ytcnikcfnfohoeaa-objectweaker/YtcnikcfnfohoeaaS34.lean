/-
  The walk of mustBe. No conditions.
-/
import Derived.Test.YtcnikcfnfohoeaaS6
import Derived.Test.YtcnikcfnfohoeaaBx
set_option linter.unusedVariables false
set_option linter.unusedSimpArgs false
namespace Go.Proofs.Ytcnikcfnfohoeaa
open Go.RowKit Go.Sort
theorem suO_get {s : M.Shp} {n nm : ByteArray} {su r t : Bool} {vs : List M.Atm} (hr : M.suO (M.getF s.fs n) = r) (ht : (M.getF s.fs n).isSome = t) (h : (⟨nm, su, vs⟩ : M.Fld) = (M.getF s.fs n).getD zeroF) : r = (t && su) := by
  cases hg : M.getF s.fs n with
  | none => rw [hg] at hr ht; simp [M.suO] at hr ht; rw [hr, ht]; rfl
  | some f => rw [hg] at hr ht h; simp at ht h; rw [← hr, ht, ← h]; simp [M.suO]
set_option maxHeartbeats 2000000 in
set_option maxRecDepth 100000 in
theorem must_any (w : World) (va : Value) (s : M.Shp) (n : ByteArray) (h1 : ShAt w va s) (K1 : M.Sm 100000 s) : Calls Try.prog 28 #[va, .string n] w fun e w' => e = .returned (.bool (M.suO (M.getF s.fs n))) ∧ Below w.heap.size w w' := by
  have mixed := mixedP
  have B0 := hid (Below.refl w.heap.size w)
  obtain ⟨aa, ca, ba, da, rfl⟩ := h1.form
  have Fa := hid h1
  clear h1
  have Ka := hid K1
  clear K1
  obtain ⟨V1, hV1⟩ : ∃ W, w.alloc (.cells #[.slice aa s.fs.length ca, .slice ba s.pr.length da] 25) = W := ⟨_, rfl⟩
  have hbx : Below w.heap.size w V1 := by rw [← hV1]; exact (gr_new _ _).below
  have Nba : Hid (V1.heap[w.heap.size]? = some (.cells #[.slice aa s.fs.length ca, .slice ba s.pr.length da] 25 (0, 0))) := by unfold Hid; rw [← hV1]; exact new_at _ _
  have B2 := hid (B0.out.trans (hbx.mono B0.out.size))
  have Fa2 := hid (Fa.out.bel hbx)
  clear B0 Fa
  clear hbx
  obtain ⟨t, ht⟩ : ∃ t, (M.getF s.fs n).isSome = t := ⟨_, rfl⟩
  have HT := hid ht
  clear ht
  obtain ⟨r, hr⟩ : ∃ r, M.suO (M.getF s.fs n) = r := ⟨_, rfl⟩
  rw [hr]
  have HR := hid hr
  clear hr
  go_enter Try.func28, Try.ntmps28
  obtain ⟨xba0, xba1, _⟩ := cells2 Nba.out
  go_wp2_with (first | (go_at_call 11; refine stopHere ?_))
  refine stopAt ?_
  refine (oget_any V1 _ s n Fa2.out Ka.out).mono ?_
  rintro e w3 ⟨y3, rfl, hyf, hoy, hb⟩
  have B3 := hid (B2.out.trans (hb.mono B2.out.size))
  have Fa3 := hid (Fa2.out.bel hb)
  have Fba3 := hid (bx_bel Nba.out hb)
  clear B2 Fa2 Nba
  rw [HT.out]
  have Ff3 := hid hoy
  have YF := hid hyf
  clear hoy hyf
  obtain ⟨⟨nmf, suf, vsf⟩, yaf, ycf⟩ := y3
  unfold fv
  clear hb xba0 xba1 hV1
  have hq : r = (t && suf) := suO_get HR.out HT.out YF.out
  subst hq
  clear HR YF
  obtain ⟨V4, hV4⟩ : ∃ W, w3.alloc (.cells #[.string nmf, .bool suf, .slice yaf vsf.length ycf] 29) = W := ⟨_, rfl⟩
  have hbx : Below w3.heap.size w3 V4 := by rw [← hV4]; exact (gr_new _ _).below
  have Nbf : Hid (V4.heap[w3.heap.size]? = some (.cells #[.string nmf, .bool suf, .slice yaf vsf.length ycf] 29 (0, 0))) := by unfold Hid; rw [← hV4]; exact new_at _ _
  have B5 := hid (B3.out.trans (hbx.mono B3.out.size))
  have Fa5 := hid (Fa3.out.bel hbx)
  have Fba5 := hid (bx_bel Fba3.out hbx)
  have Ff5 := hid (Ff3.out.bel hbx)
  clear B3 Fa3 Fba3 Ff3
  clear hbx
  obtain ⟨xba0, xba1, _⟩ := cells2 Fba5.out
  obtain ⟨xbf0, xbf1, xbf2, _⟩ := cells3 Nbf.out
  rcases t with _ | _
  · go_wp2
    go_ret
    exact ⟨rfl, B5.out⟩
  · go_wp2
    go_ret
    exact ⟨rfl, B5.out⟩
end Go.Proofs.Ytcnikcfnfohoeaa
