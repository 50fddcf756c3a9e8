/-
  The walk of state.Loc: what it answers lies in new blocks. Conditions: states of at most 100000 of each thing.
-/
import Derived.Test.YtbaaeobdjiglgaaGreatGK
set_option linter.unusedVariables false
set_option linter.unusedSimpArgs false
namespace Go.Proofs.YtbaaeobdjiglgaaGreat
open Go.RowKit Go.Sort
def keyLcl (x : M.Atm) : Lcl := ⟨x, M.zeroS, none, 0, none, 0⟩

set_option maxHeartbeats 8000000 in
set_option maxRecDepth 100000 in
theorem sloc_any (w : World) (v : Value) (s : M.Sta) (x : M.Atm) (h : StAt w v s) (hK : M.SmSt 100000 s) :
    Calls Tryz.prog 32 #[v, av x] w fun e w' => ∃ v', e = .returned (.tuple #[v', .bool (M.getK s.ls x).isSome]) ∧ ShFr w.heap.size w' v' ((M.getK s.ls x).getD M.zeroS) ∧ Below w.heap.size w w' := by
  obtain ⟨B, L, a, c, b, d, hs, rfl, hB, hL⟩ := h.open
  obtain ⟨hn, hvs, hm, hls⟩ := smStB hK hs
  have HL := hid hls
  have TL := hid hL
  have HSL : Hid (lclOf L = s.ls) := by unfold Hid; rw [hs]
  obtain ⟨dd, hdd⟩ : ∃ x, s.dead = x := ⟨_, rfl⟩
  rw [hdd]
  clear h hK hvs hls hB hL hdd hs
  have HGET := hid (M.placeK_get M.keyA (k := x) (l := lclOf L) (i := 0) (w := 0))
  rw [HSL.out] at HGET
  obtain ⟨r, hr⟩ : ∃ r, M.getK s.ls x = r := ⟨_, rfl⟩
  have HR := hid hr
  rw [hr] at HGET ⊢
  clear hr
  unfold av
  obtain ⟨A1, hA1⟩ : ∃ o, (.cells #[.bool dd, .slice a B.length c, .slice b L.length d] 25 : Obj) = o := ⟨_, rfl⟩
  obtain ⟨A2, hA2⟩ : ∃ o, (.cells #[.int .i64 x.k, .int .i64 x.n] 34 : Obj) = o := ⟨_, rfl⟩
  obtain ⟨A3, hA3⟩ : ∃ o, (.cells #[.slice none 0 0, .slice none 0 0] 31 : Obj) = o := ⟨_, rfl⟩
  obtain ⟨W0, hW0⟩ : ∃ W0, ((w.alloc A1).alloc A2).alloc A3 = W0 := ⟨_, rfl⟩
  have b1 := (gr_new w A1).below
  have b2 := (gr_new (w.alloc A1) A2).below
  have b3 := (gr_new ((w.alloc A1).alloc A2) A3).below
  have p3 : W0.heap[w.heap.size]? = some A1 := by rw [← hW0]; exact kept (B := ((w.alloc A1).alloc A2).heap.size) (kept (B := (w.alloc A1).heap.size) (new_at w A1) (by simp) b2) (by simp; omega) b3
  have p4 : W0.heap[w.heap.size + 1]? = some A2 := by
    rw [← hW0]
    have := kept (B := ((w.alloc A1).alloc A2).heap.size) (new_at (w.alloc A1) A2) (by simp) b3
    rw [World.size_alloc] at this
    exact this
  have p5 : W0.heap[w.heap.size + 2]? = some A3 := by
    rw [← hW0]
    have := new_at ((w.alloc A1).alloc A2) A3
    rw [World.size_alloc, World.size_alloc] at this
    exact this
  have hz : w.heap.size + 3 ≤ W0.heap.size := by rw [← hW0]; simp
  have B0 : Hid (Below w.heap.size w W0) := by unfold Hid; rw [← hW0]; exact (b1.trans (b2.mono b1.size)).trans (b3.mono (b1.trans (b2.mono b1.size)).size)
  rw [← hA1] at p3
  rw [← hA2] at p4
  rw [← hA3] at p5
  subst hA1 hA2 hA3
  have P1 := hid p3
  have P3 := hid p5
  obtain ⟨x1, x2, x3, _⟩ := cells3 p3
  obtain ⟨x4, x5, _⟩ := cells2 p4
  clear b1 b2 b3 p3 p4 p5
  have K := placeL_any W0 _ L (keyLcl x) (TL.out.bel B0.out) (by omega)
  rw [HSL.out] at K
  obtain ⟨p, hp⟩ : ∃ p, (M.placeK M.keyA x 0 0 s.ls).1 = p := ⟨_, rfl⟩
  obtain ⟨th, hth⟩ : ∃ t, (M.placeK M.keyA x 0 0 s.ls).2 = t := ⟨_, rfl⟩
  unfold keyLcl at K
  simp only at K
  rw [hp, hth] at K HGET
  unfold fnByA lv at K
  have HK := hid K
  clear K hp hth
  go_enter Tryz.func32, Tryz.ntmps32
  go_wp2_with (go_at_call 56; refine stopHere ?_)
  refine stopAt ?_
  refine HK.out.mono ?_
  rintro e w1 ⟨rfl, hg1⟩
  clear hW0 x1 x2 x3 x4 x5
  have B1 : Hid (Below w.heap.size w w1) := B0.out.trans (hg1.below.mono B0.out.size)
  have hz1 : W0.heap.size ≤ w1.heap.size := hg1.below.size
  have Q1 := hid (kept P1.out (by omega) hg1.below)
  have Q3 := hid (kept P3.out (by omega) hg1.below)
  cases th with
  | false =>
    obtain ⟨z1, z2, _⟩ := cells2 Q3.out
    obtain rfl : r = none := by
      have := HGET.out.1
      cases r with
      | none => rfl
      | some y => simp at this
    clear hg1
    go_wp2
    refine bodyPost_ret (v := .tuple #[.agg #[.slice none 0 0, .slice none 0 0], .bool false]) (by simp [results, Tryz.results32, go_sem, z1, z2]) rfl ?_
    exact ⟨_, rfl, zero_at _, set2b B1.out (by omega) _ _⟩
  | true =>
    obtain ⟨p', h1, h2, h3, h4⟩ := HGET.out.2 rfl
    have hpl : p < L.length := by
      have h5 := congrArg List.length HSL.out
      rw [lclOf_len] at h5
      omega
    obtain rfl : r = some L[p].s := by
      rw [h4]
      have e : p = p' := by omega
      subst e
      have h6 : (lclOf L)[p]'(by rw [lclOf_len]; exact hpl) = L[p].p := lclOf_get L p hpl
      have h7 : s.ls[p]? = some L[p].p := by
        rw [← HSL.out, List.getElem?_eq_getElem (by rw [lclOf_len]; exact hpl), h6]
      have h8 := (List.getElem?_eq_some_iff.1 h7).2
      rw [h8]
      rfl
    clear h1 h2 h3 h4 HGET HR
    obtain ⟨bb, o, rfl, hlt, hc⟩ := Ls_some (TL.out.bel B1.out) hpl
    obtain ⟨c1, c2, c3, c4⟩ := hc p hpl
    have HX := hid ((TL.out.bel B1.out).2 _ (List.getElem_mem hpl))
    have hxl := HL.out _ (List.getElem_mem hpl)
    obtain ⟨y, hy⟩ : ∃ y, L[p] = y := ⟨_, rfl⟩
    rw [hy] at c1 c2 c3 c4 HX hxl
    have HY := hid hy
    obtain ⟨x1, x2, x3, _⟩ := cells3 Q1.out
    have KC := hid (scopied_any w1 _ y.s HX.out.2 hxl)
    unfold Lcl.v at KC
    have hpi : (p : Int) < (L.length : Int) := by omega
    clear hc hy hxl hg1
    go_wp2_with (go_at_call 57; refine stopHere ?_)
    refine stopAt ?_
    refine KC.out.mono ?_
    rintro e w3 ⟨v3, rfl, hS3, hb3⟩
    clear x1 x2 x3 c1 c2 c3 c4
    obtain ⟨f3, n3, p3, m3, rfl⟩ := ShAt.form (ShFr.at hS3)
    have B3 : Hid (Below w.heap.size w w3) := B1.out.trans (hb3.mono B1.out.size)
    obtain ⟨z1, z2, _⟩ := cells2 (kept Q3.out (by omega) hb3)
    have HS3 := hid hS3
    clear hS3 hb3
    go_wp2
    refine bodyPost_ret (v := .tuple #[.agg #[.slice f3 y.s.fs.length n3, .slice p3 y.s.pr.length m3], .bool true]) (by simp [results, Tryz.results32, go_sem, z1, z2]) rfl ?_
    refine ⟨_, rfl, ?_, set2b B3.out (by omega) _ _⟩
    show ShFr _ _ _ L[p].s
    rw [HY.out]
    exact (((HS3.out.set (g := w.heap.size + 2) (by omega)).set (g := w.heap.size + 2) (by omega)).mono (by omega))
end Go.Proofs.YtbaaeobdjiglgaaGreat
