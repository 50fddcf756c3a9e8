/-
  The law DemoteForgets, walked. Conditions: the site is an int, the shape has at most 1048576 of each thing.
-/
import Derived.Test.YtbaaeobdjiglgaaGreatE28
import Derived.Test.YtbaaeobdjiglgaaGreatE29
import Derived.Deep.DeepCutAuto
set_option linter.unusedVariables false
set_option linter.unusedSimpArgs false
namespace Go.Proofs.YtbaaeobdjiglgaaGreat
open Go.RowKit Go.Sort
namespace M
def tmpSt (o : Shp) : Sta := ⟨false, [], [(⟨0, 0⟩, o)]⟩
theorem tmp_sm {o : Shp} (h : smallSt (tmpSt o) = true) : Sm 40 o := (small_smSt h).lv (⟨0, 0⟩, o) (List.mem_singleton.2 rfl)
theorem alloc_if {s : Sta} {k : Int} {o : Shp} {n : ByteArray} (hm : maySt s = true) (hk : 0 ≤ k) (ho : mayS o = true) : (if decide (0 ≤ k) && maySt s && mayS o then allocSt s n k o else zeroSt) = allocSt s n k o := by
  rw [hm, ho, decide_eq_true hk]; rfl
theorem smSt_alloc {s : Sta} {o : Shp} (h : SmSt 40 s) (ho : Sm 40 o) (n : ByteArray) (k : Int) : SmSt 200 (allocSt s n k o) := by
  unfold allocSt
  exact smSt_set (K := 150) (smSt_put (K := 100) (smSt_age h (by decide) k) (by decide) _ (sm_mono (sm_ren ho k) (by decide))) (by decide) n (by simp)
structure Forg (s : Sta) (n : ByteArray) (k : Int) (o : Shp) (t u : Sta) (r : Shp) : Prop where
  et : ageSt s k = t
  eu : allocSt s n k o = u
  er : renS o k = r
  kt : SmSt 81 t
  ku : SmSt 200 u
  kr : Sm 40 r
  mt : maySt t = true
  mu : maySt u = true
  spk : speaksSt t ⟨4, k⟩ = false
  again : ageSt t k = t
  same : sameSt t t = true
  hv : ∀ z ∈ u.vs, has z.2 ⟨4, k⟩ = decide (z.1 = n)
  hl : ∀ z ∈ u.ls, mute z.2 ⟨4, k⟩ = true
  gl : getK u.ls ⟨4, k⟩ = some r
  va : varS u n = [⟨4, k⟩]
  samer : sameS r r = true
  samel : sameB [⟨4, k⟩] [⟨4, k⟩] = true
theorem forg {s : Sta} {n : ByteArray} {k : Int} {o : Shp} {t u : Sta} {r : Shp} (hs : MaySt s) (hd : s.dead = false) (hk : 0 ≤ k) (ho : mayS o = true) (K1 : SmSt 40 s) (K2 : Sm 40 o) (et : ageSt s k = t) (eu : allocSt s n k o = u) (er : renS o k = r) : Forg s n k o t u r := by
  subst et eu er
  obtain ⟨h1, h2, h3, h4⟩ := alloc_facts hs hd n hk ho
  exact ⟨rfl, rfl, rfl, smSt_age K1 (by decide) _, smSt_alloc K1 K2 n k, sm_ren K2 k, (maySt_iff _).2 (may_age hs hk), (maySt_iff _).2 (may_alloc hs n hk ho), age_speaks hs hk, age_again hs hk, by simp [sameSt], h1, h2, h3, h4, by simp [sameS], by simp [sameB]⟩
theorem mute_pr {p : Shp} {x : Atm} (h : mute p x = true) : has p.pr x = false := by
  unfold mute at h
  rw [Bool.and_eq_true] at h
  simpa using h.1
theorem mute_f {p : Shp} {x : Atm} (h : mute p x = true) {f : Fld} (hf : f ∈ p.fs) : has f.vs x = false := by
  unfold mute at h
  rw [Bool.and_eq_true, List.all_eq_true] at h
  simpa using h.2 f hf
end M
theorem tmp_at {w : World} {g : Nat} {o : M.Shp} {a b : Option Addr} {c d : Nat} (h : w.heap[g]? = some (.cells #[.int .i64 0, .int .i64 0, .slice a o.fs.length c, .slice b o.pr.length d] 36 (0, 0))) (ho : ShAt w (.agg #[.slice a o.fs.length c, .slice b o.pr.length d]) o) :
    StAt w (.agg #[.bool false, .slice none 0 0, .slice (some ⟨g, 0, none⟩) 1 1]) (M.tmpSt o) :=
  ⟨_, _, [], [⟨⟨0, 0⟩, o, a, c, b, d⟩], rfl, rfl, rfl, ⟨AtK.nil w, fun x hx => by cases hx⟩, ⟨AtK.one h rfl, fun x hx => by rw [List.mem_singleton.1 hx]; exact ⟨by simp [InR], ho⟩⟩⟩
theorem dalloc_ok (w : World) (v : Value) (s u : M.Sta) (n : ByteArray) (k : Int) (vo : Value) (o : M.Shp) (h : StAt w v s) (ho : ShAt w vo o) (hk : InR k) (h0 : 0 ≤ k) (hK : M.SmSt 40 s) (hO : M.Sm 40 o) (hm : M.maySt s = true) (hmo : M.mayS o = true) (ht : M.allocSt s n k o = u) :
    Calls Tryz.prog 13 #[v, .string n, .int .i64 k, vo] w fun e w' => ∃ a c b d, e = .returned (.agg #[.bool u.dead, .slice a u.vs.length c, .slice b u.ls.length d]) ∧ StAt w' (.agg #[.bool u.dead, .slice a u.vs.length c, .slice b u.ls.length d]) u ∧ Below w.heap.size w w' := by
  have := dalloc_any w v s n k vo o h ho hk (M.smSt_mono hK (by decide)) (M.sm_mono hO (by decide))
  rw [M.alloc_if hm h0 hmo, ht] at this
  refine this.mono ?_
  rintro e w' ⟨v', rfl, hF, hb⟩
  obtain ⟨a, c, b, d, rfl⟩ := StAt.form (StFr.at hF)
  exact ⟨a, c, b, d, rfl, StFr.at hF, hb⟩
theorem rloc_in (w : World) (v : Value) (s : M.Sta) (x : M.Atm) (r : M.Shp) (h : StAt w v s) (hK : M.SmSt 100000 s) (hg : M.getK s.ls x = some r) :
    Calls Tryz.prog 20 #[v, .agg #[.int .i64 x.k, .int .i64 x.n]] w fun e w' => ∃ (fa : Option Addr) (fn : Nat) (pa : Option Addr) (pn : Nat), e = .returned (.tuple #[.agg #[.slice fa r.fs.length fn, .slice pa r.pr.length pn], .bool true]) ∧ ShAt w' (.agg #[.slice fa r.fs.length fn, .slice pa r.pr.length pn]) r ∧ Below w.heap.size w w' := by
  refine (rloc_ok w v s x h hK).mono ?_
  rintro e w' ⟨p, q, fa, fn, pa, pn, rfl, hp, hq, hS, hb⟩
  rw [hg] at hp hq
  obtain rfl : p = r := hp
  obtain rfl : q = true := hq
  exact ⟨fa, fn, pa, pn, rfl, hS, hb⟩
theorem rvar_in (w : World) (v : Value) (s : M.Sta) (n : ByteArray) (x : M.Atm) (h : StAt w v s) (hK : M.SmSt 100000 s) (hg : M.varS s n = [x]) :
    Calls Tryz.prog 24 #[v, .string n] w fun e w' => ∃ q m, e = .returned (.slice q 1 m) ∧ AtAt w' (.slice q 1 m) [x] ∧ Below w.heap.size w w' := by
  refine (rvar_any w v s n h hK).mono ?_
  rintro e w' ⟨v', rfl, hA, hb⟩
  rw [hg] at hA
  obtain ⟨q, m, rfl⟩ := hA.form
  exact ⟨q, m, rfl, hA, hb⟩
/-- a variable in a row -/
def Duo (w : World) (b p : Nat) (n : ByteArray) (a : Option Addr) (l c : Nat) : Prop := b < w.heap.size ∧ w.cell? ⟨b, p, none⟩ = some (.string n) ∧ w.cell? ⟨b, p + 1, none⟩ = some (.slice a l c)
theorem Duo.bel {w w' : World} {b p : Nat} {n : ByteArray} {a : Option Addr} {l c : Nat} (h : Duo w b p n a l c) (hb : Below w.heap.size w w') : Duo w' b p n a l c := by
  obtain ⟨h0, h1, h2⟩ := h
  exact ⟨Nat.lt_of_lt_of_le h0 hb.size, by rw [hb.cell (p := ⟨b, p, none⟩) h0]; exact h1, by rw [hb.cell (p := ⟨b, p + 1, none⟩) h0]; exact h2⟩
def TriB (w : World) (b p : Nat) (x : Cel) : Prop := b < w.heap.size ∧ Tri w b p x
theorem TriB.bel {w w' : World} {b p : Nat} {x : Cel} (h : TriB w b p x) (hb : Below w.heap.size w w') : TriB w' b p x := ⟨Nat.lt_of_lt_of_le h.1 hb.size, h.2.bel h.1 hb⟩

set_option maxHeartbeats 3000000 in
set_option maxRecDepth 100000 in
theorem forgets_law (w : World) (v : Value) (s : M.Sta) (h : StAt w v s) (n : ByteArray) (k : Int) (hk : InR k) (vo : Value) (o : M.Shp) (ho : ShAt w vo o) (hO : M.Sm 1048576 o) : Calls Tryz.prog 4 #[v, .agg #[.string n, .int .i64 k], vo] w fun e w' => e = .returned (.bool true) ∧ Below w.heap.size w w' := by
  have mixed := mixedP
  have B0 := hid (Below.refl w.heap.size w)
  obtain ⟨a0, c0, b0, d0, rfl⟩ := h.form
  obtain ⟨a5, c5, b5, d5, rfl⟩ := ho.form
  obtain ⟨sd, hsd⟩ : ∃ x, s.dead = x := ⟨_, rfl⟩
  rw [hsd] at h ⊢
  have HSD := hid hsd
  have Fs := hid h
  have Fo := hid ho
  have HK := hid hk
  have HO := hid hO
  clear h ho hsd hk hO
  obtain ⟨V1, hV1⟩ : ∃ W, w.alloc (.cells #[.bool sd, .slice a0 s.vs.length c0, .slice b0 s.ls.length d0] 25) = W := ⟨_, rfl⟩
  have hbx : Below w.heap.size w V1 := by rw [← hV1]; exact (gr_new _ _).below
  have Nbs : Hid (V1.heap[w.heap.size]? = some (.cells #[.bool sd, .slice a0 s.vs.length c0, .slice b0 s.ls.length d0] 25 (0, 0))) := by unfold Hid; rw [← hV1]; exact new_at _ _
  have B2 := hid (B0.out.trans (hbx.mono B0.out.size))
  have Fs2 := hid (Fs.out.bel hbx)
  have Fo2 := hid (Fo.out.bel hbx)
  clear B0 Fs Fo
  clear hbx
  obtain ⟨V3, hV3⟩ : ∃ W, V1.alloc (.cells #[.string n, .int .i64 k] 27) = W := ⟨_, rfl⟩
  have hbx : Below V1.heap.size V1 V3 := by rw [← hV3]; exact (gr_new _ _).below
  have Nbx : Hid (V3.heap[V1.heap.size]? = some (.cells #[.string n, .int .i64 k] 27 (0, 0))) := by unfold Hid; rw [← hV3]; exact new_at _ _
  have B4 := hid (B2.out.trans (hbx.mono B2.out.size))
  have Fs4 := hid (Fs2.out.bel hbx)
  have Fo4 := hid (Fo2.out.bel hbx)
  have Fbs4 := hid (bx_bel Nbs.out hbx)
  clear B2 Fs2 Fo2 Nbs
  clear hbx
  obtain ⟨V5, hV5⟩ : ∃ W, V3.alloc (.cells #[.slice a5 o.fs.length c5, .slice b5 o.pr.length d5] 31) = W := ⟨_, rfl⟩
  have hbx : Below V3.heap.size V3 V5 := by rw [← hV5]; exact (gr_new _ _).below
  have Nbo : Hid (V5.heap[V3.heap.size]? = some (.cells #[.slice a5 o.fs.length c5, .slice b5 o.pr.length d5] 31 (0, 0))) := by unfold Hid; rw [← hV5]; exact new_at _ _
  have B6 := hid (B4.out.trans (hbx.mono B4.out.size))
  have Fs6 := hid (Fs4.out.bel hbx)
  have Fo6 := hid (Fo4.out.bel hbx)
  have Fbs6 := hid (bx_bel Fbs4.out hbx)
  have Fbx6 := hid (bx_bel Nbx.out hbx)
  clear B4 Fs4 Fo4 Fbs4 Nbx
  clear hbx
  go_enter Tryz.func4, Tryz.ntmps4
  obtain ⟨xbs0, xbs1, xbs2, _⟩ := cells3 Fbs6.out
  obtain ⟨xbx0, xbx1, _⟩ := cells2 Fbx6.out
  obtain ⟨xbo0, xbo1, _⟩ := cells2 Nbo.out
  go_wp2_with (first | (go_at_call 9; refine stopHere ?_))
  refine stopAt ?_
  refine (fixed_any V5).mono ?_
  rintro e w7 ⟨rfl, hb⟩
  have B7 := hid (B6.out.trans (hb.mono B6.out.size))
  have Fs7 := hid (Fs6.out.bel hb)
  have Fo7 := hid (Fo6.out.bel hb)
  have Fbs7 := hid (bx_bel Fbs6.out hb)
  have Fbx7 := hid (bx_bel Fbx6.out hb)
  have Fbo7 := hid (bx_bel Nbo.out hb)
  clear B6 Fs6 Fo6 Fbs6 Fbx6 Nbo
  clear hb xbs0 xbs1 xbs2 xbx0 xbx1 xbo0 xbo1 hV1 hV3 hV5
  rcases (Bool.eq_false_or_eq_true (M.smallSt s)).symm with hs | hs
  · as_aux_lemma =>
      obtain ⟨xbs0, xbs1, xbs2, _⟩ := cells3 Fbs7.out
      obtain ⟨xbx0, xbx1, _⟩ := cells2 Fbx7.out
      obtain ⟨xbo0, xbo1, _⟩ := cells2 Fbo7.out
      go_wp2_with (first | (go_at_call 8; refine stopHere ?_))
      refine stopAt ?_
      refine (rsmallSt_any w7 _ s Fs7.out).mono ?_
      rw [hs]
      rintro e w8 ⟨rfl, hb⟩
      have B8 := hid (B7.out.trans (hb.mono B7.out.size))
      have Fs8 := hid (Fs7.out.bel hb)
      have Fo8 := hid (Fo7.out.bel hb)
      have Fbs8 := hid (bx_bel Fbs7.out hb)
      have Fbx8 := hid (bx_bel Fbx7.out hb)
      have Fbo8 := hid (bx_bel Fbo7.out hb)
      clear B7 Fs7 Fo7 Fbs7 Fbx7 Fbo7
      clear hb xbs0 xbs1 xbs2 xbx0 xbx1 xbo0 xbo1
      obtain ⟨xbs0, xbs1, xbs2, _⟩ := cells3 Fbs8.out
      obtain ⟨xbx0, xbx1, _⟩ := cells2 Fbx8.out
      obtain ⟨xbo0, xbo1, _⟩ := cells2 Fbo8.out
      go_wp2_with (first | (go_at_call 9; refine stopHere ?_))
      refine stopAt ?_
      refine (fixed_any w8).mono ?_
      rintro e w9 ⟨rfl, hb⟩
      have B9 := hid (B8.out.trans (hb.mono B8.out.size))
      have Fs9 := hid (Fs8.out.bel hb)
      have Fo9 := hid (Fo8.out.bel hb)
      have Fbs9 := hid (bx_bel Fbs8.out hb)
      have Fbx9 := hid (bx_bel Fbx8.out hb)
      have Fbo9 := hid (bx_bel Fbo8.out hb)
      clear B8 Fs8 Fo8 Fbs8 Fbx8 Fbo8
      clear hb xbs0 xbs1 xbs2 xbx0 xbx1 xbo0 xbo1
      go_wp2
      go_ret
      exact ⟨rfl, B9.out⟩
  obtain ⟨xbs0, xbs1, xbs2, _⟩ := cells3 Fbs7.out
  obtain ⟨xbx0, xbx1, _⟩ := cells2 Fbx7.out
  obtain ⟨xbo0, xbo1, _⟩ := cells2 Fbo7.out
  go_wp2_with (first | (go_at_call 8; refine stopHere ?_))
  refine stopAt ?_
  refine (rsmallSt_any w7 _ s Fs7.out).mono ?_
  rw [hs]
  rintro e w8 ⟨rfl, hb⟩
  have B8 := hid (B7.out.trans (hb.mono B7.out.size))
  have Fs8 := hid (Fs7.out.bel hb)
  have Fo8 := hid (Fo7.out.bel hb)
  have Fbs8 := hid (bx_bel Fbs7.out hb)
  have Fbx8 := hid (bx_bel Fbx7.out hb)
  have Fbo8 := hid (bx_bel Fbo7.out hb)
  clear B7 Fs7 Fo7 Fbs7 Fbx7 Fbo7
  clear hb xbs0 xbs1 xbs2 xbx0 xbx1 xbo0 xbo1
  have K1 := hid (M.small_smSt hs)
  rcases (Bool.eq_false_or_eq_true (M.maySt s)).symm with hm | hm
  · as_aux_lemma =>
      obtain ⟨xbs0, xbs1, xbs2, _⟩ := cells3 Fbs8.out
      obtain ⟨xbx0, xbx1, _⟩ := cells2 Fbx8.out
      obtain ⟨xbo0, xbo1, _⟩ := cells2 Fbo8.out
      go_wp2_with (first | (go_at_call 15; refine stopHere ?_))
      refine stopAt ?_
      refine (rmaySt_any w8 _ s Fs8.out (M.smSt_mono K1.out (by decide))).mono ?_
      rw [hm]
      rintro e w9 ⟨rfl, hb⟩
      have B9 := hid (B8.out.trans (hb.mono B8.out.size))
      have Fs9 := hid (Fs8.out.bel hb)
      have Fo9 := hid (Fo8.out.bel hb)
      have Fbs9 := hid (bx_bel Fbs8.out hb)
      have Fbx9 := hid (bx_bel Fbx8.out hb)
      have Fbo9 := hid (bx_bel Fbo8.out hb)
      clear B8 Fs8 Fo8 Fbs8 Fbx8 Fbo8
      clear hb xbs0 xbs1 xbs2 xbx0 xbx1 xbo0 xbo1
      obtain ⟨xbs0, xbs1, xbs2, _⟩ := cells3 Fbs9.out
      obtain ⟨xbx0, xbx1, _⟩ := cells2 Fbx9.out
      obtain ⟨xbo0, xbo1, _⟩ := cells2 Fbo9.out
      go_wp2_with (first | (go_at_call 9; refine stopHere ?_))
      refine stopAt ?_
      refine (fixed_any w9).mono ?_
      rintro e w10 ⟨rfl, hb⟩
      have B10 := hid (B9.out.trans (hb.mono B9.out.size))
      have Fs10 := hid (Fs9.out.bel hb)
      have Fo10 := hid (Fo9.out.bel hb)
      have Fbs10 := hid (bx_bel Fbs9.out hb)
      have Fbx10 := hid (bx_bel Fbx9.out hb)
      have Fbo10 := hid (bx_bel Fbo9.out hb)
      clear B9 Fs9 Fo9 Fbs9 Fbx9 Fbo9
      clear hb xbs0 xbs1 xbs2 xbx0 xbx1 xbo0 xbo1
      go_wp2
      go_ret
      exact ⟨rfl, B10.out⟩
  obtain ⟨xbs0, xbs1, xbs2, _⟩ := cells3 Fbs8.out
  obtain ⟨xbx0, xbx1, _⟩ := cells2 Fbx8.out
  obtain ⟨xbo0, xbo1, _⟩ := cells2 Fbo8.out
  go_wp2_with (first | (go_at_call 15; refine stopHere ?_))
  refine stopAt ?_
  refine (rmaySt_any w8 _ s Fs8.out (M.smSt_mono K1.out (by decide))).mono ?_
  rw [hm]
  rintro e w9 ⟨rfl, hb⟩
  have B9 := hid (B8.out.trans (hb.mono B8.out.size))
  have Fs9 := hid (Fs8.out.bel hb)
  have Fo9 := hid (Fo8.out.bel hb)
  have Fbs9 := hid (bx_bel Fbs8.out hb)
  have Fbx9 := hid (bx_bel Fbx8.out hb)
  have Fbo9 := hid (bx_bel Fbo8.out hb)
  clear B8 Fs8 Fo8 Fbs8 Fbx8 Fbo8
  clear hb xbs0 xbs1 xbs2 xbx0 xbx1 xbo0 xbo1
  rcases (Bool.eq_false_or_eq_true (M.mayS o)).symm with hmo | hmo
  · as_aux_lemma =>
      obtain ⟨xbs0, xbs1, xbs2, _⟩ := cells3 Fbs9.out
      obtain ⟨xbx0, xbx1, _⟩ := cells2 Fbx9.out
      obtain ⟨xbo0, xbo1, _⟩ := cells2 Fbo9.out
      go_wp2_with (first | (go_at_call 16; refine stopHere ?_))
      refine stopAt ?_
      refine (rmayS_big w9 _ o Fo9.out HO.out).mono ?_
      rw [hmo]
      rintro e w10 ⟨rfl, hb⟩
      have B10 := hid (B9.out.trans (hb.mono B9.out.size))
      have Fs10 := hid (Fs9.out.bel hb)
      have Fo10 := hid (Fo9.out.bel hb)
      have Fbs10 := hid (bx_bel Fbs9.out hb)
      have Fbx10 := hid (bx_bel Fbx9.out hb)
      have Fbo10 := hid (bx_bel Fbo9.out hb)
      clear B9 Fs9 Fo9 Fbs9 Fbx9 Fbo9
      clear hb xbs0 xbs1 xbs2 xbx0 xbx1 xbo0 xbo1
      obtain ⟨xbs0, xbs1, xbs2, _⟩ := cells3 Fbs10.out
      obtain ⟨xbx0, xbx1, _⟩ := cells2 Fbx10.out
      obtain ⟨xbo0, xbo1, _⟩ := cells2 Fbo10.out
      go_wp2_with (first | (go_at_call 9; refine stopHere ?_))
      refine stopAt ?_
      refine (fixed_any w10).mono ?_
      rintro e w11 ⟨rfl, hb⟩
      have B11 := hid (B10.out.trans (hb.mono B10.out.size))
      have Fs11 := hid (Fs10.out.bel hb)
      have Fo11 := hid (Fo10.out.bel hb)
      have Fbs11 := hid (bx_bel Fbs10.out hb)
      have Fbx11 := hid (bx_bel Fbx10.out hb)
      have Fbo11 := hid (bx_bel Fbo10.out hb)
      clear B10 Fs10 Fo10 Fbs10 Fbx10 Fbo10
      clear hb xbs0 xbs1 xbs2 xbx0 xbx1 xbo0 xbo1
      go_wp2
      go_ret
      exact ⟨rfl, B11.out⟩
  obtain ⟨xbs0, xbs1, xbs2, _⟩ := cells3 Fbs9.out
  obtain ⟨xbx0, xbx1, _⟩ := cells2 Fbx9.out
  obtain ⟨xbo0, xbo1, _⟩ := cells2 Fbo9.out
  go_wp2_with (first | (go_at_call 16; refine stopHere ?_))
  refine stopAt ?_
  refine (rmayS_big w9 _ o Fo9.out HO.out).mono ?_
  rw [hmo]
  rintro e w10 ⟨rfl, hb⟩
  have B10 := hid (B9.out.trans (hb.mono B9.out.size))
  have Fs10 := hid (Fs9.out.bel hb)
  have Fo10 := hid (Fo9.out.bel hb)
  have Fbs10 := hid (bx_bel Fbs9.out hb)
  have Fbx10 := hid (bx_bel Fbx9.out hb)
  have Fbo10 := hid (bx_bel Fbo9.out hb)
  clear B9 Fs9 Fo9 Fbs9 Fbx9 Fbo9
  clear hb xbs0 xbs1 xbs2 xbx0 xbx1 xbo0 xbo1
  have Hm := hid hm
  have Hmo := hid hmo
  clear hs hm hmo
  by_cases hk0 : k < 0
  · as_aux_lemma =>
      have fk : decide (k < 0) = true := decide_eq_true hk0
      obtain ⟨xbs0, xbs1, xbs2, _⟩ := cells3 Fbs10.out
      obtain ⟨xbx0, xbx1, _⟩ := cells2 Fbx10.out
      obtain ⟨xbo0, xbo1, _⟩ := cells2 Fbo10.out
      go_wp2_with (first | (go_at_call 9; refine stopHere ?_))
      refine stopAt ?_
      refine (fixed_any w10).mono ?_
      rintro e w11 ⟨rfl, hb⟩
      have B11 := hid (B10.out.trans (hb.mono B10.out.size))
      have Fs11 := hid (Fs10.out.bel hb)
      have Fo11 := hid (Fo10.out.bel hb)
      have Fbs11 := hid (bx_bel Fbs10.out hb)
      have Fbx11 := hid (bx_bel Fbx10.out hb)
      have Fbo11 := hid (bx_bel Fbo10.out hb)
      clear B10 Fs10 Fo10 Fbs10 Fbx10 Fbo10
      clear hb xbs0 xbs1 xbs2 xbx0 xbx1 xbo0 xbo1
      go_wp2
      go_ret
      exact ⟨rfl, B11.out⟩
  have fk : decide (k < 0) = false := decide_eq_false hk0
  have NK : Hid (0 ≤ k) := Int.not_lt.1 hk0
  cases sd
  rotate_left
  · as_aux_lemma =>
      obtain ⟨xbs0, xbs1, xbs2, _⟩ := cells3 Fbs10.out
      obtain ⟨xbx0, xbx1, _⟩ := cells2 Fbx10.out
      obtain ⟨xbo0, xbo1, _⟩ := cells2 Fbo10.out
      go_wp2_with (first | (go_at_call 9; refine stopHere ?_))
      refine stopAt ?_
      refine (fixed_any w10).mono ?_
      rintro e w11 ⟨rfl, hb⟩
      have B11 := hid (B10.out.trans (hb.mono B10.out.size))
      have Fs11 := hid (Fs10.out.bel hb)
      have Fo11 := hid (Fo10.out.bel hb)
      have Fbs11 := hid (bx_bel Fbs10.out hb)
      have Fbx11 := hid (bx_bel Fbx10.out hb)
      have Fbo11 := hid (bx_bel Fbo10.out hb)
      clear B10 Fs10 Fo10 Fbs10 Fbx10 Fbo10
      clear hb xbs0 xbs1 xbs2 xbx0 xbx1 xbo0 xbo1
      go_wp2
      go_ret
      exact ⟨rfl, B11.out⟩
  obtain ⟨ybs0, ybs1, ybs2, _⟩ := cells3 Fbs10.out
  obtain ⟨ybx0, ybx1, _⟩ := cells2 Fbx10.out
  obtain ⟨ybo0, ybo1, _⟩ := cells2 Fbo10.out
  obtain ⟨V11, hV11⟩ : ∃ W, w10.alloc (.cells #[.int .i64 0, .int .i64 0, .slice a5 o.fs.length c5, .slice b5 o.pr.length d5] 36) = W := ⟨_, rfl⟩
  have hbx : Below w10.heap.size w10 V11 := by rw [← hV11]; exact (gr_new _ _).below
  have Nbl : Hid (V11.heap[w10.heap.size]? = some (.cells #[.int .i64 0, .int .i64 0, .slice a5 o.fs.length c5, .slice b5 o.pr.length d5] 36 (0, 0))) := by unfold Hid; rw [← hV11]; exact new_at _ _
  have B12 := hid (B10.out.trans (hbx.mono B10.out.size))
  have Fs12 := hid (Fs10.out.bel hbx)
  have Fo12 := hid (Fo10.out.bel hbx)
  have Fbs12 := hid (bx_bel Fbs10.out hbx)
  have Fbx12 := hid (bx_bel Fbx10.out hbx)
  have Fbo12 := hid (bx_bel Fbo10.out hbx)
  clear B10 Fs10 Fo10 Fbs10 Fbx10 Fbo10
  clear hbx
  rcases (Bool.eq_false_or_eq_true (M.smallSt (M.tmpSt o))).symm with hsm | hsm
  · as_aux_lemma =>
      obtain ⟨xbs0, xbs1, xbs2, _⟩ := cells3 Fbs12.out
      obtain ⟨xbx0, xbx1, _⟩ := cells2 Fbx12.out
      obtain ⟨xbo0, xbo1, _⟩ := cells2 Fbo12.out
      go_wp2_with (first | (go_at_call 8; refine stopHere ?_))
      refine stopAt ?_
      refine (rsmallSt_any V11 _ (M.tmpSt o) (tmp_at Nbl.out Fo12.out)).mono ?_
      rw [hsm]
      rintro e w13 ⟨rfl, hb⟩
      have B13 := hid (B12.out.trans (hb.mono B12.out.size))
      have Fs13 := hid (Fs12.out.bel hb)
      have Fo13 := hid (Fo12.out.bel hb)
      have Fbs13 := hid (bx_bel Fbs12.out hb)
      have Fbx13 := hid (bx_bel Fbx12.out hb)
      have Fbo13 := hid (bx_bel Fbo12.out hb)
      have Fbl13 := hid (bx_bel Nbl.out hb)
      clear B12 Fs12 Fo12 Fbs12 Fbx12 Fbo12 Nbl
      clear hb xbs0 xbs1 xbs2 xbx0 xbx1 xbo0 xbo1 ybs0 ybs1 ybs2 ybx0 ybx1 ybo0 ybo1 hV11
      obtain ⟨xbs0, xbs1, xbs2, _⟩ := cells3 Fbs13.out
      obtain ⟨xbx0, xbx1, _⟩ := cells2 Fbx13.out
      obtain ⟨xbo0, xbo1, _⟩ := cells2 Fbo13.out
      go_wp2_with (first | (go_at_call 9; refine stopHere ?_))
      refine stopAt ?_
      refine (fixed_any w13).mono ?_
      rintro e w14 ⟨rfl, hb⟩
      have B14 := hid (B13.out.trans (hb.mono B13.out.size))
      have Fs14 := hid (Fs13.out.bel hb)
      have Fo14 := hid (Fo13.out.bel hb)
      have Fbs14 := hid (bx_bel Fbs13.out hb)
      have Fbx14 := hid (bx_bel Fbx13.out hb)
      have Fbo14 := hid (bx_bel Fbo13.out hb)
      have Fbl14 := hid (bx_bel Fbl13.out hb)
      clear B13 Fs13 Fo13 Fbs13 Fbx13 Fbo13 Fbl13
      clear hb xbs0 xbs1 xbs2 xbx0 xbx1 xbo0 xbo1
      go_wp2
      go_ret
      exact ⟨rfl, B14.out⟩
  obtain ⟨xbs0, xbs1, xbs2, _⟩ := cells3 Fbs12.out
  obtain ⟨xbx0, xbx1, _⟩ := cells2 Fbx12.out
  obtain ⟨xbo0, xbo1, _⟩ := cells2 Fbo12.out
  go_wp2_with (first | (go_at_call 8; refine stopHere ?_))
  refine stopAt ?_
  refine (rsmallSt_any V11 _ (M.tmpSt o) (tmp_at Nbl.out Fo12.out)).mono ?_
  rw [hsm]
  rintro e w13 ⟨rfl, hb⟩
  have B13 := hid (B12.out.trans (hb.mono B12.out.size))
  have Fs13 := hid (Fs12.out.bel hb)
  have Fo13 := hid (Fo12.out.bel hb)
  have Fbs13 := hid (bx_bel Fbs12.out hb)
  have Fbx13 := hid (bx_bel Fbx12.out hb)
  have Fbo13 := hid (bx_bel Fbo12.out hb)
  have Fbl13 := hid (bx_bel Nbl.out hb)
  clear B12 Fs12 Fo12 Fbs12 Fbx12 Fbo12 Nbl
  clear hb xbs0 xbs1 xbs2 xbx0 xbx1 xbo0 xbo1 ybs0 ybs1 ybs2 ybx0 ybx1 ybo0 ybo1 hV11
  clear Fbl13
  have K2 := hid (M.tmp_sm hsm)
  clear hsm fk hk0
  obtain ⟨t, ht⟩ : ∃ x, M.ageSt s k = x := ⟨_, rfl⟩
  obtain ⟨u, hu⟩ : ∃ x, M.allocSt s n k o = x := ⟨_, rfl⟩
  obtain ⟨r, hr⟩ : ∃ x, M.renS o k = x := ⟨_, rfl⟩
  have Z := hid (M.forg ((M.maySt_iff s).1 Hm.out) HSD.out NK.out Hmo.out K1.out K2.out ht hu hr)
  clear ht hu hr
  obtain ⟨xbs0, xbs1, xbs2, _⟩ := cells3 Fbs13.out
  obtain ⟨xbx0, xbx1, _⟩ := cells2 Fbx13.out
  obtain ⟨xbo0, xbo1, _⟩ := cells2 Fbo13.out
  go_wp2_with (first | (go_at_call 11; refine stopHere ?_))
  refine stopAt ?_
  refine (age_ok w13 _ s t k Fs13.out HK.out NK.out (M.smSt_mono K1.out (by decide)) Hm.out Z.out.et).mono ?_
  rintro e w14 ⟨qa, qc, qb, qd, rfl, hF, hb⟩
  have B14 := hid (B13.out.trans (hb.mono B13.out.size))
  have Fs14 := hid (Fs13.out.bel hb)
  have Fo14 := hid (Fo13.out.bel hb)
  have Fbs14 := hid (bx_bel Fbs13.out hb)
  have Fbx14 := hid (bx_bel Fbx13.out hb)
  have Fbo14 := hid (bx_bel Fbo13.out hb)
  clear B13 Fs13 Fo13 Fbs13 Fbx13 Fbo13
  have Ft14 := hid hF
  clear hF
  clear hb xbs0 xbs1 xbs2 xbx0 xbx1 xbo0 xbo1
  obtain ⟨V15, hV15⟩ : ∃ W, w14.alloc (.cells #[.bool t.dead, .slice qa t.vs.length qc, .slice qb t.ls.length qd] 25) = W := ⟨_, rfl⟩
  have hbx : Below w14.heap.size w14 V15 := by rw [← hV15]; exact (gr_new _ _).below
  have Nbt : Hid (V15.heap[w14.heap.size]? = some (.cells #[.bool t.dead, .slice qa t.vs.length qc, .slice qb t.ls.length qd] 25 (0, 0))) := by unfold Hid; rw [← hV15]; exact new_at _ _
  have B16 := hid (B14.out.trans (hbx.mono B14.out.size))
  have Fs16 := hid (Fs14.out.bel hbx)
  have Fo16 := hid (Fo14.out.bel hbx)
  have Fbs16 := hid (bx_bel Fbs14.out hbx)
  have Fbx16 := hid (bx_bel Fbx14.out hbx)
  have Fbo16 := hid (bx_bel Fbo14.out hbx)
  have Ft16 := hid (Ft14.out.bel hbx)
  clear B14 Fs14 Fo14 Fbs14 Fbx14 Fbo14 Ft14
  clear hbx
  obtain ⟨xbs0, xbs1, xbs2, _⟩ := cells3 Fbs16.out
  obtain ⟨xbx0, xbx1, _⟩ := cells2 Fbx16.out
  obtain ⟨xbo0, xbo1, _⟩ := cells2 Fbo16.out
  obtain ⟨xbt0, xbt1, xbt2, _⟩ := cells3 Nbt.out
  go_wp2_with fail
  have KH : Hid (∀ W, Below V15.heap.size V15 W → (W.cell? ⟨w.heap.size, 0, none⟩ = some (.bool false) ∧ W.cell? ⟨w.heap.size, 1, none⟩ = some (.slice a0 s.vs.length c0) ∧ W.cell? ⟨w.heap.size, 2, none⟩ = some (.slice b0 s.ls.length d0) ∧ W.cell? ⟨V1.heap.size, 0, none⟩ = some (.string n) ∧ W.cell? ⟨V1.heap.size, 1, none⟩ = some (.int .i64 k) ∧ W.cell? ⟨V3.heap.size, 0, none⟩ = some (.slice a5 o.fs.length c5) ∧ W.cell? ⟨V3.heap.size, 1, none⟩ = some (.slice b5 o.pr.length d5) ∧ W.cell? ⟨w14.heap.size, 0, none⟩ = some (.bool t.dead) ∧ W.cell? ⟨w14.heap.size, 1, none⟩ = some (.slice qa t.vs.length qc) ∧ W.cell? ⟨w14.heap.size, 2, none⟩ = some (.slice qb t.ls.length qd))) := fun W hb => by
    obtain ⟨ybs0, ybs1, ybs2, _⟩ := cells3 (bx_bel Fbs16.out hb)
    obtain ⟨ybx0, ybx1, _⟩ := cells2 (bx_bel Fbx16.out hb)
    obtain ⟨ybo0, ybo1, _⟩ := cells2 (bx_bel Fbo16.out hb)
    obtain ⟨ybt0, ybt1, ybt2, _⟩ := cells3 (bx_bel Nbt.out hb)
    exact ⟨ybs0, ybs1, ybs2, ybx0, ybx1, ybo0, ybo1, ybt0, ybt1, ybt2⟩
  clear xbs0 xbs1 xbs2 xbx0 xbx1 xbo0 xbo1 xbt0 xbt1 xbt2
  clear hV15
  refine wp_region_held_drew (S := fun W => W.cell? ⟨w.heap.size, 0, none⟩ = some (.bool false) ∧ W.cell? ⟨w.heap.size, 1, none⟩ = some (.slice a0 s.vs.length c0) ∧ W.cell? ⟨w.heap.size, 2, none⟩ = some (.slice b0 s.ls.length d0) ∧ W.cell? ⟨V1.heap.size, 0, none⟩ = some (.string n) ∧ W.cell? ⟨V1.heap.size, 1, none⟩ = some (.int .i64 k) ∧ W.cell? ⟨V3.heap.size, 0, none⟩ = some (.slice a5 o.fs.length c5) ∧ W.cell? ⟨V3.heap.size, 1, none⟩ = some (.slice b5 o.pr.length d5) ∧ W.cell? ⟨w14.heap.size, 0, none⟩ = some (.bool t.dead) ∧ W.cell? ⟨w14.heap.size, 1, none⟩ = some (.slice qa t.vs.length qc) ∧ W.cell? ⟨w14.heap.size, 2, none⟩ = some (.slice qb t.ls.length qd)) (by kernel_rfl) (KH.out _ (Below.refl _ _).drew) (fun hHeld => ?_)
  have hbd : Below V15.heap.size V15 V15.drew := (Gr.refl _).drew.below
  have RB0 := hid hbd
  have B17 := hid (B16.out.trans (hbd.mono B16.out.size))
  have Fs17 := hid (Fs16.out.bel hbd)
  have Fo17 := hid (Fo16.out.bel hbd)
  have Fbs17 := hid (bx_bel Fbs16.out hbd)
  have Fbx17 := hid (bx_bel Fbx16.out hbd)
  have Fbo17 := hid (bx_bel Fbo16.out hbd)
  have Ft17 := hid (Ft16.out.bel hbd)
  have Fbt17 := hid (bx_bel Nbt.out hbd)
  clear B16 Fs16 Fo16 Fbs16 Fbx16 Fbo16 Ft16 Nbt
  clear hbd
  refine tk 0 ⟨some 54, .load 25 (.tmp 7), 25, "law.go:63", #[], none⟩ (v := ?_) hHeld ?_ ?_
  rotate_left
  · intro w hSw; (try dsimp only at hSw); go_simp; (try with_reducible rfl)
  simp only [Act.put, List.setIfInBounds_toArray, List.set_cons_zero, List.set_cons_succ]
  refine tk 1 ⟨some 55, .fieldAddr 27 (.tmp 4) 1, 0, "law.go:63", #[], none⟩ (v := ?_) hHeld ?_ ?_
  rotate_left
  · intro w hSw; (try dsimp only at hSw); go_simp; (try with_reducible rfl)
  simp only [Act.put, List.setIfInBounds_toArray, List.set_cons_zero, List.set_cons_succ]
  refine tk 2 ⟨some 56, .load 3 (.tmp 55), 3, "law.go:63", #[⟨1, .data⟩], none⟩ (v := ?_) hHeld ?_ ?_
  rotate_left
  · intro w hSw; (try dsimp only at hSw); go_simp; (try with_reducible rfl)
  simp only [Act.put, List.setIfInBounds_toArray, List.set_cons_zero, List.set_cons_succ]
  refine wpAnyH_ready (rs := [3]) (by kernel_rfl) (by simp) ?_
  refine AllReadyH.cons (o := ⟨some 57, .call { callee := .value (.func 18), args := #[.tmp 56], argTypes := #[3] }, 34, "law.go:63", #[⟨2, .data⟩], none⟩) rfl (fun K hK => ?_) AllReadyH.nil
  go_simp
  refine (recv_any k V15.drew).mono ?_
  rintro e z18 ⟨rfl, hb⟩
  have B18 := hid (B17.out.trans (hb.mono B17.out.size))
  have Fs18 := hid (Fs17.out.bel hb)
  have Fo18 := hid (Fo17.out.bel hb)
  have Fbs18 := hid (bx_bel Fbs17.out hb)
  have Fbx18 := hid (bx_bel Fbx17.out hb)
  have Fbo18 := hid (bx_bel Fbo17.out hb)
  have Ft18 := hid (Ft17.out.bel hb)
  have Fbt18 := hid (bx_bel Fbt17.out hb)
  have RB18 := hid (RB0.out.trans (hb.mono RB0.out.size))
  clear B17 Fs17 Fo17 Fbs17 Fbx17 Fbo17 Ft17 Fbt17 RB0
  clear hb
  refine hK.out _ _ (KH.out _ RB18.out) (fun hHeld => ?_)
  refine wpAnyH_ready (rs := [4]) (by kernel_rfl) (by simp) ?_
  refine AllReadyH.cons (o := ⟨some 58, .call { callee := .value (.func 17), args := #[.tmp 54, .tmp 57], argTypes := #[25, 34] }, 4, "law.go:63", #[⟨0, .data⟩, ⟨3, .data⟩, ⟨3, .chain⟩], none⟩) rfl (fun K hK => ?_) AllReadyH.nil
  go_simp
  refine (speaks_any z18 _ t ⟨4, k⟩ Ft18.out (M.smSt_mono Z.out.kt (by decide))).mono ?_
  rw [Z.out.spk]
  rintro e z19 ⟨rfl, hb⟩
  have B19 := hid (B18.out.trans (hb.mono B18.out.size))
  have Fs19 := hid (Fs18.out.bel hb)
  have Fo19 := hid (Fo18.out.bel hb)
  have Fbs19 := hid (bx_bel Fbs18.out hb)
  have Fbx19 := hid (bx_bel Fbx18.out hb)
  have Fbo19 := hid (bx_bel Fbo18.out hb)
  have Ft19 := hid (Ft18.out.bel hb)
  have Fbt19 := hid (bx_bel Fbt18.out hb)
  have RB19 := hid (RB18.out.trans (hb.mono RB18.out.size))
  clear B18 Fs18 Fo18 Fbs18 Fbx18 Fbo18 Ft18 Fbt18 RB18
  clear hb
  refine hK.out _ _ (KH.out _ RB19.out) (fun hHeld => ?_)
  refine tk 5 ⟨some 59, .move (.tmp 58), 4, "law.go:63", #[⟨4, .data⟩, ⟨4, .chain⟩], none⟩ (v := ?_) hHeld ?_ ?_
  rotate_left
  · intro w hSw; (try dsimp only at hSw); go_simp; (try with_reducible rfl)
  simp only [Act.put, List.setIfInBounds_toArray, List.set_cons_zero, List.set_cons_succ]
  refine tk 6 ⟨some 60, .load 25 (.tmp 7), 25, "law.go:63", #[⟨5, .guard⟩], some (5, false)⟩ (v := ?_) hHeld ?_ ?_
  rotate_left
  · intro w hSw; (try dsimp only at hSw); go_simp; (try with_reducible rfl)
  simp only [Act.put, List.setIfInBounds_toArray, List.set_cons_zero, List.set_cons_succ]
  refine tk 7 ⟨some 61, .fieldAddr 27 (.tmp 4) 1, 0, "law.go:63", #[⟨5, .guard⟩], some (5, false)⟩ (v := ?_) hHeld ?_ ?_
  rotate_left
  · intro w hSw; (try dsimp only at hSw); go_simp; (try with_reducible rfl)
  simp only [Act.put, List.setIfInBounds_toArray, List.set_cons_zero, List.set_cons_succ]
  refine tk 8 ⟨some 62, .load 3 (.tmp 61), 3, "law.go:63", #[⟨7, .data⟩, ⟨5, .guard⟩], some (5, false)⟩ (v := ?_) hHeld ?_ ?_
  rotate_left
  · intro w hSw; (try dsimp only at hSw); go_simp; (try with_reducible rfl)
  simp only [Act.put, List.setIfInBounds_toArray, List.set_cons_zero, List.set_cons_succ]
  refine tk 10 ⟨some 64, .load 25 (.tmp 7), 25, "law.go:63", #[⟨5, .guard⟩], some (5, false)⟩ (v := ?_) hHeld ?_ ?_
  rotate_left
  · intro w hSw; (try dsimp only at hSw); go_simp; (try with_reducible rfl)
  simp only [Act.put, List.setIfInBounds_toArray, List.set_cons_zero, List.set_cons_succ]
  refine wpAnyH_ready (rs := [9]) (by kernel_rfl) (by simp) ?_
  refine AllReadyH.cons (o := ⟨some 63, .call { callee := .value (.func 11), args := #[.tmp 60, .tmp 62], argTypes := #[25, 3] }, 25, "law.go:63", #[⟨6, .data⟩, ⟨8, .data⟩, ⟨5, .chain⟩, ⟨5, .guard⟩], some (5, false)⟩) rfl (fun K hK => ?_) AllReadyH.nil
  go_simp
  refine (age_ok z19 _ t t k Ft19.out HK.out NK.out (M.smSt_mono Z.out.kt (by decide)) Z.out.mt Z.out.again).mono ?_
  rintro e z20 ⟨pa, pc, pb, pd, rfl, hF, hb⟩
  have B20 := hid (B19.out.trans (hb.mono B19.out.size))
  have Fs20 := hid (Fs19.out.bel hb)
  have Fo20 := hid (Fo19.out.bel hb)
  have Fbs20 := hid (bx_bel Fbs19.out hb)
  have Fbx20 := hid (bx_bel Fbx19.out hb)
  have Fbo20 := hid (bx_bel Fbo19.out hb)
  have Ft20 := hid (Ft19.out.bel hb)
  have Fbt20 := hid (bx_bel Fbt19.out hb)
  have RB20 := hid (RB19.out.trans (hb.mono RB19.out.size))
  clear B19 Fs19 Fo19 Fbs19 Fbx19 Fbo19 Ft19 Fbt19 RB19
  have Fv20 := hid hF
  clear hF
  clear hb
  refine hK.out _ _ (KH.out _ RB20.out) (fun hHeld => ?_)
  refine wpAnyH_ready (rs := [11]) (by kernel_rfl) (by simp) ?_
  refine AllReadyH.cons (o := ⟨some 65, .call { callee := .value (.func 10), args := #[.tmp 63, .tmp 64], argTypes := #[25, 25] }, 4, "law.go:63", #[⟨9, .data⟩, ⟨10, .data⟩, ⟨9, .chain⟩, ⟨5, .guard⟩], some (5, false)⟩) rfl (fun K hK => ?_) AllReadyH.nil
  go_simp
  refine (rsameSt_any z20 _ _ t t Fv20.out Ft20.out (M.smSt_mono Z.out.kt (by decide))).mono ?_
  rw [Z.out.same]
  rintro e z21 ⟨rfl, hb⟩
  have B21 := hid (B20.out.trans (hb.mono B20.out.size))
  have Fs21 := hid (Fs20.out.bel hb)
  have Fo21 := hid (Fo20.out.bel hb)
  have Fbs21 := hid (bx_bel Fbs20.out hb)
  have Fbx21 := hid (bx_bel Fbx20.out hb)
  have Fbo21 := hid (bx_bel Fbo20.out hb)
  have Ft21 := hid (Ft20.out.bel hb)
  have Fbt21 := hid (bx_bel Fbt20.out hb)
  have Fv21 := hid (Fv20.out.bel hb)
  have RB21 := hid (RB20.out.trans (hb.mono RB20.out.size))
  clear B20 Fs20 Fo20 Fbs20 Fbx20 Fbo20 Ft20 Fbt20 Fv20 RB20
  clear hb
  refine hK.out _ _ (KH.out _ RB21.out) (fun hHeld => ?_)
  refine tk 12 ⟨some 66, .unOp .not 4 (.tmp 65), 4, "law.go:63", #[⟨11, .data⟩, ⟨5, .guard⟩], some (5, false)⟩ (v := ?_) hHeld ?_ ?_
  rotate_left
  · intro w hSw; (try dsimp only at hSw); go_simp; (try with_reducible rfl)
  simp only [Act.put, List.setIfInBounds_toArray, List.set_cons_zero, List.set_cons_succ]
  refine tk 13 ⟨some 67, .pick (.tmp 59) (.const (.bool true)) (.tmp 66), 4, "law.go:63", #[⟨5, .data⟩, ⟨12, .data⟩], none⟩ (v := ?_) hHeld ?_ ?_
  rotate_left
  · intro w hSw; (try dsimp only at hSw); go_simp; (try with_reducible rfl)
  simp only [Act.put, List.setIfInBounds_toArray, List.set_cons_zero, List.set_cons_succ]
  refine tk 14 ⟨some 68, .move (.tmp 67), 4, "law.go:63", #[⟨13, .data⟩, ⟨11, .chain⟩], none⟩ (v := ?_) hHeld ?_ ?_
  rotate_left
  · intro w hSw; (try dsimp only at hSw); go_simp; (try with_reducible rfl)
  simp only [Act.put, List.setIfInBounds_toArray, List.set_cons_zero, List.set_cons_succ]
  refine tk 15 ⟨some 69, .load 25 (.tmp 7), 25, "law.go:63", #[⟨14, .guard⟩], some (14, false)⟩ (v := ?_) hHeld ?_ ?_
  rotate_left
  · intro w hSw; (try dsimp only at hSw); go_simp; (try with_reducible rfl)
  simp only [Act.put, List.setIfInBounds_toArray, List.set_cons_zero, List.set_cons_succ]
  refine wpAnyH_ready (rs := [16]) (by kernel_rfl) (by simp) ?_
  refine AllReadyH.cons (o := ⟨some 70, .call { callee := .value (.func 15), args := #[.tmp 69], argTypes := #[25] }, 4, "law.go:63", #[⟨15, .data⟩, ⟨14, .chain⟩, ⟨14, .guard⟩], some (14, false)⟩) rfl (fun K hK => ?_) AllReadyH.nil
  go_simp
  refine (rmaySt_any z21 _ t Ft21.out (M.smSt_mono Z.out.kt (by decide))).mono ?_
  rw [Z.out.mt]
  rintro e z22 ⟨rfl, hb⟩
  have B22 := hid (B21.out.trans (hb.mono B21.out.size))
  have Fs22 := hid (Fs21.out.bel hb)
  have Fo22 := hid (Fo21.out.bel hb)
  have Fbs22 := hid (bx_bel Fbs21.out hb)
  have Fbx22 := hid (bx_bel Fbx21.out hb)
  have Fbo22 := hid (bx_bel Fbo21.out hb)
  have Ft22 := hid (Ft21.out.bel hb)
  have Fbt22 := hid (bx_bel Fbt21.out hb)
  have RB22 := hid (RB21.out.trans (hb.mono RB21.out.size))
  clear B21 Fs21 Fo21 Fbs21 Fbx21 Fbo21 Ft21 Fbt21 RB21
  clear hb
  refine hK.out _ _ (KH.out _ RB22.out) (fun hHeld => ?_)
  refine tk 17 ⟨some 71, .unOp .not 4 (.tmp 70), 4, "law.go:63", #[⟨16, .data⟩, ⟨14, .guard⟩], some (14, false)⟩ (v := ?_) hHeld ?_ ?_
  rotate_left
  · intro w hSw; (try dsimp only at hSw); go_simp; (try with_reducible rfl)
  simp only [Act.put, List.setIfInBounds_toArray, List.set_cons_zero, List.set_cons_succ]
  refine tk 18 ⟨some 72, .pick (.tmp 68) (.const (.bool true)) (.tmp 71), 4, "law.go:63", #[⟨14, .data⟩, ⟨17, .data⟩], none⟩ (v := ?_) hHeld ?_ ?_
  rotate_left
  · intro w hSw; (try dsimp only at hSw); go_simp; (try with_reducible rfl)
  simp only [Act.put, List.setIfInBounds_toArray, List.set_cons_zero, List.set_cons_succ]
  refine wpAnyH_done (by kernel_rfl) ?_ _
  clear hHeld KH
  clear RB22
  clear Ft22
  clear Fbt22
  obtain ⟨xbs0, xbs1, xbs2, _⟩ := cells3 Fbs22.out
  obtain ⟨xbx0, xbx1, _⟩ := cells2 Fbx22.out
  obtain ⟨xbo0, xbo1, _⟩ := cells2 Fbo22.out
  go_wp2_with (first | (go_at_call 13; refine stopHere ?_))
  refine stopAt ?_
  refine (dalloc_ok z22 _ s u n k _ o Fs22.out Fo22.out HK.out NK.out K1.out K2.out Hm.out Hmo.out Z.out.eu).mono ?_
  rintro e w23 ⟨ua, uc, ub, ud, rfl, hF, hb⟩
  have B23 := hid (B22.out.trans (hb.mono B22.out.size))
  have Fs23 := hid (Fs22.out.bel hb)
  have Fo23 := hid (Fo22.out.bel hb)
  have Fbs23 := hid (bx_bel Fbs22.out hb)
  have Fbx23 := hid (bx_bel Fbx22.out hb)
  have Fbo23 := hid (bx_bel Fbo22.out hb)
  clear B22 Fs22 Fo22 Fbs22 Fbx22 Fbo22
  have Fu23 := hid hF
  clear hF
  clear hb xbs0 xbs1 xbs2 xbx0 xbx1 xbo0 xbo1
  obtain ⟨V24, hV24⟩ : ∃ W, w23.alloc (.cells #[.bool u.dead, .slice ua u.vs.length uc, .slice ub u.ls.length ud] 25) = W := ⟨_, rfl⟩
  have hbx : Below w23.heap.size w23 V24 := by rw [← hV24]; exact (gr_new _ _).below
  have Nbu : Hid (V24.heap[w23.heap.size]? = some (.cells #[.bool u.dead, .slice ua u.vs.length uc, .slice ub u.ls.length ud] 25 (0, 0))) := by unfold Hid; rw [← hV24]; exact new_at _ _
  have B25 := hid (B23.out.trans (hbx.mono B23.out.size))
  have Fs25 := hid (Fs23.out.bel hbx)
  have Fo25 := hid (Fo23.out.bel hbx)
  have Fbs25 := hid (bx_bel Fbs23.out hbx)
  have Fbx25 := hid (bx_bel Fbx23.out hbx)
  have Fbo25 := hid (bx_bel Fbo23.out hbx)
  have Fu25 := hid (Fu23.out.bel hbx)
  clear B23 Fs23 Fo23 Fbs23 Fbx23 Fbo23 Fu23
  clear hbx
  obtain ⟨B, L, hsL, hnB, hmL, hB, hL⟩ := StAt.parts Fu25.out
  have HBV : Hid (bndOf B = u.vs) := by unfold Hid; rw [hsL]
  have HLL : Hid (lclOf L = u.ls) := by unfold Hid; rw [hsL]
  have NB : Hid (B.length = u.vs.length) := hnB.symm
  have NL : Hid (L.length = u.ls.length) := hmL.symm
  have TB := hid hB
  have TL := hid hL
  clear hsL hnB hmL hB hL
  clear Fs25 Fbs25
  go_wp2
  clear hV24
  go_loopw [9] (fun i w' => ∃ j : Nat, j ≤ u.vs.length ∧ i = .int .i64 j ∧ Hid (Below V24.heap.size V24 w')) (fun i _ => u.vs.length - (intOf i).toNat)
  case atStart => exact ⟨0, Nat.zero_le _, rfl, Below.refl _ _⟩
  case round =>
    obtain ⟨j0, hj0, rfl, hbel0⟩ := hrel
    have BB0 := hid (B25.out.trans (hbel0.out.mono B25.out.size))
    have Go0 := hid (Fo25.out.bel hbel0.out)
    have Gbx0 := hid (bx_bel Fbx25.out hbel0.out)
    have Gbo0 := hid (bx_bel Fbo25.out hbel0.out)
    have Gu0 := hid (Fu25.out.bel hbel0.out)
    have Gbu0 := hid (bx_bel Nbu.out hbel0.out)
    have GB0 := hid (TB.out.bel hbel0.out)
    have GL0 := hid (TL.out.bel hbel0.out)
    have LW0 : Hid (LowB V24 wr) := hbel0.out
    have HN0 : u.vs.length ≤ 200 := Z.out.ku.vl
    by_cases hjl0 : j0 < u.vs.length
    · have hjB : j0 < B.length := by have := NB.out; omega
      obtain ⟨b1, o1, rfl, hlt, hc⟩ := Bs_some GB0.out hjB
      obtain ⟨c1, c2⟩ := hc j0 hjB
      have HX := hid (GB0.out.2 _ (List.getElem_mem hjB))
      have HMEM : Hid (B[j0].p ∈ u.vs) := by unfold Hid; rw [← HBV.out]; exact List.mem_map.2 ⟨_, List.getElem_mem hjB, rfl⟩
      obtain ⟨y, hy⟩ : ∃ y, B[j0] = y := ⟨_, rfl⟩
      rw [hy] at c1 c2 HX HMEM
      obtain ⟨yn, yv, ya, yc⟩ := y
      have HA : Hid (AtAt wr (.slice ya yv.length yc) yv) := HX.out
      have QD : Hid (Duo wr b1 (o1 + j0 * 2) yn ya yv.length yc) := ⟨hlt, c1, c2⟩
      have HH : Hid (M.has yv ⟨4, k⟩ = decide (yn = n)) := Z.out.hv _ HMEM.out
      have HYL : Hid (yv.length ≤ 1048576) := Nat.le_trans (Z.out.ku.vv _ HMEM.out) (by decide)
      clear hc hy HX HMEM c1 c2 hlt
      by_cases hyn : yn = n
      · as_aux_lemma =>
          have hd : (yn.toList == n.toList) = true := by rw [same_name]; exact decide_eq_true hyn
          have HHB : Hid (M.has yv ⟨4, k⟩ = true) := by unfold Hid; rw [HH.out]; exact decide_eq_true hyn
          obtain ⟨xbx0, xbx1, _⟩ := cells2 Gbx0.out
          obtain ⟨xbo0, xbo1, _⟩ := cells2 Gbo0.out
          obtain ⟨xbu0, xbu1, xbu2, _⟩ := cells3 Gbu0.out
          obtain ⟨td0, td1⟩ := QD.out.2
          go_wp2_with fail
          have KH : Hid (∀ W, Below wr.heap.size wr W → (W.cell? ⟨V1.heap.size, 0, none⟩ = some (.string n) ∧ W.cell? ⟨V1.heap.size, 1, none⟩ = some (.int .i64 k) ∧ W.cell? ⟨V3.heap.size, 0, none⟩ = some (.slice a5 o.fs.length c5) ∧ W.cell? ⟨V3.heap.size, 1, none⟩ = some (.slice b5 o.pr.length d5) ∧ W.cell? ⟨w23.heap.size, 0, none⟩ = some (.bool u.dead) ∧ W.cell? ⟨w23.heap.size, 1, none⟩ = some (.slice (some ⟨b1, o1, none⟩) u.vs.length uc) ∧ W.cell? ⟨w23.heap.size, 2, none⟩ = some (.slice ub u.ls.length ud) ∧ W.cell? ⟨b1, o1 + j0 * 2, none⟩ = some (.string yn) ∧ W.cell? ⟨b1, o1 + j0 * 2 + 1, none⟩ = some (.slice ya yv.length yc))) := fun W hb => by
            obtain ⟨ybx0, ybx1, _⟩ := cells2 (bx_bel Gbx0.out hb)
            obtain ⟨ybo0, ybo1, _⟩ := cells2 (bx_bel Gbo0.out hb)
            obtain ⟨ybu0, ybu1, ybu2, _⟩ := cells3 (bx_bel Gbu0.out hb)
            obtain ⟨rd0, rd1⟩ := (QD.out.bel hb).2
            exact ⟨ybx0, ybx1, ybo0, ybo1, ybu0, ybu1, ybu2, rd0, rd1⟩
          clear xbx0 xbx1 xbo0 xbo1 xbu0 xbu1 xbu2 td0 td1
          refine wp_region_held_drew (S := fun W => W.cell? ⟨V1.heap.size, 0, none⟩ = some (.string n) ∧ W.cell? ⟨V1.heap.size, 1, none⟩ = some (.int .i64 k) ∧ W.cell? ⟨V3.heap.size, 0, none⟩ = some (.slice a5 o.fs.length c5) ∧ W.cell? ⟨V3.heap.size, 1, none⟩ = some (.slice b5 o.pr.length d5) ∧ W.cell? ⟨w23.heap.size, 0, none⟩ = some (.bool u.dead) ∧ W.cell? ⟨w23.heap.size, 1, none⟩ = some (.slice (some ⟨b1, o1, none⟩) u.vs.length uc) ∧ W.cell? ⟨w23.heap.size, 2, none⟩ = some (.slice ub u.ls.length ud) ∧ W.cell? ⟨b1, o1 + j0 * 2, none⟩ = some (.string yn) ∧ W.cell? ⟨b1, o1 + j0 * 2 + 1, none⟩ = some (.slice ya yv.length yc)) (by kernel_rfl) (KH.out _ (Below.refl _ _).drew) (fun hHeld => ?_)
          have hbd : Below wr.heap.size wr wr.drew := (Gr.refl _).drew.below
          have RB0 := hid hbd
          have B26 := hid (BB0.out.trans (hbd.mono BB0.out.size))
          have Fo26 := hid (Go0.out.bel hbd)
          have Fbx26 := hid (bx_bel Gbx0.out hbd)
          have Fbo26 := hid (bx_bel Gbo0.out hbd)
          have Fu26 := hid (Gu0.out.bel hbd)
          have Fbu26 := hid (bx_bel Gbu0.out hbd)
          have FB26 := hid (GB0.out.bel hbd)
          have FL26 := hid (GL0.out.bel hbd)
          have Flow026 := hid (LW0.out.bel hbd)
          have Fy26 := hid (HA.out.bel hbd)
          have Fd26 := hid (QD.out.bel hbd)
          clear BB0 Go0 Gbx0 Gbo0 Gu0 Gbu0 GB0 GL0 LW0 HA QD
          clear hbd
          refine tk 0 ⟨some 87, .fieldAddr 25 (.tmp 8) 1, 0, "law.go:68", #[], none⟩ (v := ?_) hHeld ?_ ?_
          rotate_left
          · intro w hSw; (try dsimp only at hSw); go_simp; (try with_reducible rfl)
          simp only [Act.put, List.setIfInBounds_toArray, List.set_cons_zero, List.set_cons_succ]
          refine tk 1 ⟨some 88, .load 22 (.tmp 87), 22, "law.go:68", #[⟨0, .data⟩], none⟩ (v := ?_) hHeld ?_ ?_
          rotate_left
          · intro w hSw; (try dsimp only at hSw); go_simp; (try with_reducible rfl)
          simp only [Act.put, List.setIfInBounds_toArray, List.set_cons_zero, List.set_cons_succ]
          refine tk 2 ⟨some 89, .move (.tmp 9), 3, "law.go:68", #[], none⟩ (v := ?_) hHeld ?_ ?_
          rotate_left
          · intro w hSw; (try dsimp only at hSw); go_simp; (try with_reducible rfl)
          simp only [Act.put, List.setIfInBounds_toArray, List.set_cons_zero, List.set_cons_succ]
          refine tk 3 ⟨some 90, .indexAddr 22 (.tmp 88) (.tmp 89), 0, "law.go:68", #[⟨1, .data⟩, ⟨2, .data⟩], none⟩ (v := ?_) hHeld ?_ ?_
          rotate_left
          · intro w hSw; (try dsimp only at hSw); go_simp; (try with_reducible rfl)
          simp only [Act.put, List.setIfInBounds_toArray, List.set_cons_zero, List.set_cons_succ]
          refine tk 4 ⟨some 91, .fieldAddr 47 (.tmp 90) 1, 0, "law.go:68", #[⟨3, .data⟩], none⟩ (v := ?_) hHeld ?_ ?_
          rotate_left
          · intro w hSw; (try dsimp only at hSw); go_simp; (try with_reducible rfl)
          simp only [Act.put, List.setIfInBounds_toArray, List.set_cons_zero, List.set_cons_succ]
          refine tk 5 ⟨some 92, .load 29 (.tmp 91), 29, "law.go:68", #[⟨4, .data⟩], none⟩ (v := ?_) hHeld ?_ ?_
          rotate_left
          · intro w hSw; (try dsimp only at hSw); go_simp; (try with_reducible rfl)
          simp only [Act.put, List.setIfInBounds_toArray, List.set_cons_zero, List.set_cons_succ]
          refine tk 6 ⟨some 93, .fieldAddr 27 (.tmp 4) 1, 0, "law.go:68", #[], none⟩ (v := ?_) hHeld ?_ ?_
          rotate_left
          · intro w hSw; (try dsimp only at hSw); go_simp; (try with_reducible rfl)
          simp only [Act.put, List.setIfInBounds_toArray, List.set_cons_zero, List.set_cons_succ]
          refine tk 7 ⟨some 94, .load 3 (.tmp 93), 3, "law.go:68", #[⟨6, .data⟩], none⟩ (v := ?_) hHeld ?_ ?_
          rotate_left
          · intro w hSw; (try dsimp only at hSw); go_simp; (try with_reducible rfl)
          simp only [Act.put, List.setIfInBounds_toArray, List.set_cons_zero, List.set_cons_succ]
          refine tk 10 ⟨some 97, .fieldAddr 25 (.tmp 8) 1, 0, "law.go:68", #[], none⟩ (v := ?_) hHeld ?_ ?_
          rotate_left
          · intro w hSw; (try dsimp only at hSw); go_simp; (try with_reducible rfl)
          simp only [Act.put, List.setIfInBounds_toArray, List.set_cons_zero, List.set_cons_succ]
          refine tk 11 ⟨some 98, .load 22 (.tmp 97), 22, "law.go:68", #[⟨10, .data⟩], none⟩ (v := ?_) hHeld ?_ ?_
          rotate_left
          · intro w hSw; (try dsimp only at hSw); go_simp; (try with_reducible rfl)
          simp only [Act.put, List.setIfInBounds_toArray, List.set_cons_zero, List.set_cons_succ]
          refine tk 12 ⟨some 99, .move (.tmp 9), 3, "law.go:68", #[], none⟩ (v := ?_) hHeld ?_ ?_
          rotate_left
          · intro w hSw; (try dsimp only at hSw); go_simp; (try with_reducible rfl)
          simp only [Act.put, List.setIfInBounds_toArray, List.set_cons_zero, List.set_cons_succ]
          refine tk 13 ⟨some 100, .indexAddr 22 (.tmp 98) (.tmp 99), 0, "law.go:68", #[⟨11, .data⟩, ⟨12, .data⟩], none⟩ (v := ?_) hHeld ?_ ?_
          rotate_left
          · intro w hSw; (try dsimp only at hSw); go_simp; (try with_reducible rfl)
          simp only [Act.put, List.setIfInBounds_toArray, List.set_cons_zero, List.set_cons_succ]
          refine tk 14 ⟨some 101, .fieldAddr 47 (.tmp 100) 0, 0, "law.go:68", #[⟨13, .data⟩], none⟩ (v := ?_) hHeld ?_ ?_
          rotate_left
          · intro w hSw; (try dsimp only at hSw); go_simp; (try with_reducible rfl)
          simp only [Act.put, List.setIfInBounds_toArray, List.set_cons_zero, List.set_cons_succ]
          refine tk 15 ⟨some 102, .load 9 (.tmp 101), 9, "law.go:68", #[⟨14, .data⟩], none⟩ (v := ?_) hHeld ?_ ?_
          rotate_left
          · intro w hSw; (try dsimp only at hSw); go_simp; (try with_reducible rfl)
          simp only [Act.put, List.setIfInBounds_toArray, List.set_cons_zero, List.set_cons_succ]
          refine tk 16 ⟨some 103, .fieldAddr 27 (.tmp 4) 0, 0, "law.go:68", #[], none⟩ (v := ?_) hHeld ?_ ?_
          rotate_left
          · intro w hSw; (try dsimp only at hSw); go_simp; (try with_reducible rfl)
          simp only [Act.put, List.setIfInBounds_toArray, List.set_cons_zero, List.set_cons_succ]
          refine tk 17 ⟨some 104, .load 9 (.tmp 103), 9, "law.go:68", #[⟨16, .data⟩], none⟩ (v := ?_) hHeld ?_ ?_
          rotate_left
          · intro w hSw; (try dsimp only at hSw); go_simp; (try with_reducible rfl)
          simp only [Act.put, List.setIfInBounds_toArray, List.set_cons_zero, List.set_cons_succ]
          refine tk 18 ⟨some 105, .binOp .eql 9 (.tmp 102) (.tmp 104) 9, 4, "law.go:68", #[⟨15, .data⟩, ⟨17, .data⟩], none⟩ (v := ?_) hHeld ?_ ?_
          rotate_left
          · intro w hSw; (try dsimp only at hSw); go_simp; (try with_reducible rfl)
          simp only [Act.put, List.setIfInBounds_toArray, List.set_cons_zero, List.set_cons_succ]
          refine wpAnyH_ready (rs := [8]) (by kernel_rfl) (by simp) ?_
          refine AllReadyH.cons (o := ⟨some 95, .call { callee := .value (.func 18), args := #[.tmp 94], argTypes := #[3] }, 34, "law.go:68", #[⟨7, .data⟩], none⟩) rfl (fun K hK => ?_) AllReadyH.nil
          go_simp
          refine (recv_any k wr.drew).mono ?_
          rintro e z27 ⟨rfl, hb⟩
          have B27 := hid (B26.out.trans (hb.mono B26.out.size))
          have Fo27 := hid (Fo26.out.bel hb)
          have Fbx27 := hid (bx_bel Fbx26.out hb)
          have Fbo27 := hid (bx_bel Fbo26.out hb)
          have Fu27 := hid (Fu26.out.bel hb)
          have Fbu27 := hid (bx_bel Fbu26.out hb)
          have FB27 := hid (FB26.out.bel hb)
          have FL27 := hid (FL26.out.bel hb)
          have Flow027 := hid (Flow026.out.bel hb)
          have Fy27 := hid (Fy26.out.bel hb)
          have Fd27 := hid (Fd26.out.bel hb)
          have RB27 := hid (RB0.out.trans (hb.mono RB0.out.size))
          clear B26 Fo26 Fbx26 Fbo26 Fu26 Fbu26 FB26 FL26 Flow026 Fy26 Fd26 RB0
          clear hb
          refine hK.out _ _ (KH.out _ RB27.out) (fun hHeld => ?_)
          refine wpAnyH_ready (rs := [9]) (by kernel_rfl) (by simp) ?_
          refine AllReadyH.cons (o := ⟨some 96, .call { callee := .value (.func 19), args := #[.tmp 92, .tmp 95], argTypes := #[29, 34] }, 4, "law.go:68", #[⟨5, .data⟩, ⟨8, .data⟩, ⟨8, .chain⟩], none⟩) rfl (fun K hK => ?_) AllReadyH.nil
          go_simp
          refine (gr_bel (rhas_any z27 _ yv ⟨4, k⟩ Fy27.out HYL.out)).mono ?_
          rw [HHB.out]
          rintro e z28 ⟨rfl, hb⟩
          have B28 := hid (B27.out.trans (hb.mono B27.out.size))
          have Fo28 := hid (Fo27.out.bel hb)
          have Fbx28 := hid (bx_bel Fbx27.out hb)
          have Fbo28 := hid (bx_bel Fbo27.out hb)
          have Fu28 := hid (Fu27.out.bel hb)
          have Fbu28 := hid (bx_bel Fbu27.out hb)
          have FB28 := hid (FB27.out.bel hb)
          have FL28 := hid (FL27.out.bel hb)
          have Flow028 := hid (Flow027.out.bel hb)
          have Fy28 := hid (Fy27.out.bel hb)
          have Fd28 := hid (Fd27.out.bel hb)
          have RB28 := hid (RB27.out.trans (hb.mono RB27.out.size))
          clear B27 Fo27 Fbx27 Fbo27 Fu27 Fbu27 FB27 FL27 Flow027 Fy27 Fd27 RB27
          clear hb
          refine hK.out _ _ (KH.out _ RB28.out) (fun hHeld => ?_)
          refine tk 19 ⟨some 106, .binOp .neq 4 (.tmp 96) (.tmp 105) 4, 4, "law.go:68", #[⟨9, .data⟩, ⟨18, .data⟩], none⟩ (v := ?_) hHeld ?_ ?_
          rotate_left
          · intro w hSw; (try dsimp only at hSw); go_simp; (try with_reducible rfl)
          simp only [Act.put, List.setIfInBounds_toArray, List.set_cons_zero, List.set_cons_succ]
          refine wpAnyH_done (by kernel_rfl) ?_ _
          clear hHeld KH
          clear RB28
          go_wp2
          exact ⟨⟨j0 + 1, by omega, by go_num, hid Flow028.out⟩, by simp [intOf]; omega⟩
      · as_aux_lemma =>
          have hd : (yn.toList == n.toList) = false := by rw [same_name]; exact decide_eq_false hyn
          have HHB : Hid (M.has yv ⟨4, k⟩ = false) := by unfold Hid; rw [HH.out]; exact decide_eq_false hyn
          obtain ⟨xbx0, xbx1, _⟩ := cells2 Gbx0.out
          obtain ⟨xbo0, xbo1, _⟩ := cells2 Gbo0.out
          obtain ⟨xbu0, xbu1, xbu2, _⟩ := cells3 Gbu0.out
          obtain ⟨td0, td1⟩ := QD.out.2
          go_wp2_with fail
          have KH : Hid (∀ W, Below wr.heap.size wr W → (W.cell? ⟨V1.heap.size, 0, none⟩ = some (.string n) ∧ W.cell? ⟨V1.heap.size, 1, none⟩ = some (.int .i64 k) ∧ W.cell? ⟨V3.heap.size, 0, none⟩ = some (.slice a5 o.fs.length c5) ∧ W.cell? ⟨V3.heap.size, 1, none⟩ = some (.slice b5 o.pr.length d5) ∧ W.cell? ⟨w23.heap.size, 0, none⟩ = some (.bool u.dead) ∧ W.cell? ⟨w23.heap.size, 1, none⟩ = some (.slice (some ⟨b1, o1, none⟩) u.vs.length uc) ∧ W.cell? ⟨w23.heap.size, 2, none⟩ = some (.slice ub u.ls.length ud) ∧ W.cell? ⟨b1, o1 + j0 * 2, none⟩ = some (.string yn) ∧ W.cell? ⟨b1, o1 + j0 * 2 + 1, none⟩ = some (.slice ya yv.length yc))) := fun W hb => by
            obtain ⟨ybx0, ybx1, _⟩ := cells2 (bx_bel Gbx0.out hb)
            obtain ⟨ybo0, ybo1, _⟩ := cells2 (bx_bel Gbo0.out hb)
            obtain ⟨ybu0, ybu1, ybu2, _⟩ := cells3 (bx_bel Gbu0.out hb)
            obtain ⟨rd0, rd1⟩ := (QD.out.bel hb).2
            exact ⟨ybx0, ybx1, ybo0, ybo1, ybu0, ybu1, ybu2, rd0, rd1⟩
          clear xbx0 xbx1 xbo0 xbo1 xbu0 xbu1 xbu2 td0 td1
          refine wp_region_held_drew (S := fun W => W.cell? ⟨V1.heap.size, 0, none⟩ = some (.string n) ∧ W.cell? ⟨V1.heap.size, 1, none⟩ = some (.int .i64 k) ∧ W.cell? ⟨V3.heap.size, 0, none⟩ = some (.slice a5 o.fs.length c5) ∧ W.cell? ⟨V3.heap.size, 1, none⟩ = some (.slice b5 o.pr.length d5) ∧ W.cell? ⟨w23.heap.size, 0, none⟩ = some (.bool u.dead) ∧ W.cell? ⟨w23.heap.size, 1, none⟩ = some (.slice (some ⟨b1, o1, none⟩) u.vs.length uc) ∧ W.cell? ⟨w23.heap.size, 2, none⟩ = some (.slice ub u.ls.length ud) ∧ W.cell? ⟨b1, o1 + j0 * 2, none⟩ = some (.string yn) ∧ W.cell? ⟨b1, o1 + j0 * 2 + 1, none⟩ = some (.slice ya yv.length yc)) (by kernel_rfl) (KH.out _ (Below.refl _ _).drew) (fun hHeld => ?_)
          have hbd : Below wr.heap.size wr wr.drew := (Gr.refl _).drew.below
          have RB0 := hid hbd
          have B26 := hid (BB0.out.trans (hbd.mono BB0.out.size))
          have Fo26 := hid (Go0.out.bel hbd)
          have Fbx26 := hid (bx_bel Gbx0.out hbd)
          have Fbo26 := hid (bx_bel Gbo0.out hbd)
          have Fu26 := hid (Gu0.out.bel hbd)
          have Fbu26 := hid (bx_bel Gbu0.out hbd)
          have FB26 := hid (GB0.out.bel hbd)
          have FL26 := hid (GL0.out.bel hbd)
          have Flow026 := hid (LW0.out.bel hbd)
          have Fy26 := hid (HA.out.bel hbd)
          have Fd26 := hid (QD.out.bel hbd)
          clear BB0 Go0 Gbx0 Gbo0 Gu0 Gbu0 GB0 GL0 LW0 HA QD
          clear hbd
          refine tk 0 ⟨some 87, .fieldAddr 25 (.tmp 8) 1, 0, "law.go:68", #[], none⟩ (v := ?_) hHeld ?_ ?_
          rotate_left
          · intro w hSw; (try dsimp only at hSw); go_simp; (try with_reducible rfl)
          simp only [Act.put, List.setIfInBounds_toArray, List.set_cons_zero, List.set_cons_succ]
          refine tk 1 ⟨some 88, .load 22 (.tmp 87), 22, "law.go:68", #[⟨0, .data⟩], none⟩ (v := ?_) hHeld ?_ ?_
          rotate_left
          · intro w hSw; (try dsimp only at hSw); go_simp; (try with_reducible rfl)
          simp only [Act.put, List.setIfInBounds_toArray, List.set_cons_zero, List.set_cons_succ]
          refine tk 2 ⟨some 89, .move (.tmp 9), 3, "law.go:68", #[], none⟩ (v := ?_) hHeld ?_ ?_
          rotate_left
          · intro w hSw; (try dsimp only at hSw); go_simp; (try with_reducible rfl)
          simp only [Act.put, List.setIfInBounds_toArray, List.set_cons_zero, List.set_cons_succ]
          refine tk 3 ⟨some 90, .indexAddr 22 (.tmp 88) (.tmp 89), 0, "law.go:68", #[⟨1, .data⟩, ⟨2, .data⟩], none⟩ (v := ?_) hHeld ?_ ?_
          rotate_left
          · intro w hSw; (try dsimp only at hSw); go_simp; (try with_reducible rfl)
          simp only [Act.put, List.setIfInBounds_toArray, List.set_cons_zero, List.set_cons_succ]
          refine tk 4 ⟨some 91, .fieldAddr 47 (.tmp 90) 1, 0, "law.go:68", #[⟨3, .data⟩], none⟩ (v := ?_) hHeld ?_ ?_
          rotate_left
          · intro w hSw; (try dsimp only at hSw); go_simp; (try with_reducible rfl)
          simp only [Act.put, List.setIfInBounds_toArray, List.set_cons_zero, List.set_cons_succ]
          refine tk 5 ⟨some 92, .load 29 (.tmp 91), 29, "law.go:68", #[⟨4, .data⟩], none⟩ (v := ?_) hHeld ?_ ?_
          rotate_left
          · intro w hSw; (try dsimp only at hSw); go_simp; (try with_reducible rfl)
          simp only [Act.put, List.setIfInBounds_toArray, List.set_cons_zero, List.set_cons_succ]
          refine tk 6 ⟨some 93, .fieldAddr 27 (.tmp 4) 1, 0, "law.go:68", #[], none⟩ (v := ?_) hHeld ?_ ?_
          rotate_left
          · intro w hSw; (try dsimp only at hSw); go_simp; (try with_reducible rfl)
          simp only [Act.put, List.setIfInBounds_toArray, List.set_cons_zero, List.set_cons_succ]
          refine tk 7 ⟨some 94, .load 3 (.tmp 93), 3, "law.go:68", #[⟨6, .data⟩], none⟩ (v := ?_) hHeld ?_ ?_
          rotate_left
          · intro w hSw; (try dsimp only at hSw); go_simp; (try with_reducible rfl)
          simp only [Act.put, List.setIfInBounds_toArray, List.set_cons_zero, List.set_cons_succ]
          refine tk 10 ⟨some 97, .fieldAddr 25 (.tmp 8) 1, 0, "law.go:68", #[], none⟩ (v := ?_) hHeld ?_ ?_
          rotate_left
          · intro w hSw; (try dsimp only at hSw); go_simp; (try with_reducible rfl)
          simp only [Act.put, List.setIfInBounds_toArray, List.set_cons_zero, List.set_cons_succ]
          refine tk 11 ⟨some 98, .load 22 (.tmp 97), 22, "law.go:68", #[⟨10, .data⟩], none⟩ (v := ?_) hHeld ?_ ?_
          rotate_left
          · intro w hSw; (try dsimp only at hSw); go_simp; (try with_reducible rfl)
          simp only [Act.put, List.setIfInBounds_toArray, List.set_cons_zero, List.set_cons_succ]
          refine tk 12 ⟨some 99, .move (.tmp 9), 3, "law.go:68", #[], none⟩ (v := ?_) hHeld ?_ ?_
          rotate_left
          · intro w hSw; (try dsimp only at hSw); go_simp; (try with_reducible rfl)
          simp only [Act.put, List.setIfInBounds_toArray, List.set_cons_zero, List.set_cons_succ]
          refine tk 13 ⟨some 100, .indexAddr 22 (.tmp 98) (.tmp 99), 0, "law.go:68", #[⟨11, .data⟩, ⟨12, .data⟩], none⟩ (v := ?_) hHeld ?_ ?_
          rotate_left
          · intro w hSw; (try dsimp only at hSw); go_simp; (try with_reducible rfl)
          simp only [Act.put, List.setIfInBounds_toArray, List.set_cons_zero, List.set_cons_succ]
          refine tk 14 ⟨some 101, .fieldAddr 47 (.tmp 100) 0, 0, "law.go:68", #[⟨13, .data⟩], none⟩ (v := ?_) hHeld ?_ ?_
          rotate_left
          · intro w hSw; (try dsimp only at hSw); go_simp; (try with_reducible rfl)
          simp only [Act.put, List.setIfInBounds_toArray, List.set_cons_zero, List.set_cons_succ]
          refine tk 15 ⟨some 102, .load 9 (.tmp 101), 9, "law.go:68", #[⟨14, .data⟩], none⟩ (v := ?_) hHeld ?_ ?_
          rotate_left
          · intro w hSw; (try dsimp only at hSw); go_simp; (try with_reducible rfl)
          simp only [Act.put, List.setIfInBounds_toArray, List.set_cons_zero, List.set_cons_succ]
          refine tk 16 ⟨some 103, .fieldAddr 27 (.tmp 4) 0, 0, "law.go:68", #[], none⟩ (v := ?_) hHeld ?_ ?_
          rotate_left
          · intro w hSw; (try dsimp only at hSw); go_simp; (try with_reducible rfl)
          simp only [Act.put, List.setIfInBounds_toArray, List.set_cons_zero, List.set_cons_succ]
          refine tk 17 ⟨some 104, .load 9 (.tmp 103), 9, "law.go:68", #[⟨16, .data⟩], none⟩ (v := ?_) hHeld ?_ ?_
          rotate_left
          · intro w hSw; (try dsimp only at hSw); go_simp; (try with_reducible rfl)
          simp only [Act.put, List.setIfInBounds_toArray, List.set_cons_zero, List.set_cons_succ]
          refine tk 18 ⟨some 105, .binOp .eql 9 (.tmp 102) (.tmp 104) 9, 4, "law.go:68", #[⟨15, .data⟩, ⟨17, .data⟩], none⟩ (v := ?_) hHeld ?_ ?_
          rotate_left
          · intro w hSw; (try dsimp only at hSw); go_simp; (try with_reducible rfl)
          simp only [Act.put, List.setIfInBounds_toArray, List.set_cons_zero, List.set_cons_succ]
          refine wpAnyH_ready (rs := [8]) (by kernel_rfl) (by simp) ?_
          refine AllReadyH.cons (o := ⟨some 95, .call { callee := .value (.func 18), args := #[.tmp 94], argTypes := #[3] }, 34, "law.go:68", #[⟨7, .data⟩], none⟩) rfl (fun K hK => ?_) AllReadyH.nil
          go_simp
          refine (recv_any k wr.drew).mono ?_
          rintro e z27 ⟨rfl, hb⟩
          have B27 := hid (B26.out.trans (hb.mono B26.out.size))
          have Fo27 := hid (Fo26.out.bel hb)
          have Fbx27 := hid (bx_bel Fbx26.out hb)
          have Fbo27 := hid (bx_bel Fbo26.out hb)
          have Fu27 := hid (Fu26.out.bel hb)
          have Fbu27 := hid (bx_bel Fbu26.out hb)
          have FB27 := hid (FB26.out.bel hb)
          have FL27 := hid (FL26.out.bel hb)
          have Flow027 := hid (Flow026.out.bel hb)
          have Fy27 := hid (Fy26.out.bel hb)
          have Fd27 := hid (Fd26.out.bel hb)
          have RB27 := hid (RB0.out.trans (hb.mono RB0.out.size))
          clear B26 Fo26 Fbx26 Fbo26 Fu26 Fbu26 FB26 FL26 Flow026 Fy26 Fd26 RB0
          clear hb
          refine hK.out _ _ (KH.out _ RB27.out) (fun hHeld => ?_)
          refine wpAnyH_ready (rs := [9]) (by kernel_rfl) (by simp) ?_
          refine AllReadyH.cons (o := ⟨some 96, .call { callee := .value (.func 19), args := #[.tmp 92, .tmp 95], argTypes := #[29, 34] }, 4, "law.go:68", #[⟨5, .data⟩, ⟨8, .data⟩, ⟨8, .chain⟩], none⟩) rfl (fun K hK => ?_) AllReadyH.nil
          go_simp
          refine (gr_bel (rhas_any z27 _ yv ⟨4, k⟩ Fy27.out HYL.out)).mono ?_
          rw [HHB.out]
          rintro e z28 ⟨rfl, hb⟩
          have B28 := hid (B27.out.trans (hb.mono B27.out.size))
          have Fo28 := hid (Fo27.out.bel hb)
          have Fbx28 := hid (bx_bel Fbx27.out hb)
          have Fbo28 := hid (bx_bel Fbo27.out hb)
          have Fu28 := hid (Fu27.out.bel hb)
          have Fbu28 := hid (bx_bel Fbu27.out hb)
          have FB28 := hid (FB27.out.bel hb)
          have FL28 := hid (FL27.out.bel hb)
          have Flow028 := hid (Flow027.out.bel hb)
          have Fy28 := hid (Fy27.out.bel hb)
          have Fd28 := hid (Fd27.out.bel hb)
          have RB28 := hid (RB27.out.trans (hb.mono RB27.out.size))
          clear B27 Fo27 Fbx27 Fbo27 Fu27 Fbu27 FB27 FL27 Flow027 Fy27 Fd27 RB27
          clear hb
          refine hK.out _ _ (KH.out _ RB28.out) (fun hHeld => ?_)
          refine tk 19 ⟨some 106, .binOp .neq 4 (.tmp 96) (.tmp 105) 4, 4, "law.go:68", #[⟨9, .data⟩, ⟨18, .data⟩], none⟩ (v := ?_) hHeld ?_ ?_
          rotate_left
          · intro w hSw; (try dsimp only at hSw); go_simp; (try with_reducible rfl)
          simp only [Act.put, List.setIfInBounds_toArray, List.set_cons_zero, List.set_cons_succ]
          refine wpAnyH_done (by kernel_rfl) ?_ _
          clear hHeld KH
          clear RB28
          go_wp2
          exact ⟨⟨j0 + 1, by omega, by go_num, hid Flow028.out⟩, by simp [intOf]; omega⟩
    · obtain ⟨W1, hW1⟩ : ∃ W, W = wr := ⟨_, rfl⟩
      rw [← hW1] at Go0 Gbx0 Gbo0 Gu0 Gbu0 GB0 GL0 LW0 BB0 ⊢
      clear hW1 hbel0
      obtain ⟨ybu0, ybu1, ybu2, _⟩ := cells3 Gbu0.out
      clear GB0
      go_wp2
      go_loopw [10] (fun i w' => ∃ j : Nat, j ≤ u.ls.length ∧ i = .int .i64 j ∧ Hid (Below W1.heap.size W1 w')) (fun i _ => u.ls.length - (intOf i).toNat)
      case atStart => exact ⟨0, Nat.zero_le _, rfl, Below.refl _ _⟩
      case round =>
        obtain ⟨j1, hj1, rfl, hbel1⟩ := hrel
        have BB1 := hid (BB0.out.trans (hbel1.out.mono BB0.out.size))
        have Go1 := hid (Go0.out.bel hbel1.out)
        have Gbx1 := hid (bx_bel Gbx0.out hbel1.out)
        have Gbo1 := hid (bx_bel Gbo0.out hbel1.out)
        have Gu1 := hid (Gu0.out.bel hbel1.out)
        have Gbu1 := hid (bx_bel Gbu0.out hbel1.out)
        have GL1 := hid (GL0.out.bel hbel1.out)
        have LW1 : Hid (LowB W1 wr) := hbel1.out
        have HN1 : u.ls.length ≤ 200 := Z.out.ku.ll
        by_cases hjl1 : j1 < u.ls.length
        · have hjL : j1 < L.length := by have := NL.out; omega
          obtain ⟨b1, o1, rfl, hlt, hc⟩ := Ls_some GL1.out hjL
          obtain ⟨c1, c2, c3, c4⟩ := hc j1 hjL
          have HX := hid (GL1.out.2 _ (List.getElem_mem hjL)).2
          have HMEM : Hid (L[j1].p ∈ u.ls) := by unfold Hid; rw [← HLL.out]; exact List.mem_map.2 ⟨_, List.getElem_mem hjL, rfl⟩
          obtain ⟨y, hy⟩ : ∃ y, L[j1] = y := ⟨_, rfl⟩
          rw [hy] at c1 c2 c3 c4 HX HMEM
          obtain ⟨yx, ys, yfa, yfn, ypa, ypn⟩ := y
          have HS : Hid (ShAt wr (.agg #[.slice yfa ys.fs.length yfn, .slice ypa ys.pr.length ypn]) ys) := HX.out
          have HM : Hid (M.mute ys ⟨4, k⟩ = true) := Z.out.hl _ HMEM.out
          have HSM : Hid (M.Sm 200 ys) := Z.out.ku.lv _ HMEM.out
          have QR : Hid (Qua wr b1 (o1 + j1 * 4) yx ys yfa yfn ypa ypn) := ⟨hlt, c1, c2, c3, c4⟩
          clear hc hy HX HMEM c1 c2 c3 c4 hlt
          as_aux_lemma =>
            obtain ⟨ybu0, ybu1, ybu2, _⟩ := cells3 Gbu1.out
            obtain ⟨yq0, yq1, yq2, yq3⟩ := QR.out.2
            obtain ⟨V26, hV26⟩ : ∃ W, wr.alloc (.cells #[.slice yfa ys.fs.length yfn, .slice ypa ys.pr.length ypn] 31) = W := ⟨_, rfl⟩
            have hbx : Below wr.heap.size wr V26 := by rw [← hV26]; exact (gr_new _ _).below
            have Nbp : Hid (V26.heap[wr.heap.size]? = some (.cells #[.slice yfa ys.fs.length yfn, .slice ypa ys.pr.length ypn] 31 (0, 0))) := by unfold Hid; rw [← hV26]; exact new_at _ _
            have B27 := hid (BB1.out.trans (hbx.mono BB1.out.size))
            have Fo27 := hid (Go1.out.bel hbx)
            have Fbx27 := hid (bx_bel Gbx1.out hbx)
            have Fbo27 := hid (bx_bel Gbo1.out hbx)
            have Fu27 := hid (Gu1.out.bel hbx)
            have Fbu27 := hid (bx_bel Gbu1.out hbx)
            have FL27 := hid (GL1.out.bel hbx)
            have Flow127 := hid (LW1.out.bel hbx)
            have Fy27 := hid (HS.out.bel hbx)
            have Fq27 := hid (QR.out.bel hbx)
            clear BB1 Go1 Gbx1 Gbo1 Gu1 Gbu1 GL1 LW1 HS QR
            clear hbx
            have HPN : Hid (M.has ys.pr ⟨4, k⟩ = false) := M.mute_pr HM.out
            have HPL : Hid (ys.pr.length ≤ 1048576) := Nat.le_trans HSM.out.2.2 (by decide)
            obtain ⟨xbx0, xbx1, _⟩ := cells2 Fbx27.out
            obtain ⟨xbo0, xbo1, _⟩ := cells2 Fbo27.out
            obtain ⟨xbu0, xbu1, xbu2, _⟩ := cells3 Fbu27.out
            obtain ⟨tq0, tq1, tq2, tq3⟩ := Fq27.out.2
            obtain ⟨xbp0, xbp1, _⟩ := cells2 Nbp.out
            go_wp2_with fail
            have KH : Hid (∀ W, Below V26.heap.size V26 W → (W.cell? ⟨V1.heap.size, 0, none⟩ = some (.string n) ∧ W.cell? ⟨V1.heap.size, 1, none⟩ = some (.int .i64 k) ∧ W.cell? ⟨V3.heap.size, 0, none⟩ = some (.slice a5 o.fs.length c5) ∧ W.cell? ⟨V3.heap.size, 1, none⟩ = some (.slice b5 o.pr.length d5) ∧ W.cell? ⟨w23.heap.size, 0, none⟩ = some (.bool u.dead) ∧ W.cell? ⟨w23.heap.size, 1, none⟩ = some (.slice ua u.vs.length uc) ∧ W.cell? ⟨w23.heap.size, 2, none⟩ = some (.slice (some ⟨b1, o1, none⟩) u.ls.length ud) ∧ W.cell? ⟨wr.heap.size, 0, none⟩ = some (.slice yfa ys.fs.length yfn) ∧ W.cell? ⟨wr.heap.size, 1, none⟩ = some (.slice ypa ys.pr.length ypn) ∧ W.cell? ⟨b1, o1 + j1 * 4, none⟩ = some (.int .i64 yx.k) ∧ W.cell? ⟨b1, o1 + j1 * 4 + 1, none⟩ = some (.int .i64 yx.n) ∧ W.cell? ⟨b1, o1 + j1 * 4 + 2, none⟩ = some (.slice yfa ys.fs.length yfn) ∧ W.cell? ⟨b1, o1 + j1 * 4 + 3, none⟩ = some (.slice ypa ys.pr.length ypn))) := fun W hb => by
              obtain ⟨ybx0, ybx1, _⟩ := cells2 (bx_bel Fbx27.out hb)
              obtain ⟨ybo0, ybo1, _⟩ := cells2 (bx_bel Fbo27.out hb)
              obtain ⟨ybu0, ybu1, ybu2, _⟩ := cells3 (bx_bel Fbu27.out hb)
              obtain ⟨ybp0, ybp1, _⟩ := cells2 (bx_bel Nbp.out hb)
              obtain ⟨rq0, rq1, rq2, rq3⟩ := (Fq27.out.bel hb).2
              exact ⟨ybx0, ybx1, ybo0, ybo1, ybu0, ybu1, ybu2, ybp0, ybp1, rq0, rq1, rq2, rq3⟩
            clear xbx0 xbx1 xbo0 xbo1 xbu0 xbu1 xbu2 tq0 tq1 tq2 tq3 xbp0 xbp1 ybu0 ybu1 ybu2 yq0 yq1 yq2 yq3
            clear hV26
            refine wp_region_held_drew (S := fun W => W.cell? ⟨V1.heap.size, 0, none⟩ = some (.string n) ∧ W.cell? ⟨V1.heap.size, 1, none⟩ = some (.int .i64 k) ∧ W.cell? ⟨V3.heap.size, 0, none⟩ = some (.slice a5 o.fs.length c5) ∧ W.cell? ⟨V3.heap.size, 1, none⟩ = some (.slice b5 o.pr.length d5) ∧ W.cell? ⟨w23.heap.size, 0, none⟩ = some (.bool u.dead) ∧ W.cell? ⟨w23.heap.size, 1, none⟩ = some (.slice ua u.vs.length uc) ∧ W.cell? ⟨w23.heap.size, 2, none⟩ = some (.slice (some ⟨b1, o1, none⟩) u.ls.length ud) ∧ W.cell? ⟨wr.heap.size, 0, none⟩ = some (.slice yfa ys.fs.length yfn) ∧ W.cell? ⟨wr.heap.size, 1, none⟩ = some (.slice ypa ys.pr.length ypn) ∧ W.cell? ⟨b1, o1 + j1 * 4, none⟩ = some (.int .i64 yx.k) ∧ W.cell? ⟨b1, o1 + j1 * 4 + 1, none⟩ = some (.int .i64 yx.n) ∧ W.cell? ⟨b1, o1 + j1 * 4 + 2, none⟩ = some (.slice yfa ys.fs.length yfn) ∧ W.cell? ⟨b1, o1 + j1 * 4 + 3, none⟩ = some (.slice ypa ys.pr.length ypn)) (by kernel_rfl) (KH.out _ (Below.refl _ _).drew) (fun hHeld => ?_)
            have hbd : Below V26.heap.size V26 V26.drew := (Gr.refl _).drew.below
            have RB0 := hid hbd
            have B28 := hid (B27.out.trans (hbd.mono B27.out.size))
            have Fo28 := hid (Fo27.out.bel hbd)
            have Fbx28 := hid (bx_bel Fbx27.out hbd)
            have Fbo28 := hid (bx_bel Fbo27.out hbd)
            have Fu28 := hid (Fu27.out.bel hbd)
            have Fbu28 := hid (bx_bel Fbu27.out hbd)
            have FL28 := hid (FL27.out.bel hbd)
            have Flow128 := hid (Flow127.out.bel hbd)
            have Fy28 := hid (Fy27.out.bel hbd)
            have Fq28 := hid (Fq27.out.bel hbd)
            have Fbp28 := hid (bx_bel Nbp.out hbd)
            clear B27 Fo27 Fbx27 Fbo27 Fu27 Fbu27 FL27 Flow127 Fy27 Fq27 Nbp
            clear hbd
            refine tk 0 ⟨some 120, .fieldAddr 31 (.tmp 11) 1, 0, "law.go:74", #[], none⟩ (v := ?_) hHeld ?_ ?_
            rotate_left
            · intro w hSw; (try dsimp only at hSw); go_simp; (try with_reducible rfl)
            simp only [Act.put, List.setIfInBounds_toArray, List.set_cons_zero, List.set_cons_succ]
            refine tk 1 ⟨some 121, .load 29 (.tmp 120), 29, "law.go:74", #[⟨0, .data⟩], none⟩ (v := ?_) hHeld ?_ ?_
            rotate_left
            · intro w hSw; (try dsimp only at hSw); go_simp; (try with_reducible rfl)
            simp only [Act.put, List.setIfInBounds_toArray, List.set_cons_zero, List.set_cons_succ]
            refine tk 2 ⟨some 122, .fieldAddr 27 (.tmp 4) 1, 0, "law.go:74", #[], none⟩ (v := ?_) hHeld ?_ ?_
            rotate_left
            · intro w hSw; (try dsimp only at hSw); go_simp; (try with_reducible rfl)
            simp only [Act.put, List.setIfInBounds_toArray, List.set_cons_zero, List.set_cons_succ]
            refine tk 3 ⟨some 123, .load 3 (.tmp 122), 3, "law.go:74", #[⟨2, .data⟩], none⟩ (v := ?_) hHeld ?_ ?_
            rotate_left
            · intro w hSw; (try dsimp only at hSw); go_simp; (try with_reducible rfl)
            simp only [Act.put, List.setIfInBounds_toArray, List.set_cons_zero, List.set_cons_succ]
            refine wpAnyH_ready (rs := [4]) (by kernel_rfl) (by simp) ?_
            refine AllReadyH.cons (o := ⟨some 124, .call { callee := .value (.func 18), args := #[.tmp 123], argTypes := #[3] }, 34, "law.go:74", #[⟨3, .data⟩], none⟩) rfl (fun K hK => ?_) AllReadyH.nil
            go_simp
            refine (recv_any k V26.drew).mono ?_
            rintro e z29 ⟨rfl, hb⟩
            have B29 := hid (B28.out.trans (hb.mono B28.out.size))
            have Fo29 := hid (Fo28.out.bel hb)
            have Fbx29 := hid (bx_bel Fbx28.out hb)
            have Fbo29 := hid (bx_bel Fbo28.out hb)
            have Fu29 := hid (Fu28.out.bel hb)
            have Fbu29 := hid (bx_bel Fbu28.out hb)
            have FL29 := hid (FL28.out.bel hb)
            have Flow129 := hid (Flow128.out.bel hb)
            have Fy29 := hid (Fy28.out.bel hb)
            have Fq29 := hid (Fq28.out.bel hb)
            have Fbp29 := hid (bx_bel Fbp28.out hb)
            have RB29 := hid (RB0.out.trans (hb.mono RB0.out.size))
            clear B28 Fo28 Fbx28 Fbo28 Fu28 Fbu28 FL28 Flow128 Fy28 Fq28 Fbp28 RB0
            clear hb
            refine hK.out _ _ (KH.out _ RB29.out) (fun hHeld => ?_)
            refine wpAnyH_ready (rs := [5]) (by kernel_rfl) (by simp) ?_
            refine AllReadyH.cons (o := ⟨some 125, .call { callee := .value (.func 19), args := #[.tmp 121, .tmp 124], argTypes := #[29, 34] }, 4, "law.go:74", #[⟨1, .data⟩, ⟨4, .data⟩, ⟨4, .chain⟩], none⟩) rfl (fun K hK => ?_) AllReadyH.nil
            go_simp
            refine (gr_bel (rhas_any z29 _ ys.pr ⟨4, k⟩ (ShAt.parts Fy29.out).2 HPL.out)).mono ?_
            rw [HPN.out]
            rintro e z30 ⟨rfl, hb⟩
            have B30 := hid (B29.out.trans (hb.mono B29.out.size))
            have Fo30 := hid (Fo29.out.bel hb)
            have Fbx30 := hid (bx_bel Fbx29.out hb)
            have Fbo30 := hid (bx_bel Fbo29.out hb)
            have Fu30 := hid (Fu29.out.bel hb)
            have Fbu30 := hid (bx_bel Fbu29.out hb)
            have FL30 := hid (FL29.out.bel hb)
            have Flow130 := hid (Flow129.out.bel hb)
            have Fy30 := hid (Fy29.out.bel hb)
            have Fq30 := hid (Fq29.out.bel hb)
            have Fbp30 := hid (bx_bel Fbp29.out hb)
            have RB30 := hid (RB29.out.trans (hb.mono RB29.out.size))
            clear B29 Fo29 Fbx29 Fbo29 Fu29 Fbu29 FL29 Flow129 Fy29 Fq29 Fbp29 RB29
            clear hb
            refine hK.out _ _ (KH.out _ RB30.out) (fun hHeld => ?_)
            refine wpAnyH_done (by kernel_rfl) ?_ _
            clear hHeld KH
            clear RB30
            clear Fq30
            obtain ⟨R, hR, hRs⟩ := (ShAt.parts Fy30.out).1
            have HR : Hid (fldOf R = ys.fs) := hR
            have TR := hid hRs
            have NR : Hid (R.length = ys.fs.length) := by unfold Hid; rw [← HR.out, fldOf_len]
            clear hR hRs
            generalize hgp : wr.heap.size = gp at Fbp30 ⊢
            clear hgp
            clear Fy30
            go_wp2
            go_loopw [12] (fun i w' => ∃ j : Nat, j ≤ ys.fs.length ∧ i = .int .i64 j ∧ Hid (Below z30.heap.size z30 w')) (fun i _ => ys.fs.length - (intOf i).toNat)
            case atStart => exact ⟨0, Nat.zero_le _, rfl, Below.refl _ _⟩
            case round =>
              obtain ⟨j2, hj2, rfl, hbel2⟩ := hrel
              have BB2 := hid (B30.out.trans (hbel2.out.mono B30.out.size))
              have Go2 := hid (Fo30.out.bel hbel2.out)
              have Gbx2 := hid (bx_bel Fbx30.out hbel2.out)
              have Gbo2 := hid (bx_bel Fbo30.out hbel2.out)
              have Gu2 := hid (Fu30.out.bel hbel2.out)
              have Gbu2 := hid (bx_bel Fbu30.out hbel2.out)
              have GL2 := hid (FL30.out.bel hbel2.out)
              have Glow12 := hid (Flow130.out.bel hbel2.out)
              have Gbp2 := hid (bx_bel Fbp30.out hbel2.out)
              have GR2 := hid (TR.out.bel hbel2.out)
              have LW2 : Hid (LowB z30 wr) := hbel2.out
              have HN2 : ys.fs.length ≤ 200 := HSM.out.1
              by_cases hjl2 : j2 < ys.fs.length
              · have hjR : j2 < R.length := by have := NR.out; omega
                obtain ⟨b2, o2, rfl, hlt, hc⟩ := Rs_some GR2.out hjR
                have HT : Hid (TriB wr b2 (o2 + j2 * 3) R[j2]) := ⟨hlt, hc j2 hjR⟩
                have HX := hid (GR2.out.1 _ (List.getElem_mem hjR))
                have HMEM : Hid (R[j2].f ∈ ys.fs) := by unfold Hid; rw [← HR.out]; exact List.mem_map.2 ⟨_, List.getElem_mem hjR, rfl⟩
                obtain ⟨y, hy⟩ : ∃ y, R[j2] = y := ⟨_, rfl⟩
                rw [hy] at HT HX HMEM
                obtain ⟨⟨fn, fu, fv⟩, fa, fc⟩ := y
                have HA : Hid (AtAt wr (.slice fa fv.length fc) fv) := HX.out
                have HH : Hid (M.has fv ⟨4, k⟩ = false) := M.mute_f HM.out HMEM.out
                have HFL : Hid (fv.length ≤ 1048576) := Nat.le_trans (HSM.out.2.1 _ HMEM.out) (by decide)
                clear hc hy HX HMEM hlt
                as_aux_lemma =>
                  obtain ⟨xbx0, xbx1, _⟩ := cells2 Gbx2.out
                  obtain ⟨xbo0, xbo1, _⟩ := cells2 Gbo2.out
                  obtain ⟨xbu0, xbu1, xbu2, _⟩ := cells3 Gbu2.out
                  obtain ⟨xbp0, xbp1, _⟩ := cells2 Gbp2.out
                  obtain ⟨td0, td1, td2⟩ := HT.out.2
                  go_wp2_with fail
                  have KH : Hid (∀ W, Below wr.heap.size wr W → (W.cell? ⟨V1.heap.size, 0, none⟩ = some (.string n) ∧ W.cell? ⟨V1.heap.size, 1, none⟩ = some (.int .i64 k) ∧ W.cell? ⟨V3.heap.size, 0, none⟩ = some (.slice a5 o.fs.length c5) ∧ W.cell? ⟨V3.heap.size, 1, none⟩ = some (.slice b5 o.pr.length d5) ∧ W.cell? ⟨w23.heap.size, 0, none⟩ = some (.bool u.dead) ∧ W.cell? ⟨w23.heap.size, 1, none⟩ = some (.slice ua u.vs.length uc) ∧ W.cell? ⟨w23.heap.size, 2, none⟩ = some (.slice (some ⟨b1, o1, none⟩) u.ls.length ud) ∧ W.cell? ⟨gp, 0, none⟩ = some (.slice (some ⟨b2, o2, none⟩) ys.fs.length yfn) ∧ W.cell? ⟨gp, 1, none⟩ = some (.slice ypa ys.pr.length ypn) ∧ W.cell? ⟨b2, o2 + j2 * 3, none⟩ = some (.string fn) ∧ W.cell? ⟨b2, o2 + j2 * 3 + 1, none⟩ = some (.bool fu) ∧ W.cell? ⟨b2, o2 + j2 * 3 + 2, none⟩ = some (.slice fa fv.length fc))) := fun W hb => by
                    obtain ⟨ybx0, ybx1, _⟩ := cells2 (bx_bel Gbx2.out hb)
                    obtain ⟨ybo0, ybo1, _⟩ := cells2 (bx_bel Gbo2.out hb)
                    obtain ⟨ybu0, ybu1, ybu2, _⟩ := cells3 (bx_bel Gbu2.out hb)
                    obtain ⟨ybp0, ybp1, _⟩ := cells2 (bx_bel Gbp2.out hb)
                    obtain ⟨rd0, rd1, rd2⟩ := (HT.out.bel hb).2
                    exact ⟨ybx0, ybx1, ybo0, ybo1, ybu0, ybu1, ybu2, ybp0, ybp1, rd0, rd1, rd2⟩
                  clear xbx0 xbx1 xbo0 xbo1 xbu0 xbu1 xbu2 xbp0 xbp1 td0 td1 td2
                  refine wp_region_held_drew (S := fun W => W.cell? ⟨V1.heap.size, 0, none⟩ = some (.string n) ∧ W.cell? ⟨V1.heap.size, 1, none⟩ = some (.int .i64 k) ∧ W.cell? ⟨V3.heap.size, 0, none⟩ = some (.slice a5 o.fs.length c5) ∧ W.cell? ⟨V3.heap.size, 1, none⟩ = some (.slice b5 o.pr.length d5) ∧ W.cell? ⟨w23.heap.size, 0, none⟩ = some (.bool u.dead) ∧ W.cell? ⟨w23.heap.size, 1, none⟩ = some (.slice ua u.vs.length uc) ∧ W.cell? ⟨w23.heap.size, 2, none⟩ = some (.slice (some ⟨b1, o1, none⟩) u.ls.length ud) ∧ W.cell? ⟨gp, 0, none⟩ = some (.slice (some ⟨b2, o2, none⟩) ys.fs.length yfn) ∧ W.cell? ⟨gp, 1, none⟩ = some (.slice ypa ys.pr.length ypn) ∧ W.cell? ⟨b2, o2 + j2 * 3, none⟩ = some (.string fn) ∧ W.cell? ⟨b2, o2 + j2 * 3 + 1, none⟩ = some (.bool fu) ∧ W.cell? ⟨b2, o2 + j2 * 3 + 2, none⟩ = some (.slice fa fv.length fc)) (by kernel_rfl) (KH.out _ (Below.refl _ _).drew) (fun hHeld => ?_)
                  have hbd : Below wr.heap.size wr wr.drew := (Gr.refl _).drew.below
                  have RB0 := hid hbd
                  have B31 := hid (BB2.out.trans (hbd.mono BB2.out.size))
                  have Fo31 := hid (Go2.out.bel hbd)
                  have Fbx31 := hid (bx_bel Gbx2.out hbd)
                  have Fbo31 := hid (bx_bel Gbo2.out hbd)
                  have Fu31 := hid (Gu2.out.bel hbd)
                  have Fbu31 := hid (bx_bel Gbu2.out hbd)
                  have FL31 := hid (GL2.out.bel hbd)
                  have Flow131 := hid (Glow12.out.bel hbd)
                  have Fbp31 := hid (bx_bel Gbp2.out hbd)
                  have FR31 := hid (GR2.out.bel hbd)
                  have Flow231 := hid (LW2.out.bel hbd)
                  have Fy31 := hid (HA.out.bel hbd)
                  have Fd31 := hid (HT.out.bel hbd)
                  clear BB2 Go2 Gbx2 Gbo2 Gu2 Gbu2 GL2 Glow12 Gbp2 GR2 LW2 HA HT
                  clear hbd
                  refine tk 0 ⟨some 133, .fieldAddr 31 (.tmp 11) 0, 0, "law.go:78", #[], none⟩ (v := ?_) hHeld ?_ ?_
                  rotate_left
                  · intro w hSw; (try dsimp only at hSw); go_simp; (try with_reducible rfl)
                  simp only [Act.put, List.setIfInBounds_toArray, List.set_cons_zero, List.set_cons_succ]
                  refine tk 1 ⟨some 134, .load 28 (.tmp 133), 28, "law.go:78", #[⟨0, .data⟩], none⟩ (v := ?_) hHeld ?_ ?_
                  rotate_left
                  · intro w hSw; (try dsimp only at hSw); go_simp; (try with_reducible rfl)
                  simp only [Act.put, List.setIfInBounds_toArray, List.set_cons_zero, List.set_cons_succ]
                  refine tk 2 ⟨some 135, .move (.tmp 12), 3, "law.go:78", #[], none⟩ (v := ?_) hHeld ?_ ?_
                  rotate_left
                  · intro w hSw; (try dsimp only at hSw); go_simp; (try with_reducible rfl)
                  simp only [Act.put, List.setIfInBounds_toArray, List.set_cons_zero, List.set_cons_succ]
                  refine tk 3 ⟨some 136, .indexAddr 28 (.tmp 134) (.tmp 135), 0, "law.go:78", #[⟨1, .data⟩, ⟨2, .data⟩], none⟩ (v := ?_) hHeld ?_ ?_
                  rotate_left
                  · intro w hSw; (try dsimp only at hSw); go_simp; (try with_reducible rfl)
                  simp only [Act.put, List.setIfInBounds_toArray, List.set_cons_zero, List.set_cons_succ]
                  refine tk 4 ⟨some 137, .fieldAddr 49 (.tmp 136) 2, 0, "law.go:78", #[⟨3, .data⟩], none⟩ (v := ?_) hHeld ?_ ?_
                  rotate_left
                  · intro w hSw; (try dsimp only at hSw); go_simp; (try with_reducible rfl)
                  simp only [Act.put, List.setIfInBounds_toArray, List.set_cons_zero, List.set_cons_succ]
                  refine tk 5 ⟨some 138, .load 29 (.tmp 137), 29, "law.go:78", #[⟨4, .data⟩], none⟩ (v := ?_) hHeld ?_ ?_
                  rotate_left
                  · intro w hSw; (try dsimp only at hSw); go_simp; (try with_reducible rfl)
                  simp only [Act.put, List.setIfInBounds_toArray, List.set_cons_zero, List.set_cons_succ]
                  refine tk 6 ⟨some 139, .fieldAddr 27 (.tmp 4) 1, 0, "law.go:78", #[], none⟩ (v := ?_) hHeld ?_ ?_
                  rotate_left
                  · intro w hSw; (try dsimp only at hSw); go_simp; (try with_reducible rfl)
                  simp only [Act.put, List.setIfInBounds_toArray, List.set_cons_zero, List.set_cons_succ]
                  refine tk 7 ⟨some 140, .load 3 (.tmp 139), 3, "law.go:78", #[⟨6, .data⟩], none⟩ (v := ?_) hHeld ?_ ?_
                  rotate_left
                  · intro w hSw; (try dsimp only at hSw); go_simp; (try with_reducible rfl)
                  simp only [Act.put, List.setIfInBounds_toArray, List.set_cons_zero, List.set_cons_succ]
                  refine wpAnyH_ready (rs := [8]) (by kernel_rfl) (by simp) ?_
                  refine AllReadyH.cons (o := ⟨some 141, .call { callee := .value (.func 18), args := #[.tmp 140], argTypes := #[3] }, 34, "law.go:78", #[⟨7, .data⟩], none⟩) rfl (fun K hK => ?_) AllReadyH.nil
                  go_simp
                  refine (recv_any k wr.drew).mono ?_
                  rintro e z32 ⟨rfl, hb⟩
                  have B32 := hid (B31.out.trans (hb.mono B31.out.size))
                  have Fo32 := hid (Fo31.out.bel hb)
                  have Fbx32 := hid (bx_bel Fbx31.out hb)
                  have Fbo32 := hid (bx_bel Fbo31.out hb)
                  have Fu32 := hid (Fu31.out.bel hb)
                  have Fbu32 := hid (bx_bel Fbu31.out hb)
                  have FL32 := hid (FL31.out.bel hb)
                  have Flow132 := hid (Flow131.out.bel hb)
                  have Fbp32 := hid (bx_bel Fbp31.out hb)
                  have FR32 := hid (FR31.out.bel hb)
                  have Flow232 := hid (Flow231.out.bel hb)
                  have Fy32 := hid (Fy31.out.bel hb)
                  have Fd32 := hid (Fd31.out.bel hb)
                  have RB32 := hid (RB0.out.trans (hb.mono RB0.out.size))
                  clear B31 Fo31 Fbx31 Fbo31 Fu31 Fbu31 FL31 Flow131 Fbp31 FR31 Flow231 Fy31 Fd31 RB0
                  clear hb
                  refine hK.out _ _ (KH.out _ RB32.out) (fun hHeld => ?_)
                  refine wpAnyH_ready (rs := [9]) (by kernel_rfl) (by simp) ?_
                  refine AllReadyH.cons (o := ⟨some 142, .call { callee := .value (.func 19), args := #[.tmp 138, .tmp 141], argTypes := #[29, 34] }, 4, "law.go:78", #[⟨5, .data⟩, ⟨8, .data⟩, ⟨8, .chain⟩], none⟩) rfl (fun K hK => ?_) AllReadyH.nil
                  go_simp
                  refine (gr_bel (rhas_any z32 _ fv ⟨4, k⟩ Fy32.out HFL.out)).mono ?_
                  rw [HH.out]
                  rintro e z33 ⟨rfl, hb⟩
                  have B33 := hid (B32.out.trans (hb.mono B32.out.size))
                  have Fo33 := hid (Fo32.out.bel hb)
                  have Fbx33 := hid (bx_bel Fbx32.out hb)
                  have Fbo33 := hid (bx_bel Fbo32.out hb)
                  have Fu33 := hid (Fu32.out.bel hb)
                  have Fbu33 := hid (bx_bel Fbu32.out hb)
                  have FL33 := hid (FL32.out.bel hb)
                  have Flow133 := hid (Flow132.out.bel hb)
                  have Fbp33 := hid (bx_bel Fbp32.out hb)
                  have FR33 := hid (FR32.out.bel hb)
                  have Flow233 := hid (Flow232.out.bel hb)
                  have Fy33 := hid (Fy32.out.bel hb)
                  have Fd33 := hid (Fd32.out.bel hb)
                  have RB33 := hid (RB32.out.trans (hb.mono RB32.out.size))
                  clear B32 Fo32 Fbx32 Fbo32 Fu32 Fbu32 FL32 Flow132 Fbp32 FR32 Flow232 Fy32 Fd32 RB32
                  clear hb
                  refine hK.out _ _ (KH.out _ RB33.out) (fun hHeld => ?_)
                  refine wpAnyH_done (by kernel_rfl) ?_ _
                  clear hHeld KH
                  clear RB33
                  go_wp2
                  exact ⟨⟨j2 + 1, by omega, by go_num, hid Flow233.out⟩, by simp [intOf]; omega⟩
              · have LX : Hid (LowB W1 wr) := Glow12.out
                obtain ⟨xbx0, xbx1, _⟩ := cells2 Gbx2.out
                obtain ⟨xbo0, xbo1, _⟩ := cells2 Gbo2.out
                obtain ⟨xbu0, xbu1, xbu2, _⟩ := cells3 Gbu2.out
                obtain ⟨xbp0, xbp1, _⟩ := cells2 Gbp2.out
                go_wp2
                exact ⟨⟨j1 + 1, by omega, by go_num, hid LX.out⟩, by simp [intOf]; omega⟩
        · as_aux_lemma =>
            obtain ⟨W2, hW2⟩ : ∃ W, W = wr := ⟨_, rfl⟩
            rw [← hW2] at Go1 Gbx1 Gbo1 Gu1 Gbu1 GL1 LW1 BB1 ⊢
            clear hW2 hbel1
            obtain ⟨xbx0, xbx1, _⟩ := cells2 Gbx1.out
            obtain ⟨xbo0, xbo1, _⟩ := cells2 Gbo1.out
            obtain ⟨xbu0, xbu1, xbu2, _⟩ := cells3 Gbu1.out
            go_wp2_with fail
            clear xbx0 xbx1 xbo0 xbo1 xbu0 xbu1 xbu2
            have hlu : w23.heap.size < W2.heap.size := (Array.getElem?_eq_some_iff.1 Gbu1.out).1
            have hlx : V1.heap.size < W2.heap.size := (Array.getElem?_eq_some_iff.1 Gbx1.out).1
            have KREC : Hid (∀ W, Below W2.heap.size W2 W → Calls Tryz.prog 18 #[.int .i64 k] W fun e w' => e = .returned (.agg #[.int .i64 4, .int .i64 k]) ∧ Below W.heap.size W w') := fun W hb => recv_any k W
            have KLOC : Hid (∀ W, Below W2.heap.size W2 W → Calls Tryz.prog 20 #[.agg #[.bool u.dead, .slice ua u.vs.length uc, .slice ub u.ls.length ud], .agg #[.int .i64 4, .int .i64 k]] W fun e w' => ∃ (fa : Option Addr) (fn : Nat) (pa : Option Addr) (pn : Nat), e = .returned (.tuple #[.agg #[.slice fa r.fs.length fn, .slice pa r.pr.length pn], .bool true]) ∧ ShAt w' (.agg #[.slice fa r.fs.length fn, .slice pa r.pr.length pn]) r ∧ Below W.heap.size W w') := fun W hb => rloc_in W _ u ⟨4, k⟩ r (Gu1.out.bel hb) (M.smSt_mono Z.out.ku (by decide)) Z.out.gl
            go_cut [13, 14] (fun s13 s14 wx => ∃ (g13 : Nat) (fa : Option Addr) (fn : Nat) (pa : Option Addr) (pn : Nat), s13 = .pointer (some ⟨g13, 0, none⟩) ∧ s14 = .bool true ∧ Hid (wx.heap[g13]? = some (.cells #[.slice fa r.fs.length fn, .slice pa r.pr.length pn] 31 (0, 0))) ∧ Hid (ShAt wx (.agg #[.slice fa r.fs.length fn, .slice pa r.pr.length pn]) r) ∧ Hid (Below W2.heap.size W2 wx))
            case first =>
              have KH : Hid (∀ Z : World, Z.heap[w23.heap.size]? = some (.cells #[.bool u.dead, .slice ua u.vs.length uc, .slice ub u.ls.length ud] 25 (0, 0)) → Z.heap[V1.heap.size]? = some (.cells #[.string n, .int .i64 k] 27 (0, 0)) → (Z.cell? ⟨w23.heap.size, 0, none⟩ = some (.bool u.dead) ∧ Z.cell? ⟨w23.heap.size, 1, none⟩ = some (.slice ua u.vs.length uc) ∧ Z.cell? ⟨w23.heap.size, 2, none⟩ = some (.slice ub u.ls.length ud) ∧ Z.cell? ⟨V1.heap.size, 0, none⟩ = some (.string n) ∧ Z.cell? ⟨V1.heap.size, 1, none⟩ = some (.int .i64 k))) := fun Z k0 k1 => by
                obtain ⟨y00, y01, y02, _⟩ := cells3 k0
                obtain ⟨y10, y11, _⟩ := cells2 k1
                exact ⟨y00, y01, y02, y10, y11⟩
              refine wp_region_held_drew (S := fun W => W.cell? ⟨w23.heap.size, 0, none⟩ = some (.bool u.dead) ∧ W.cell? ⟨w23.heap.size, 1, none⟩ = some (.slice ua u.vs.length uc) ∧ W.cell? ⟨w23.heap.size, 2, none⟩ = some (.slice ub u.ls.length ud) ∧ W.cell? ⟨V1.heap.size, 0, none⟩ = some (.string n) ∧ W.cell? ⟨V1.heap.size, 1, none⟩ = some (.int .i64 k)) (by kernel_rfl) (KH.out _ Gbu1.out Gbx1.out) (fun hHeld => ?_)
              have Bh0 : Hid (Below W2.heap.size W2 W2.drew) := (Gr.refl W2).drew.below
              refine tk 0 ⟨some 144, .load 25 (.tmp 8), 25, "law.go:83", #[], none⟩ (v := ?_) hHeld ?_ ?_
              rotate_left
              · intro w hSw; (try dsimp only at hSw); go_simp; (try with_reducible rfl)
              simp only [Act.put, List.setIfInBounds_toArray, List.set_cons_zero, List.set_cons_succ]
              refine tk 1 ⟨some 145, .fieldAddr 27 (.tmp 4) 1, 0, "law.go:83", #[], none⟩ (v := ?_) hHeld ?_ ?_
              rotate_left
              · intro w hSw; (try dsimp only at hSw); go_simp; (try with_reducible rfl)
              simp only [Act.put, List.setIfInBounds_toArray, List.set_cons_zero, List.set_cons_succ]
              refine tk 2 ⟨some 146, .load 3 (.tmp 145), 3, "law.go:83", #[⟨1, .data⟩], none⟩ (v := ?_) hHeld ?_ ?_
              rotate_left
              · intro w hSw; (try dsimp only at hSw); go_simp; (try with_reducible rfl)
              simp only [Act.put, List.setIfInBounds_toArray, List.set_cons_zero, List.set_cons_succ]
              refine wpAnyH_ready (rs := [3, 8]) (by kernel_rfl) (by simp) ?_
              refine AllReadyH.cons (o := ⟨some 147, .call { callee := .value (.func 18), args := #[.tmp 146], argTypes := #[3] }, 34, "law.go:83", #[⟨2, .data⟩], none⟩) rfl (fun K hK => ?_) (AllReadyH.cons (o := ⟨some 13, .alloc 31, 0, "law.go:83", #[], none⟩) rfl (fun K hK => ?_) AllReadyH.nil)
              · go_simp
                refine (KREC.out _ Bh0.out).mono ?_
                rintro e z1 ⟨rfl, hb⟩
                have Bh1 := hid (Bh0.out.trans (hb.mono Bh0.out.size))
                clear hb
                refine hK.out _ _ (KH.out _ (kept Gbu1.out hlu Bh1.out) (kept Gbx1.out hlx Bh1.out)) (fun hHeld => ?_)
                clear hK
                refine wpAnyH_ready (rs := [4, 8]) (by kernel_rfl) (by simp) ?_
                refine AllReadyH.cons (o := ⟨some 148, .call { callee := .value (.func 20), args := #[.tmp 144, .tmp 147], argTypes := #[25, 34] }, 50, "law.go:83", #[⟨0, .data⟩, ⟨3, .data⟩, ⟨3, .chain⟩], none⟩) rfl (fun K hK => ?_) (AllReadyH.cons (o := ⟨some 13, .alloc 31, 0, "law.go:83", #[], none⟩) rfl (fun K hK => ?_) AllReadyH.nil)
                · go_simp
                  refine (KLOC.out _ Bh1.out).mono ?_
                  rintro e z2 ⟨fa, fn, pa, pn, rfl, hS2, hb⟩
                  have HS := hid hS2
                  clear hS2
                  have Bh2 := hid (Bh1.out.trans (hb.mono Bh1.out.size))
                  clear hb
                  refine hK.out _ _ (KH.out _ (kept Gbu1.out hlu Bh2.out) (kept Gbx1.out hlx Bh2.out)) (fun hHeld => ?_)
                  clear hK
                  refine tk 5 ⟨some 143, .move (.tmp 148), 50, "law.go:83", #[⟨4, .data⟩], none⟩ (v := ?_) hHeld ?_ ?_
                  rotate_left
                  · intro w hSw; (try dsimp only at hSw); go_simp; (try with_reducible rfl)
                  simp only [Act.put, List.setIfInBounds_toArray, List.set_cons_zero, List.set_cons_succ]
                  refine tk 6 ⟨some 149, .extract (.tmp 143) 0, 31, "law.go:83", #[⟨5, .data⟩], none⟩ (v := ?_) hHeld ?_ ?_
                  rotate_left
                  · intro w hSw; (try dsimp only at hSw); go_simp; (try with_reducible rfl)
                  simp only [Act.put, List.setIfInBounds_toArray, List.set_cons_zero, List.set_cons_succ]
                  refine tk 7 ⟨some 150, .extract (.tmp 143) 1, 4, "law.go:83", #[⟨5, .data⟩, ⟨9, .gcOnly .lateStores⟩], none⟩ (v := ?_) hHeld ?_ ?_
                  rotate_left
                  · intro w hSw; (try dsimp only at hSw); go_simp; (try with_reducible rfl)
                  simp only [Act.put, List.setIfInBounds_toArray, List.set_cons_zero, List.set_cons_succ]
                  refine wpAnyH_ready (rs := [8]) (by kernel_rfl) (by simp) ?_
                  refine AllReadyH.cons (o := ⟨some 13, .alloc 31, 0, "law.go:83", #[], none⟩) rfl (fun K hK => ?_) AllReadyH.nil
                  obtain ⟨z3, hz3⟩ : ∃ W, z2.alloc (.cells #[.slice none 0 0, .slice none 0 0] 31 : Obj) = W := ⟨_, rfl⟩
                  go_simp
                  have hb : Below z2.heap.size z2 z3 := by rw [← hz3]; exact (gr_new _ _).below
                  have BX3 : Hid (z3.heap[z2.heap.size]? = some (.cells #[.slice none 0 0, .slice none 0 0] 31 (0, 0))) := by unfold Hid; rw [← hz3]; exact new_at _ _
                  have gBX : W2.heap.size ≤ z2.heap.size := Bh2.out.size
                  have Bh3 := hid (Bh2.out.trans (hb.mono Bh2.out.size))
                  have HS3 := hid (HS.out.bel hb)
                  clear hb hz3
                  refine hK.out _ _ (KH.out _ (kept Gbu1.out hlu Bh3.out) (kept Gbx1.out hlx Bh3.out)) (fun hHeld => ?_)
                  clear hK
                  refine wpAnyH_ready (rs := [9]) (by kernel_rfl) (by simp) ?_
                  refine AllReadyH.cons (o := ⟨none, .store 31 (.tmp 13) (.tmp 149), 0, "law.go:83", #[⟨8, .data⟩, ⟨6, .data⟩, ⟨4, .chain⟩, ⟨0, .phase⟩, ⟨1, .phase⟩, ⟨2, .phase⟩, ⟨3, .phase⟩, ⟨4, .phase⟩, ⟨5, .phase⟩, ⟨6, .phase⟩, ⟨7, .textOnly .lateStores⟩, ⟨8, .phase⟩], none⟩) rfl (fun K hK => ?_) AllReadyH.nil
                  obtain ⟨o0, o1, of⟩ := cells2 (BX3.out)
                  go_simp
                  clear o0 o1 of
                  refine hK.out _ _ (KH.out _ (((set_blk (z3.setCell ⟨z2.heap.size, 0, none⟩ (.slice fa r.fs.length fn)) (z2.heap.size) 1 (.slice pa r.pr.length pn) (w23.heap.size) (by omega)).trans ((set_blk z3 (z2.heap.size) 0 (.slice fa r.fs.length fn) (w23.heap.size) (by omega)).trans (kept Gbu1.out hlu Bh3.out)))) (((set_blk (z3.setCell ⟨z2.heap.size, 0, none⟩ (.slice fa r.fs.length fn)) (z2.heap.size) 1 (.slice pa r.pr.length pn) (V1.heap.size) (by omega)).trans ((set_blk z3 (z2.heap.size) 0 (.slice fa r.fs.length fn) (V1.heap.size) (by omega)).trans (kept Gbx1.out hlx Bh3.out))))) (fun hHeld => ?_)
                  clear hK
                  refine tk 10 ⟨some 14, .assign (.tmp 150), 4, "law.go:83", #[⟨7, .data⟩, ⟨9, .chain⟩, ⟨0, .phase⟩, ⟨1, .phase⟩, ⟨2, .phase⟩, ⟨3, .phase⟩, ⟨4, .phase⟩, ⟨5, .phase⟩, ⟨6, .phase⟩, ⟨7, .phase⟩, ⟨8, .phase⟩, ⟨9, .phase⟩], none⟩ (v := ?_) hHeld ?_ ?_
                  rotate_left
                  · intro w hSw; (try dsimp only at hSw); go_simp; (try with_reducible rfl)
                  simp only [Act.put, List.setIfInBounds_toArray, List.set_cons_zero, List.set_cons_succ]
                  refine wpAnyH_done (by kernel_rfl) ?_ _
                  clear hHeld KH
                  go_wp2_with fail
                  go_meet
                  exact ⟨z2.heap.size, fa, fn, pa, pn, rfl, rfl, hid (box_set2 (BX3.out) _ _), hid (ShAt.off2 HS3.out (BX3.out) _ _), hid ((Bh3.out.setCell (p := ⟨z2.heap.size, 0, none⟩) gBX _).setCell (p := ⟨z2.heap.size, 1, none⟩) gBX _)⟩
                · obtain ⟨z5, hz5⟩ : ∃ W, z1.alloc (.cells #[.slice none 0 0, .slice none 0 0] 31 : Obj) = W := ⟨_, rfl⟩
                  go_simp
                  have hb : Below z1.heap.size z1 z5 := by rw [← hz5]; exact (gr_new _ _).below
                  have BX5 : Hid (z5.heap[z1.heap.size]? = some (.cells #[.slice none 0 0, .slice none 0 0] 31 (0, 0))) := by unfold Hid; rw [← hz5]; exact new_at _ _
                  have gBX : W2.heap.size ≤ z1.heap.size := Bh1.out.size
                  have Bh5 := hid (Bh1.out.trans (hb.mono Bh1.out.size))
                  clear hb hz5
                  refine hK.out _ _ (KH.out _ (kept Gbu1.out hlu Bh5.out) (kept Gbx1.out hlx Bh5.out)) (fun hHeld => ?_)
                  clear hK
                  refine wpAnyH_ready (rs := [4]) (by kernel_rfl) (by simp) ?_
                  refine AllReadyH.cons (o := ⟨some 148, .call { callee := .value (.func 20), args := #[.tmp 144, .tmp 147], argTypes := #[25, 34] }, 50, "law.go:83", #[⟨0, .data⟩, ⟨3, .data⟩, ⟨3, .chain⟩], none⟩) rfl (fun K hK => ?_) AllReadyH.nil
                  go_simp
                  refine (KLOC.out _ Bh5.out).mono ?_
                  rintro e z6 ⟨fa, fn, pa, pn, rfl, hS6, hb⟩
                  have HS := hid hS6
                  clear hS6
                  have Bh6 := hid (Bh5.out.trans (hb.mono Bh5.out.size))
                  have BX6 := hid (bx_bel BX5.out hb)
                  clear hb
                  refine hK.out _ _ (KH.out _ (kept Gbu1.out hlu Bh6.out) (kept Gbx1.out hlx Bh6.out)) (fun hHeld => ?_)
                  clear hK
                  refine tk 5 ⟨some 143, .move (.tmp 148), 50, "law.go:83", #[⟨4, .data⟩], none⟩ (v := ?_) hHeld ?_ ?_
                  rotate_left
                  · intro w hSw; (try dsimp only at hSw); go_simp; (try with_reducible rfl)
                  simp only [Act.put, List.setIfInBounds_toArray, List.set_cons_zero, List.set_cons_succ]
                  refine tk 6 ⟨some 149, .extract (.tmp 143) 0, 31, "law.go:83", #[⟨5, .data⟩], none⟩ (v := ?_) hHeld ?_ ?_
                  rotate_left
                  · intro w hSw; (try dsimp only at hSw); go_simp; (try with_reducible rfl)
                  simp only [Act.put, List.setIfInBounds_toArray, List.set_cons_zero, List.set_cons_succ]
                  refine tk 7 ⟨some 150, .extract (.tmp 143) 1, 4, "law.go:83", #[⟨5, .data⟩, ⟨9, .gcOnly .lateStores⟩], none⟩ (v := ?_) hHeld ?_ ?_
                  rotate_left
                  · intro w hSw; (try dsimp only at hSw); go_simp; (try with_reducible rfl)
                  simp only [Act.put, List.setIfInBounds_toArray, List.set_cons_zero, List.set_cons_succ]
                  refine wpAnyH_ready (rs := [9]) (by kernel_rfl) (by simp) ?_
                  refine AllReadyH.cons (o := ⟨none, .store 31 (.tmp 13) (.tmp 149), 0, "law.go:83", #[⟨8, .data⟩, ⟨6, .data⟩, ⟨4, .chain⟩, ⟨0, .phase⟩, ⟨1, .phase⟩, ⟨2, .phase⟩, ⟨3, .phase⟩, ⟨4, .phase⟩, ⟨5, .phase⟩, ⟨6, .phase⟩, ⟨7, .textOnly .lateStores⟩, ⟨8, .phase⟩], none⟩) rfl (fun K hK => ?_) AllReadyH.nil
                  obtain ⟨o0, o1, of⟩ := cells2 (BX6.out)
                  go_simp
                  clear o0 o1 of
                  refine hK.out _ _ (KH.out _ (((set_blk (z6.setCell ⟨z1.heap.size, 0, none⟩ (.slice fa r.fs.length fn)) (z1.heap.size) 1 (.slice pa r.pr.length pn) (w23.heap.size) (by omega)).trans ((set_blk z6 (z1.heap.size) 0 (.slice fa r.fs.length fn) (w23.heap.size) (by omega)).trans (kept Gbu1.out hlu Bh6.out)))) (((set_blk (z6.setCell ⟨z1.heap.size, 0, none⟩ (.slice fa r.fs.length fn)) (z1.heap.size) 1 (.slice pa r.pr.length pn) (V1.heap.size) (by omega)).trans ((set_blk z6 (z1.heap.size) 0 (.slice fa r.fs.length fn) (V1.heap.size) (by omega)).trans (kept Gbx1.out hlx Bh6.out))))) (fun hHeld => ?_)
                  clear hK
                  refine tk 10 ⟨some 14, .assign (.tmp 150), 4, "law.go:83", #[⟨7, .data⟩, ⟨9, .chain⟩, ⟨0, .phase⟩, ⟨1, .phase⟩, ⟨2, .phase⟩, ⟨3, .phase⟩, ⟨4, .phase⟩, ⟨5, .phase⟩, ⟨6, .phase⟩, ⟨7, .phase⟩, ⟨8, .phase⟩, ⟨9, .phase⟩], none⟩ (v := ?_) hHeld ?_ ?_
                  rotate_left
                  · intro w hSw; (try dsimp only at hSw); go_simp; (try with_reducible rfl)
                  simp only [Act.put, List.setIfInBounds_toArray, List.set_cons_zero, List.set_cons_succ]
                  refine wpAnyH_done (by kernel_rfl) ?_ _
                  clear hHeld KH
                  go_wp2_with fail
                  go_meet
                  exact ⟨z1.heap.size, fa, fn, pa, pn, rfl, rfl, hid (box_set2 (BX6.out) _ _), hid (ShAt.off2 HS.out (BX6.out) _ _), hid ((Bh6.out.setCell (p := ⟨z1.heap.size, 0, none⟩) gBX _).setCell (p := ⟨z1.heap.size, 1, none⟩) gBX _)⟩
              · obtain ⟨z8, hz8⟩ : ∃ W, W2.drew.alloc (.cells #[.slice none 0 0, .slice none 0 0] 31 : Obj) = W := ⟨_, rfl⟩
                go_simp
                have hb : Below W2.drew.heap.size W2.drew z8 := by rw [← hz8]; exact (gr_new _ _).below
                have BX8 : Hid (z8.heap[W2.heap.size]? = some (.cells #[.slice none 0 0, .slice none 0 0] 31 (0, 0))) := by unfold Hid; rw [← hz8]; exact new_at _ _
                have gBX : W2.heap.size ≤ W2.heap.size := Bh0.out.size
                have Bh8 := hid (Bh0.out.trans (hb.mono Bh0.out.size))
                clear hb hz8
                refine hK.out _ _ (KH.out _ (kept Gbu1.out hlu Bh8.out) (kept Gbx1.out hlx Bh8.out)) (fun hHeld => ?_)
                clear hK
                refine wpAnyH_ready (rs := [3]) (by kernel_rfl) (by simp) ?_
                refine AllReadyH.cons (o := ⟨some 147, .call { callee := .value (.func 18), args := #[.tmp 146], argTypes := #[3] }, 34, "law.go:83", #[⟨2, .data⟩], none⟩) rfl (fun K hK => ?_) AllReadyH.nil
                go_simp
                refine (KREC.out _ Bh8.out).mono ?_
                rintro e z9 ⟨rfl, hb⟩
                have Bh9 := hid (Bh8.out.trans (hb.mono Bh8.out.size))
                have BX9 := hid (bx_bel BX8.out hb)
                clear hb
                refine hK.out _ _ (KH.out _ (kept Gbu1.out hlu Bh9.out) (kept Gbx1.out hlx Bh9.out)) (fun hHeld => ?_)
                clear hK
                refine wpAnyH_ready (rs := [4]) (by kernel_rfl) (by simp) ?_
                refine AllReadyH.cons (o := ⟨some 148, .call { callee := .value (.func 20), args := #[.tmp 144, .tmp 147], argTypes := #[25, 34] }, 50, "law.go:83", #[⟨0, .data⟩, ⟨3, .data⟩, ⟨3, .chain⟩], none⟩) rfl (fun K hK => ?_) AllReadyH.nil
                go_simp
                refine (KLOC.out _ Bh9.out).mono ?_
                rintro e z10 ⟨fa, fn, pa, pn, rfl, hS10, hb⟩
                have HS := hid hS10
                clear hS10
                have Bh10 := hid (Bh9.out.trans (hb.mono Bh9.out.size))
                have BX10 := hid (bx_bel BX9.out hb)
                clear hb
                refine hK.out _ _ (KH.out _ (kept Gbu1.out hlu Bh10.out) (kept Gbx1.out hlx Bh10.out)) (fun hHeld => ?_)
                clear hK
                refine tk 5 ⟨some 143, .move (.tmp 148), 50, "law.go:83", #[⟨4, .data⟩], none⟩ (v := ?_) hHeld ?_ ?_
                rotate_left
                · intro w hSw; (try dsimp only at hSw); go_simp; (try with_reducible rfl)
                simp only [Act.put, List.setIfInBounds_toArray, List.set_cons_zero, List.set_cons_succ]
                refine tk 6 ⟨some 149, .extract (.tmp 143) 0, 31, "law.go:83", #[⟨5, .data⟩], none⟩ (v := ?_) hHeld ?_ ?_
                rotate_left
                · intro w hSw; (try dsimp only at hSw); go_simp; (try with_reducible rfl)
                simp only [Act.put, List.setIfInBounds_toArray, List.set_cons_zero, List.set_cons_succ]
                refine tk 7 ⟨some 150, .extract (.tmp 143) 1, 4, "law.go:83", #[⟨5, .data⟩, ⟨9, .gcOnly .lateStores⟩], none⟩ (v := ?_) hHeld ?_ ?_
                rotate_left
                · intro w hSw; (try dsimp only at hSw); go_simp; (try with_reducible rfl)
                simp only [Act.put, List.setIfInBounds_toArray, List.set_cons_zero, List.set_cons_succ]
                refine wpAnyH_ready (rs := [9]) (by kernel_rfl) (by simp) ?_
                refine AllReadyH.cons (o := ⟨none, .store 31 (.tmp 13) (.tmp 149), 0, "law.go:83", #[⟨8, .data⟩, ⟨6, .data⟩, ⟨4, .chain⟩, ⟨0, .phase⟩, ⟨1, .phase⟩, ⟨2, .phase⟩, ⟨3, .phase⟩, ⟨4, .phase⟩, ⟨5, .phase⟩, ⟨6, .phase⟩, ⟨7, .textOnly .lateStores⟩, ⟨8, .phase⟩], none⟩) rfl (fun K hK => ?_) AllReadyH.nil
                obtain ⟨o0, o1, of⟩ := cells2 (BX10.out)
                go_simp
                clear o0 o1 of
                refine hK.out _ _ (KH.out _ (((set_blk (z10.setCell ⟨W2.heap.size, 0, none⟩ (.slice fa r.fs.length fn)) (W2.heap.size) 1 (.slice pa r.pr.length pn) (w23.heap.size) (by omega)).trans ((set_blk z10 (W2.heap.size) 0 (.slice fa r.fs.length fn) (w23.heap.size) (by omega)).trans (kept Gbu1.out hlu Bh10.out)))) (((set_blk (z10.setCell ⟨W2.heap.size, 0, none⟩ (.slice fa r.fs.length fn)) (W2.heap.size) 1 (.slice pa r.pr.length pn) (V1.heap.size) (by omega)).trans ((set_blk z10 (W2.heap.size) 0 (.slice fa r.fs.length fn) (V1.heap.size) (by omega)).trans (kept Gbx1.out hlx Bh10.out))))) (fun hHeld => ?_)
                clear hK
                refine tk 10 ⟨some 14, .assign (.tmp 150), 4, "law.go:83", #[⟨7, .data⟩, ⟨9, .chain⟩, ⟨0, .phase⟩, ⟨1, .phase⟩, ⟨2, .phase⟩, ⟨3, .phase⟩, ⟨4, .phase⟩, ⟨5, .phase⟩, ⟨6, .phase⟩, ⟨7, .phase⟩, ⟨8, .phase⟩, ⟨9, .phase⟩], none⟩ (v := ?_) hHeld ?_ ?_
                rotate_left
                · intro w hSw; (try dsimp only at hSw); go_simp; (try with_reducible rfl)
                simp only [Act.put, List.setIfInBounds_toArray, List.set_cons_zero, List.set_cons_succ]
                refine wpAnyH_done (by kernel_rfl) ?_ _
                clear hHeld KH
                go_wp2_with fail
                go_meet
                exact ⟨W2.heap.size, fa, fn, pa, pn, rfl, rfl, hid (box_set2 (BX10.out) _ _), hid (ShAt.off2 HS.out (BX10.out) _ _), hid ((Bh10.out.setCell (p := ⟨W2.heap.size, 0, none⟩) gBX _).setCell (p := ⟨W2.heap.size, 1, none⟩) gBX _)⟩
            case rest =>
              obtain ⟨g13, fa, fn, pa, pn, rfl, rfl, hbx, hsh, hbel⟩ := hcut
              obtain ⟨W5, hW5⟩ : ∃ W, W = wc := ⟨_, rfl⟩
              have hb5 : Below W2.heap.size W2 W5 := by rw [hW5]; exact hbel.out
              have FN5 : Hid (W5.heap[g13]? = some (.cells #[.slice fa r.fs.length fn, .slice pa r.pr.length pn] 31 (0, 0))) := by rw [hW5]; exact hbx
              have FR5 : Hid (ShAt W5 (.agg #[.slice fa r.fs.length fn, .slice pa r.pr.length pn]) r) := by rw [hW5]; exact hsh
              have F5o := hid (Go1.out.bel hb5)
              have F5bx := hid (bx_bel Gbx1.out hb5)
              have F5bo := hid (bx_bel Gbo1.out hb5)
              have F5u := hid (Gu1.out.bel hb5)
              have F5bu := hid (bx_bel Gbu1.out hb5)
              have BQ := hid (BB1.out.trans (hb5.mono BB1.out.size))
              rw [← hW5]
              clear hbx hsh hbel hb5 hW5 KREC KLOC hlu hlx BB1 Go1 Gbx1 Gbo1 Gu1 Gbu1 GL1
              obtain ⟨xbx0, xbx1, _⟩ := cells2 F5bx.out
              obtain ⟨xbo0, xbo1, _⟩ := cells2 F5bo.out
              obtain ⟨xbu0, xbu1, xbu2, _⟩ := cells3 F5bu.out
              obtain ⟨xbn0, xbn1, _⟩ := cells2 FN5.out
              go_wp2_with fail
              have KH : Hid (∀ W, Below W5.heap.size W5 W → (W.cell? ⟨V1.heap.size, 0, none⟩ = some (.string n) ∧ W.cell? ⟨V1.heap.size, 1, none⟩ = some (.int .i64 k) ∧ W.cell? ⟨V3.heap.size, 0, none⟩ = some (.slice a5 o.fs.length c5) ∧ W.cell? ⟨V3.heap.size, 1, none⟩ = some (.slice b5 o.pr.length d5) ∧ W.cell? ⟨w23.heap.size, 0, none⟩ = some (.bool u.dead) ∧ W.cell? ⟨w23.heap.size, 1, none⟩ = some (.slice ua u.vs.length uc) ∧ W.cell? ⟨w23.heap.size, 2, none⟩ = some (.slice ub u.ls.length ud) ∧ W.cell? ⟨g13, 0, none⟩ = some (.slice fa r.fs.length fn) ∧ W.cell? ⟨g13, 1, none⟩ = some (.slice pa r.pr.length pn))) := fun W hb => by
                obtain ⟨ybx0, ybx1, _⟩ := cells2 (bx_bel F5bx.out hb)
                obtain ⟨ybo0, ybo1, _⟩ := cells2 (bx_bel F5bo.out hb)
                obtain ⟨ybu0, ybu1, ybu2, _⟩ := cells3 (bx_bel F5bu.out hb)
                obtain ⟨ybn0, ybn1, _⟩ := cells2 (bx_bel FN5.out hb)
                exact ⟨ybx0, ybx1, ybo0, ybo1, ybu0, ybu1, ybu2, ybn0, ybn1⟩
              clear xbx0 xbx1 xbo0 xbo1 xbu0 xbu1 xbu2 xbn0 xbn1
              refine wp_region_held_drew (S := fun W => W.cell? ⟨V1.heap.size, 0, none⟩ = some (.string n) ∧ W.cell? ⟨V1.heap.size, 1, none⟩ = some (.int .i64 k) ∧ W.cell? ⟨V3.heap.size, 0, none⟩ = some (.slice a5 o.fs.length c5) ∧ W.cell? ⟨V3.heap.size, 1, none⟩ = some (.slice b5 o.pr.length d5) ∧ W.cell? ⟨w23.heap.size, 0, none⟩ = some (.bool u.dead) ∧ W.cell? ⟨w23.heap.size, 1, none⟩ = some (.slice ua u.vs.length uc) ∧ W.cell? ⟨w23.heap.size, 2, none⟩ = some (.slice ub u.ls.length ud) ∧ W.cell? ⟨g13, 0, none⟩ = some (.slice fa r.fs.length fn) ∧ W.cell? ⟨g13, 1, none⟩ = some (.slice pa r.pr.length pn)) (by kernel_rfl) (KH.out _ (Below.refl _ _).drew) (fun hHeld => ?_)
              have hbd : Below W5.heap.size W5 W5.drew := (Gr.refl _).drew.below
              have RB0 := hid hbd
              have B76 := hid (BQ.out.trans (hbd.mono BQ.out.size))
              have Fo76 := hid (F5o.out.bel hbd)
              have Fbx76 := hid (bx_bel F5bx.out hbd)
              have Fbo76 := hid (bx_bel F5bo.out hbd)
              have Fu76 := hid (F5u.out.bel hbd)
              have Fbu76 := hid (bx_bel F5bu.out hbd)
              have Fn76 := hid (FR5.out.bel hbd)
              have Fbn76 := hid (bx_bel FN5.out hbd)
              clear BQ F5o F5bx F5bo F5u F5bu FR5 FN5
              clear hbd
              refine tk 0 ⟨some 151, .load 25 (.tmp 8), 25, "law.go:84", #[], none⟩ (v := ?_) hHeld ?_ ?_
              rotate_left
              · intro w hSw; (try dsimp only at hSw); go_simp; (try with_reducible rfl)
              simp only [Act.put, List.setIfInBounds_toArray, List.set_cons_zero, List.set_cons_succ]
              refine wpAnyH_ready (rs := [1]) (by kernel_rfl) (by simp) ?_
              refine AllReadyH.cons (o := ⟨some 152, .call { callee := .value (.func 15), args := #[.tmp 151], argTypes := #[25] }, 4, "law.go:84", #[⟨0, .data⟩], none⟩) rfl (fun K hK => ?_) AllReadyH.nil
              go_simp
              refine (rmaySt_any W5.drew _ u Fu76.out (M.smSt_mono Z.out.ku (by decide))).mono ?_
              rw [Z.out.mu]
              rintro e z77 ⟨rfl, hb⟩
              have B77 := hid (B76.out.trans (hb.mono B76.out.size))
              have Fo77 := hid (Fo76.out.bel hb)
              have Fbx77 := hid (bx_bel Fbx76.out hb)
              have Fbo77 := hid (bx_bel Fbo76.out hb)
              have Fu77 := hid (Fu76.out.bel hb)
              have Fbu77 := hid (bx_bel Fbu76.out hb)
              have Fn77 := hid (Fn76.out.bel hb)
              have Fbn77 := hid (bx_bel Fbn76.out hb)
              have RB77 := hid (RB0.out.trans (hb.mono RB0.out.size))
              clear B76 Fo76 Fbx76 Fbo76 Fu76 Fbu76 Fn76 Fbn76 RB0
              clear hb
              refine hK.out _ _ (KH.out _ RB77.out) (fun hHeld => ?_)
              refine tk 2 ⟨some 153, .move (.tmp 152), 4, "law.go:84", #[⟨1, .data⟩, ⟨1, .chain⟩], none⟩ (v := ?_) hHeld ?_ ?_
              rotate_left
              · intro w hSw; (try dsimp only at hSw); go_simp; (try with_reducible rfl)
              simp only [Act.put, List.setIfInBounds_toArray, List.set_cons_zero, List.set_cons_succ]
              refine tk 3 ⟨some 154, .move (.tmp 14), 4, "law.go:84", #[⟨2, .guard⟩], some (2, true)⟩ (v := ?_) hHeld ?_ ?_
              rotate_left
              · intro w hSw; (try dsimp only at hSw); go_simp; (try with_reducible rfl)
              simp only [Act.put, List.setIfInBounds_toArray, List.set_cons_zero, List.set_cons_succ]
              refine tk 4 ⟨some 155, .pick (.tmp 153) (.tmp 154) (.const (.bool false)), 4, "law.go:84", #[⟨2, .data⟩, ⟨3, .data⟩], none⟩ (v := ?_) hHeld ?_ ?_
              rotate_left
              · intro w hSw; (try dsimp only at hSw); go_simp; (try with_reducible rfl)
              simp only [Act.put, List.setIfInBounds_toArray, List.set_cons_zero, List.set_cons_succ]
              refine tk 5 ⟨some 156, .move (.tmp 155), 4, "law.go:84", #[⟨4, .data⟩, ⟨2, .chain⟩], none⟩ (v := ?_) hHeld ?_ ?_
              rotate_left
              · intro w hSw; (try dsimp only at hSw); go_simp; (try with_reducible rfl)
              simp only [Act.put, List.setIfInBounds_toArray, List.set_cons_zero, List.set_cons_succ]
              refine tk 6 ⟨some 157, .load 31 (.tmp 13), 31, "law.go:84", #[⟨5, .guard⟩], some (5, true)⟩ (v := ?_) hHeld ?_ ?_
              rotate_left
              · intro w hSw; (try dsimp only at hSw); go_simp; (try with_reducible rfl)
              simp only [Act.put, List.setIfInBounds_toArray, List.set_cons_zero, List.set_cons_succ]
              refine tk 7 ⟨some 158, .load 31 (.tmp 5), 31, "law.go:84", #[⟨5, .guard⟩], some (5, true)⟩ (v := ?_) hHeld ?_ ?_
              rotate_left
              · intro w hSw; (try dsimp only at hSw); go_simp; (try with_reducible rfl)
              simp only [Act.put, List.setIfInBounds_toArray, List.set_cons_zero, List.set_cons_succ]
              refine tk 8 ⟨some 159, .fieldAddr 27 (.tmp 4) 1, 0, "law.go:84", #[⟨5, .guard⟩], some (5, true)⟩ (v := ?_) hHeld ?_ ?_
              rotate_left
              · intro w hSw; (try dsimp only at hSw); go_simp; (try with_reducible rfl)
              simp only [Act.put, List.setIfInBounds_toArray, List.set_cons_zero, List.set_cons_succ]
              refine tk 9 ⟨some 160, .load 3 (.tmp 159), 3, "law.go:84", #[⟨8, .data⟩, ⟨5, .guard⟩], some (5, true)⟩ (v := ?_) hHeld ?_ ?_
              rotate_left
              · intro w hSw; (try dsimp only at hSw); go_simp; (try with_reducible rfl)
              simp only [Act.put, List.setIfInBounds_toArray, List.set_cons_zero, List.set_cons_succ]
              refine wpAnyH_ready (rs := [10]) (by kernel_rfl) (by simp) ?_
              refine AllReadyH.cons (o := ⟨some 161, .call { callee := .value (.func 22), args := #[.tmp 158, .tmp 160], argTypes := #[31, 3] }, 31, "law.go:84", #[⟨7, .data⟩, ⟨9, .data⟩, ⟨5, .chain⟩, ⟨5, .guard⟩], some (5, true)⟩) rfl (fun K hK => ?_) AllReadyH.nil
              go_simp
              refine (rrename_ok z77 _ o r k Fo77.out (M.sm_mono K2.out (by decide)) Hmo.out Z.out.er).mono ?_
              rintro e z78 ⟨ra, rn, rb, rm, rfl, hS, hb⟩
              have B78 := hid (B77.out.trans (hb.mono B77.out.size))
              have Fo78 := hid (Fo77.out.bel hb)
              have Fbx78 := hid (bx_bel Fbx77.out hb)
              have Fbo78 := hid (bx_bel Fbo77.out hb)
              have Fu78 := hid (Fu77.out.bel hb)
              have Fbu78 := hid (bx_bel Fbu77.out hb)
              have Fn78 := hid (Fn77.out.bel hb)
              have Fbn78 := hid (bx_bel Fbn77.out hb)
              have RB78 := hid (RB77.out.trans (hb.mono RB77.out.size))
              clear B77 Fo77 Fbx77 Fbo77 Fu77 Fbu77 Fn77 Fbn77 RB77
              have Fr78 := hid hS
              clear hS
              clear hb
              refine hK.out _ _ (KH.out _ RB78.out) (fun hHeld => ?_)
              refine wpAnyH_ready (rs := [11]) (by kernel_rfl) (by simp) ?_
              refine AllReadyH.cons (o := ⟨some 162, .call { callee := .value (.func 21), args := #[.tmp 157, .tmp 161], argTypes := #[31, 31] }, 4, "law.go:84", #[⟨6, .data⟩, ⟨10, .data⟩, ⟨10, .chain⟩, ⟨5, .guard⟩], some (5, true)⟩) rfl (fun K hK => ?_) AllReadyH.nil
              go_simp
              refine (rsameS_any z78 _ _ r r Fn78.out Fr78.out (M.sm_mono Z.out.kr (by decide))).mono ?_
              rw [Z.out.samer]
              rintro e z79 ⟨rfl, hb⟩
              have B79 := hid (B78.out.trans (hb.mono B78.out.size))
              have Fo79 := hid (Fo78.out.bel hb)
              have Fbx79 := hid (bx_bel Fbx78.out hb)
              have Fbo79 := hid (bx_bel Fbo78.out hb)
              have Fu79 := hid (Fu78.out.bel hb)
              have Fbu79 := hid (bx_bel Fbu78.out hb)
              have Fn79 := hid (Fn78.out.bel hb)
              have Fbn79 := hid (bx_bel Fbn78.out hb)
              have Fr79 := hid (Fr78.out.bel hb)
              have RB79 := hid (RB78.out.trans (hb.mono RB78.out.size))
              clear B78 Fo78 Fbx78 Fbo78 Fu78 Fbu78 Fn78 Fbn78 Fr78 RB78
              clear hb
              refine hK.out _ _ (KH.out _ RB79.out) (fun hHeld => ?_)
              refine tk 12 ⟨some 163, .pick (.tmp 156) (.tmp 162) (.const (.bool false)), 4, "law.go:84", #[⟨5, .data⟩, ⟨11, .data⟩], none⟩ (v := ?_) hHeld ?_ ?_
              rotate_left
              · intro w hSw; (try dsimp only at hSw); go_simp; (try with_reducible rfl)
              simp only [Act.put, List.setIfInBounds_toArray, List.set_cons_zero, List.set_cons_succ]
              refine tk 13 ⟨some 164, .move (.tmp 163), 4, "law.go:84", #[⟨12, .data⟩, ⟨11, .chain⟩], none⟩ (v := ?_) hHeld ?_ ?_
              rotate_left
              · intro w hSw; (try dsimp only at hSw); go_simp; (try with_reducible rfl)
              simp only [Act.put, List.setIfInBounds_toArray, List.set_cons_zero, List.set_cons_succ]
              refine tk 14 ⟨some 165, .load 25 (.tmp 8), 25, "law.go:84", #[⟨13, .guard⟩], some (13, true)⟩ (v := ?_) hHeld ?_ ?_
              rotate_left
              · intro w hSw; (try dsimp only at hSw); go_simp; (try with_reducible rfl)
              simp only [Act.put, List.setIfInBounds_toArray, List.set_cons_zero, List.set_cons_succ]
              refine tk 15 ⟨some 166, .fieldAddr 27 (.tmp 4) 0, 0, "law.go:84", #[⟨13, .guard⟩], some (13, true)⟩ (v := ?_) hHeld ?_ ?_
              rotate_left
              · intro w hSw; (try dsimp only at hSw); go_simp; (try with_reducible rfl)
              simp only [Act.put, List.setIfInBounds_toArray, List.set_cons_zero, List.set_cons_succ]
              refine tk 16 ⟨some 167, .load 9 (.tmp 166), 9, "law.go:84", #[⟨15, .data⟩, ⟨13, .guard⟩], some (13, true)⟩ (v := ?_) hHeld ?_ ?_
              rotate_left
              · intro w hSw; (try dsimp only at hSw); go_simp; (try with_reducible rfl)
              simp only [Act.put, List.setIfInBounds_toArray, List.set_cons_zero, List.set_cons_succ]
              refine tk 18 ⟨some 169, .fieldAddr 27 (.tmp 4) 1, 0, "law.go:84", #[⟨13, .guard⟩], some (13, true)⟩ (v := ?_) hHeld ?_ ?_
              rotate_left
              · intro w hSw; (try dsimp only at hSw); go_simp; (try with_reducible rfl)
              simp only [Act.put, List.setIfInBounds_toArray, List.set_cons_zero, List.set_cons_succ]
              refine tk 19 ⟨some 170, .load 3 (.tmp 169), 3, "law.go:84", #[⟨18, .data⟩, ⟨13, .guard⟩], some (13, true)⟩ (v := ?_) hHeld ?_ ?_
              rotate_left
              · intro w hSw; (try dsimp only at hSw); go_simp; (try with_reducible rfl)
              simp only [Act.put, List.setIfInBounds_toArray, List.set_cons_zero, List.set_cons_succ]
              refine wpAnyH_ready (rs := [17]) (by kernel_rfl) (by simp) ?_
              refine AllReadyH.cons (o := ⟨some 168, .call { callee := .value (.func 24), args := #[.tmp 165, .tmp 167], argTypes := #[25, 9] }, 29, "law.go:84", #[⟨14, .data⟩, ⟨16, .data⟩, ⟨13, .chain⟩, ⟨13, .guard⟩], some (13, true)⟩) rfl (fun K hK => ?_) AllReadyH.nil
              go_simp
              refine (rvar_in z79 _ u n ⟨4, k⟩ Fu79.out (M.smSt_mono Z.out.ku (by decide)) Z.out.va).mono ?_
              rintro e z80 ⟨va, vc, rfl, hA, hb⟩
              have B80 := hid (B79.out.trans (hb.mono B79.out.size))
              have Fo80 := hid (Fo79.out.bel hb)
              have Fbx80 := hid (bx_bel Fbx79.out hb)
              have Fbo80 := hid (bx_bel Fbo79.out hb)
              have Fu80 := hid (Fu79.out.bel hb)
              have Fbu80 := hid (bx_bel Fbu79.out hb)
              have Fn80 := hid (Fn79.out.bel hb)
              have Fbn80 := hid (bx_bel Fbn79.out hb)
              have RB80 := hid (RB79.out.trans (hb.mono RB79.out.size))
              clear B79 Fo79 Fbx79 Fbo79 Fu79 Fbu79 Fn79 Fbn79 RB79
              have Fv80 := hid hA
              clear hA
              clear hb
              refine hK.out _ _ (KH.out _ RB80.out) (fun hHeld => ?_)
              refine wpAnyH_ready (rs := [20]) (by kernel_rfl) (by simp) ?_
              refine AllReadyH.cons (o := ⟨some 171, .call { callee := .value (.func 18), args := #[.tmp 170], argTypes := #[3] }, 34, "law.go:84", #[⟨19, .data⟩, ⟨17, .chain⟩, ⟨13, .guard⟩], some (13, true)⟩) rfl (fun K hK => ?_) AllReadyH.nil
              go_simp
              refine (recv_any k z80).mono ?_
              rintro e z81 ⟨rfl, hb⟩
              have B81 := hid (B80.out.trans (hb.mono B80.out.size))
              have Fo81 := hid (Fo80.out.bel hb)
              have Fbx81 := hid (bx_bel Fbx80.out hb)
              have Fbo81 := hid (bx_bel Fbo80.out hb)
              have Fu81 := hid (Fu80.out.bel hb)
              have Fbu81 := hid (bx_bel Fbu80.out hb)
              have Fn81 := hid (Fn80.out.bel hb)
              have Fbn81 := hid (bx_bel Fbn80.out hb)
              have Fv81 := hid (Fv80.out.bel hb)
              have RB81 := hid (RB80.out.trans (hb.mono RB80.out.size))
              clear B80 Fo80 Fbx80 Fbo80 Fu80 Fbu80 Fn80 Fbn80 Fv80 RB80
              clear hb
              refine hK.out _ _ (KH.out _ RB81.out) (fun hHeld => ?_)
              refine wpAnyH_ready (rs := [21]) (by kernel_rfl) (by simp) ?_
              refine AllReadyH.cons (o := ⟨some 172, .buildSlice 29 1 #[(0, .tmp 171)], 29, "law.go:84", #[⟨20, .data⟩, ⟨13, .guard⟩], some (13, true)⟩) rfl (fun K hK => ?_) AllReadyH.nil
              obtain ⟨z82, hz82⟩ : ∃ W, z81.alloc (.cells #[.int .i64 4, .int .i64 k] 34 : Obj) = W := ⟨_, rfl⟩
              go_simp
              have hb : Below z81.heap.size z81 z82 := by rw [← hz82]; exact (gr_new _ _).below
              have FL82 : Hid (AtAt z82 (.slice (some ⟨z81.heap.size, 0, none⟩) 1 1) [⟨4, k⟩]) := by unfold Hid; rw [← hz82]; exact atAt_one (x := ⟨4, k⟩) HK.out
              have B83 := hid (B81.out.trans (hb.mono B81.out.size))
              have Fo83 := hid (Fo81.out.bel hb)
              have Fbx83 := hid (bx_bel Fbx81.out hb)
              have Fbo83 := hid (bx_bel Fbo81.out hb)
              have Fu83 := hid (Fu81.out.bel hb)
              have Fbu83 := hid (bx_bel Fbu81.out hb)
              have Fn83 := hid (Fn81.out.bel hb)
              have Fbn83 := hid (bx_bel Fbn81.out hb)
              have Fv83 := hid (Fv81.out.bel hb)
              have RB83 := hid (RB81.out.trans (hb.mono RB81.out.size))
              clear B81 Fo81 Fbx81 Fbo81 Fu81 Fbu81 Fn81 Fbn81 Fv81 RB81
              clear hb hz82
              refine hK.out _ _ (KH.out _ RB83.out) (fun hHeld => ?_)
              refine wpAnyH_ready (rs := [22]) (by kernel_rfl) (by simp) ?_
              refine AllReadyH.cons (o := ⟨some 173, .call { callee := .value (.func 23), args := #[.tmp 168, .tmp 172], argTypes := #[29, 29] }, 4, "law.go:84", #[⟨17, .data⟩, ⟨21, .data⟩, ⟨20, .chain⟩, ⟨13, .guard⟩], some (13, true)⟩) rfl (fun K hK => ?_) AllReadyH.nil
              go_simp
              refine (same_any z82 _ _ [⟨4, k⟩] [⟨4, k⟩] Fv83.out FL82.out (by simp)).mono ?_
              rw [Z.out.samel]
              rintro e z84 ⟨rfl, hb⟩
              have B84 := hid (B83.out.trans (hb.mono B83.out.size))
              have Fo84 := hid (Fo83.out.bel hb)
              have Fbx84 := hid (bx_bel Fbx83.out hb)
              have Fbo84 := hid (bx_bel Fbo83.out hb)
              have Fu84 := hid (Fu83.out.bel hb)
              have Fbu84 := hid (bx_bel Fbu83.out hb)
              have Fn84 := hid (Fn83.out.bel hb)
              have Fbn84 := hid (bx_bel Fbn83.out hb)
              have Fv84 := hid (Fv83.out.bel hb)
              have Fl84 := hid (FL82.out.bel hb)
              have RB84 := hid (RB83.out.trans (hb.mono RB83.out.size))
              clear B83 Fo83 Fbx83 Fbo83 Fu83 Fbu83 Fn83 Fbn83 Fv83 FL82 RB83
              clear hb
              refine hK.out _ _ (KH.out _ RB84.out) (fun hHeld => ?_)
              refine tk 23 ⟨some 174, .pick (.tmp 164) (.tmp 173) (.const (.bool false)), 4, "law.go:84", #[⟨13, .data⟩, ⟨22, .data⟩], none⟩ (v := ?_) hHeld ?_ ?_
              rotate_left
              · intro w hSw; (try dsimp only at hSw); go_simp; (try with_reducible rfl)
              simp only [Act.put, List.setIfInBounds_toArray, List.set_cons_zero, List.set_cons_succ]
              refine tk 24 ⟨some 6, .assign (.tmp 174), 4, "law.go:84", #[⟨23, .data⟩, ⟨22, .chain⟩, ⟨0, .phase⟩, ⟨1, .phase⟩, ⟨2, .phase⟩, ⟨3, .phase⟩, ⟨4, .phase⟩, ⟨5, .phase⟩, ⟨6, .phase⟩, ⟨7, .phase⟩, ⟨8, .phase⟩, ⟨9, .phase⟩, ⟨10, .phase⟩, ⟨11, .phase⟩, ⟨12, .phase⟩, ⟨13, .phase⟩, ⟨14, .phase⟩, ⟨15, .phase⟩, ⟨16, .phase⟩, ⟨17, .phase⟩, ⟨18, .phase⟩, ⟨19, .phase⟩, ⟨20, .phase⟩, ⟨21, .phase⟩, ⟨22, .phase⟩, ⟨23, .phase⟩], none⟩ (v := ?_) hHeld ?_ ?_
              rotate_left
              · intro w hSw; (try dsimp only at hSw); go_simp; (try with_reducible rfl)
              simp only [Act.put, List.setIfInBounds_toArray, List.set_cons_zero, List.set_cons_succ]
              refine wpAnyH_done (by kernel_rfl) ?_ _
              clear hHeld KH
              clear RB84
              go_wp2
              go_ret
              exact ⟨rfl, B84.out⟩
end Go.Proofs.YtbaaeobdjiglgaaGreat
