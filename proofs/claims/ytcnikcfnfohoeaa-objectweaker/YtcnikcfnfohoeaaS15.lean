/-
  The walk of object.written with the closures of Strong and Weak, and of object.Strong and Weak. Conditions: shapes of at most 100000 fields of as many atoms.
-/
import Derived.Test.YtcnikcfnfohoeaaSJ
set_option linter.unusedVariables false
set_option linter.unusedSimpArgs false
namespace Go.Proofs.Ytcnikcfnfohoeaa
open Go.RowKit Go.Sort
theorem set3' {B : Nat} {w W : World} {g p : Nat} (h : Below B w W) (hg : B ≤ g) (u v x : Value) : Below B w (((W.setCell ⟨g, p, none⟩ u).setCell ⟨g, p + 1, none⟩ v).setCell ⟨g, p + 2, none⟩ x) :=
  ((h.setCell (p := ⟨g, p, none⟩) hg u).setCell (p := ⟨g, p + 1, none⟩) hg v).setCell (p := ⟨g, p + 2, none⟩) hg x
namespace M
theorem set_withF {f : Fld} : ∀ {l : List Fld} {p : Nat}, RisF l → (hp : p < l.length) → l[p].nm = f.nm → l.set p f = withF f l
  | [], p, _, hp, _ => absurd hp (by simp)
  | y :: r, 0, _, _, e => by
    have e' : y.nm = f.nm := e
    unfold withF
    rw [if_pos e'.symm]; rfl
  | y :: r, p + 1, h, hp, e => by
    have a := List.pairwise_cons.1 h
    have hp' : p < r.length := by simpa using hp
    have e' : r[p].nm = f.nm := e
    have hl : ltN y.nm f.nm = true := by rw [← e']; exact a.1 _ (List.getElem_mem hp')
    unfold withF
    rw [if_neg (fun h => ltN_ne hl h.symm), if_neg (by rw [ltN_asymm hl]; simp), List.set_cons_succ, set_withF a.2 hp' e']
theorem ins_withF {f : Fld} : ∀ {l : List Fld} {p : Nat}, RisF l → p ≤ l.length → (∀ i (h : i < l.length), i < p → ltN l[i].nm f.nm = true) → (∀ i (h : i < l.length), p ≤ i → ltN f.nm l[i].nm = true) → l.take p ++ f :: l.drop p = withF f l
  | [], 0, _, _, _, _ => rfl
  | [], p + 1, _, hp, _, _ => absurd hp (by simp)
  | y :: r, 0, _, _, _, h2 => by
    have hl : ltN f.nm y.nm = true := h2 0 (by simp) (Nat.le_refl _)
    unfold withF
    rw [if_neg (ltN_ne hl), if_pos hl]; rfl
  | y :: r, p + 1, h, hp, h1, h2 => by
    have a := List.pairwise_cons.1 h
    have hl : ltN y.nm f.nm = true := h1 0 (by simp) (by omega)
    unfold withF
    rw [if_neg (fun h => ltN_ne hl h.symm), if_neg (by rw [ltN_asymm hl]; simp), List.take_succ_cons, List.drop_succ_cons, List.cons_append, ins_withF a.2 (by simpa using hp) (fun i hi hip => h1 (i + 1) (by simpa using hi) (by omega)) (fun i hi hip => h2 (i + 1) (by simpa using hi) (by omega))]
end M
theorem fldOf_set {R : List Cel} {p : Nat} {x : Cel} : fldOf (R.set p x) = (fldOf R).set p x.f := by simp [fldOf, List.map_set]
/-- what is behind g among the first j -/
def Fr (g : Nat) (R : List Cel) (j : Nat) : Prop := ∀ i (h : i < R.length), i < j → ∀ b o s, R[i].a = some ⟨b, o, s⟩ → g < b
theorem fr_set {g : Nat} {R : List Cel} {j : Nat} {x : Cel} (h : Fr g R j) (hj : j < R.length) (hx : ∀ b o s, x.a = some ⟨b, o, s⟩ → g < b) : Fr g (R.set j x) (j + 1) := fun i hi hij b o s e => by
  rw [List.length_set] at hi
  rw [List.getElem_set] at e
  split at e
  · exact hx b o s e
  · exact h i hi (by omega) b o s e
/-- all of a row have their atoms still behind a store over a field -/
theorem ones_set3 {w : World} {g p : Nat} {R : List Cel} {x1 : Cel} {u0 u1 u2 x0 y0 z0 : Value} (h : ∀ x ∈ R, OneAt w x) (h1 : OneAt w x1) (c0 : w.cell? ⟨g, p, none⟩ = some x0) (c1 : w.cell? ⟨g, p + 1, none⟩ = some y0) (c2 : w.cell? ⟨g, p + 2, none⟩ = some z0) (i0 : NoInt x0) (i1 : NoInt y0) (i2 : NoInt z0) (j : Nat) :
    ∀ x ∈ R.set j x1, OneAt (((w.setCell ⟨g, p, none⟩ u0).setCell ⟨g, p + 1, none⟩ u1).setCell ⟨g, p + 2, none⟩ u2) x := fun x hx => by
  rcases List.mem_or_eq_of_mem_set hx with hx | rfl
  · exact AtAt.set3n (h x hx) c0 c1 c2 i0 i1 i2
  · exact AtAt.set3n h1 c0 c1 c2 i0 i1 i2

set_option maxHeartbeats 4000000 in
set_option maxRecDepth 100000 in
theorem written_strong (w : World) (va : Value) (s : M.Shp) (n : ByteArray) (bx : Nat) (v : Value) (l : List M.Atm) (h1 : ShAt w va s) (K1 : M.Sm 100000 s) (hbx : w.heap[bx]? = some (.cells #[v] 23 (0, 0))) (hv : AtAt w v l) (hl : l.length ≤ 100000) :
    Calls Try.prog 41 #[va, .string n, .func (.func 42) #[] #[.pointer (some ⟨bx, 0, none⟩)]] w fun e w' => ∃ v', e = .returned v' ∧ ShNew w.heap.size w' v' (if M.mayS s then ⟨M.withF (⟨((M.getF s.fs n).getD ⟨n, false, []⟩).nm, true, M.norm l⟩) s.fs, s.pr⟩ else M.zeroS) ∧ Below w.heap.size w w' := by
  have mixed := mixedP
  obtain ⟨res, hres⟩ : ∃ r, (if M.mayS s then (⟨M.withF (⟨((M.getF s.fs n).getD ⟨n, false, []⟩).nm, true, M.norm l⟩) s.fs, s.pr⟩ : M.Shp) else M.zeroS) = r := ⟨_, rfl⟩
  rw [hres]
  have T1 := hid h1
  obtain ⟨R, a, c, b, d, hs, rfl, hR, hP⟩ := h1.open
  obtain ⟨n1, v1, p1⟩ := sm_fs K1 hs
  have HF : Hid (s.fs = fldOf R) := hid (by rw [hs])
  have HK1 := hid K1
  have HR := hid hR
  have HV1 := hid v1
  have HVV := hid hv
  have HBX := hid hbx
  have hblt : bx < w.heap.size := (Array.getElem?_eq_some_iff.1 hbx).1
  
  obtain ⟨sp, hsp⟩ : ∃ x, s.pr = x := ⟨_, rfl⟩
  rw [hsp] at hres hP p1 T1 ⊢
  have HP := hid hP
  have HI : Hid (∀ x ∈ sp, InR x.n) := hP.1
  have HRES := hid hres
  clear h1 hs hR hP K1 v1 hv hbx hres hsp 
  obtain ⟨A1, hA1⟩ : ∃ o, (.cells #[.slice a R.length c, .slice b sp.length d] 25 : Obj) = o := ⟨_, rfl⟩
  obtain ⟨A2, hA2⟩ : ∃ o, (.cells #[.slice none 0 0, .slice none 0 0] 25 : Obj) = o := ⟨_, rfl⟩
  obtain ⟨W0, hW0⟩ : ∃ W0, (w.alloc A1).alloc A2 = W0 := ⟨_, rfl⟩
  have b1 := (gr_new w A1).below
  have b2 := (gr_new (w.alloc A1) A2).below
  have p3 : W0.heap[w.heap.size]? = some A1 := by rw [← hW0]; exact kept (B := (w.alloc A1).heap.size) (new_at w A1) (by simp) b2
  have p4 : W0.heap[w.heap.size + 1]? = some A2 := by
    rw [← hW0]
    have := new_at (w.alloc A1) A2
    rw [World.size_alloc] at this
    exact this
  have hz : w.heap.size + 2 ≤ W0.heap.size := by rw [← hW0]; simp
  have B0 : Hid (Below w.heap.size w W0) := by unfold Hid; rw [← hW0]; exact b1.trans (b2.mono b1.size)
  rw [← hA1] at p3
  rw [← hA2] at p4
  subst hA1 hA2
  have P1 := hid p3
  have P2 := hid p4
  obtain ⟨x1, x2, _⟩ := cells2 p3
  clear b1 b2 p3 p4
  have KA := omay_any W0 _ s (T1.out.bel B0.out) HK1.out
  cases ms : M.mayS s with
  | false =>
    rw [ms] at KA
    have HKA := hid KA
    have MS := hid ms
    clear KA ms
    go_enter Try.func41, Try.ntmps41
    go_wp2_with (go_at_call 13; refine stopHere ?_)
    refine stopAt ?_
    refine HKA.out.mono ?_
    rintro e w1 ⟨rfl, hb1⟩
    clear hW0 x1 x2
    obtain ⟨z0, z1, zf⟩ := cells2 (kept P2.out (by omega) hb1)
    go_wp2
    refine bodyPost_ret (v := .agg #[.slice none 0 0, .slice none 0 0]) (by simp [results, Try.results41, go_sem, z0, z1]) rfl ?_
    rw [← HRES.out, MS.out]
    exact ⟨_, rfl, ShNew.zero _ _, set2b (B0.out.trans (hb1.mono B0.out.size)) (by omega) _ _⟩
  | true =>
    rw [ms] at KA
    have HKA := hid KA
    have MS := hid ms
    clear KA ms
    go_enter Try.func41, Try.ntmps41
    go_wp2_with (go_at_call 13; refine stopHere ?_)
    refine stopAt ?_
    refine HKA.out.mono ?_
    rintro e w1 ⟨rfl, hb1⟩
    have B1 : Hid (Below w.heap.size w w1) := B0.out.trans (hb1.mono B0.out.size)
    have hz1 : w.heap.size + 2 ≤ w1.heap.size := Nat.le_trans hz hb1.size
    have Q1 := hid (kept P1.out (by omega) hb1)
    have Q2 := hid (kept P2.out (by omega) hb1)
    clear hW0 x1 x2 hb1
    obtain ⟨x1, x2, _⟩ := cells2 Q1.out
    have KC := hid (cloneF_any w1 _ R (HR.out.bel B1.out) (by omega))
    go_wp2_with (go_at_call 46; refine stopHere ?_)
    refine stopAt ?_
    refine KC.out.mono ?_
    rintro e w2 ⟨v2, rfl, hrow2, hb2⟩
    clear x1 x2 KC
    have hone2 : ∀ x ∈ R, OneAt w2 x := fun x hx => ((HR.out.1 x hx).bel B1.out).bel hb2
    have B2 := hid hb2
    have RS2 := hid hrow2
    have O2 := hid hone2
    obtain ⟨q2, m2, rfl⟩ := hrow2.form
    have hform := owns_form3 hrow2
    clear hrow2 hone2 hb2
    go_wp2
    go_loopw [21] (fun i w' => ∃ (j : Nat) (acc : List Cel), j ≤ R.length ∧ i = .int .i64 j ∧ Hid (acc.length = R.length) ∧ Hid (fldOf acc = fldOf R) ∧ Hid (RowF w1.heap.size w' (.slice q2 R.length m2) acc) ∧ Hid (∀ x ∈ acc, OneAt w' x) ∧ Hid (∀ g, q2 = some ⟨g, 0, none⟩ → Fr g acc j) ∧ Hid (Below w1.heap.size w1 w')) (fun i _ => R.length - (intOf i).toNat)
    case atStart => exact ⟨0, R, Nat.zero_le _, rfl, rfl, rfl, RS2, O2, (fun _ _ _ _ h => absurd h (Nat.not_lt_zero _)), B2⟩
    case round =>
      clear RS2 O2 B2
      obtain ⟨j, acc, hj, rfl, hlen, hfl, hrow, hone, hfr, hbel⟩ := hrel
      by_cases hjl : j < R.length
      · obtain ⟨g, rfl⟩ : ∃ g, q2 = some ⟨g, 0, none⟩ := by
          rcases hform with ⟨e, h0⟩ | ⟨g, cap, e⟩
          · omega
          · simp only [Value.slice.injEq] at e
            exact ⟨g, e.1⟩
        have hja : j < acc.length := by have := hlen.out; omega
        obtain ⟨htri, hgw, hgb, _, _, hfz⟩ := hrow.out.tri
        have HX := hid (hone.out _ (List.getElem_mem hja))
        obtain ⟨c1, c2, c3⟩ := htri j hja
        have hxl : acc[j].f.vs.length ≤ 100000 := by
          have : acc[j].f ∈ fldOf R := by rw [← hfl.out]; exact List.mem_map.2 ⟨_, List.getElem_mem hja, rfl⟩
          obtain ⟨z, hz, e⟩ := List.mem_map.1 this
          rw [← e]; exact HV1.out z hz
        obtain ⟨x, hx⟩ : ∃ x, acc[j] = x := ⟨_, rfl⟩
        rw [hx] at c1 c2 c3 HX hxl
        have HXE := hid hx
        clear hx htri
        obtain ⟨W1, hW1⟩ : ∃ W1, wr.alloc (.cells #[.string x.f.nm, .bool x.f.su, .slice x.a x.f.vs.length x.c] 29) = W1 := ⟨_, rfl⟩
        have hB1 : Below wr.heap.size wr W1 := by rw [← hW1]; exact (gr_new _ _).below
        obtain ⟨u1, u2, u3, uf⟩ := cells3 (show W1.heap[wr.heap.size]? = some (.cells #[.string x.f.nm, .bool x.f.su, .slice x.a x.f.vs.length x.c] 29) by rw [← hW1]; exact new_at _ _)
        have K2 := copied_any W1 x (HX.out.bel hB1) (by omega)
        unfold fv at K2
        have HK2 := hid K2
        have RW1 := hid (hrow.out.keep hB1)
        have OW1 : Hid (∀ x ∈ acc, OneAt W1 x) := fun x hx => (hone.out x hx).bel hB1
        have BW1 : Hid (Below w1.heap.size w1 W1) := hbel.out.trans (hB1.mono hbel.out.size)
        have hgW : g < W1.heap.size := Nat.lt_of_lt_of_le hgw hB1.size
        clear K2 hrow hone
        go_wp2_with (go_at_call 33; refine stopHere ?_)
        refine stopAt ?_
        refine HK2.out.mono ?_
        rintro e w3 ⟨z, rfl, hzf, hoz, hoff, hb3⟩
        have HZF := hid hzf
        have HOZ := hid hoz
        have HZO : Hid (∀ b o s, z.a = some ⟨b, o, s⟩ → g < b) := fun b o s e => by have := hoff b o s e; omega
        have RW3 := hid (RW1.out.keep hb3)
        have OW3 : Hid (∀ x ∈ acc, OneAt w3 x) := fun x hx => (OW1.out x hx).bel hb3
        have BW3 : Hid (Below w1.heap.size w1 w3) := BW1.out.trans (hb3.mono BW1.out.size)
        obtain ⟨d1, d2, d3⟩ := RW3.out.tri.1 j hja
        have df := RW3.out.tri.2.2.2.2.2
        have hji : (j : Int) < (R.length : Int) := by omega
        clear hzf hoz hoff hb3 hW1 c1 c2 c3 u1 u2 u3 uf hfz
        go_wp2
        refine ⟨⟨j + 1, acc.set j z, by omega, by go_num, by show _ = _; rw [List.length_set]; exact hlen.out, ?_, ?_, ?_, ?_, ?_⟩, by simp [intOf]; omega⟩
        · show _ = _
          rw [fldOf_set, HZF.out, ← hfl.out]
          have : x.f = (fldOf acc)[j]'(by rw [fldOf_len]; exact hja) := by rw [fldOf_get acc j hja, HXE.out]
          rw [this, List.set_getElem_self]
        · have h0 := hlen.out
          have := RW3.out
          rw [← h0] at this ⊢
          exact RowF.set this hja z
        · exact ones_set3 OW3.out HOZ.out d1 d2 d3 (noInt_s _) (noInt_b _) (noInt_v _ _ _) j
        · intro g' e'
          obtain rfl : g = g' := by simpa using e'
          exact fr_set (hfr.out g rfl) hja HZO.out
        · exact set3' BW3.out hgb _ _ _
      · have hje : j = R.length := by omega
        have HJE := hid hje
        have HRIS : Hid (M.RisF (fldOf acc)) := by unfold Hid; rw [hfl.out, ← HF.out]; exact M.ris_may MS.out
        have HACC := hfl
        have hl0 := hlen.out
        have hrow0 := hrow.out
        rw [← hl0] at hrow0
        have RW := hid hrow0
        have KP := hid (place_any wr _ acc n (hrow0.at hone.out) (by omega) HRIS.out)
        have hal : acc.length ≤ 100000 := by omega
        have hform2 := hform
        rw [← hl0] at hform2 hjl ⊢
        clear hje hrow0 hl0 hform hrow
        go_wp2_with (go_at_call 61; refine stopHere ?_)
        refine stopAt ?_
        refine KP.out.mono ?_
        rintro e w6 ⟨p, th, rfl, hPL, hg6⟩
        have HPL := hid hPL
        have B6 : Hid (Below w1.heap.size w1 w6) := hbel.out.trans (hg6.below.mono hbel.out.size)
        have R6 := hid (RW.out.keep hg6.below)
        have O6 : Hid (∀ x ∈ acc, OneAt w6 x) := fun x hx => (hone.out x hx).bel hg6.below
        have HBX6 := hid (kept (kept HBX.out hblt B1.out) (Nat.lt_of_lt_of_le hblt B1.out.size) B6.out)
        have HV6 := hid ((HVV.out.bel B1.out).bel B6.out)
        have hb6 : bx < w1.heap.size := Nat.lt_of_lt_of_le hblt B1.out.size
        have h6z := B6.out.size
        clear hPL hg6
        cases th with
        | true =>
          obtain ⟨hp, _⟩ := place_get HRIS.out HPL.out
          obtain ⟨g, rfl⟩ : ∃ g, q2 = some ⟨g, 0, none⟩ := by
            rcases hform2 with ⟨e, h0⟩ | ⟨g, cap, e⟩
            · omega
            · simp only [Value.slice.injEq] at e
              exact ⟨g, e.1⟩
          have GB : Hid (w1.heap.size ≤ g) := R6.out.tri.2.2.1
          have hgb := GB.out
          have hpl : acc[p].f.vs.length ≤ 100000 := by
            have : acc[p].f ∈ fldOf R := by rw [← HACC.out]; exact List.mem_map.2 ⟨_, List.getElem_mem hp, rfl⟩
            obtain ⟨z, hz, e⟩ := List.mem_map.1 this
            rw [← e]; exact HV1.out z hz
          have HCL := hid (strong1_any w6 w1.heap.size g m2 bx p acc v l R6.out O6.out hp (by rw [Lib.cell_of_heap HBX6.out]; rfl) (by omega) (by omega) HV6.out hl)
          have hpi : (p : Int) < (acc.length : Int) := by omega
          have HNM : Hid (acc[p].f.nm = n) := by
            obtain ⟨h, e⟩ := of_decide_eq_true HPL.out.2.2.symm
            exact e
          go_wp2_with (first | (go_at_call 42; refine stopHere ?_) | (go_at_fn 42; refine stopHere ?_))
          refine stopAt ?_
          refine HCL.out.mono ?_
          rintro e w7 ⟨rfl, x', hxf, hrow7, hone7, hg7⟩
          have HXF := hid hxf
          have R7 := hid hrow7
          have O7 := hid hone7
          have B7 : Hid (Below w1.heap.size w1 w7) := B6.out.grown hg7 B6.out.size (fun k e => by cases e; exact GB.out)
          obtain ⟨y1, y2, yf⟩ := cells2 (kept Q1.out (by omega) B7.out)
          have HPC := hid (clone_any w7 _ sp ((HP.out.bel B1.out).bel B7.out) (by omega))
          have HFIN : Hid (fldOf (acc.set p x') = M.withF (⟨((M.getF s.fs n).getD ⟨n, false, []⟩).nm, true, M.norm l⟩) s.fs) := by
            unfold Hid
            obtain ⟨hp2, hge⟩ := place_get HRIS.out HPL.out
            rw [fldOf_set, HXF.out, HF.out, ← HACC.out, hge, Option.getD_some]
            exact M.set_withF HRIS.out (by rw [fldOf_len]; exact hp) (by rw [fldOf_get acc p hp])
          clear hxf hrow7 hone7 hg7 
          go_wp2_with (go_at_call 50; refine stopHere ?_)
          refine stopAt ?_
          refine HPC.out.mono ?_
          rintro e w8 ⟨v8, rfl, hown8, hb8⟩
          have hr8 : RowA w7.heap.size w8 v8 sp := hown8
          have A8 := hid (hr8.at HI.out)
          obtain ⟨q8, m8, rfl⟩ := hr8.form
          have R8 := hid (R7.out.keep hb8)
          have O8 := hid (fun x hx => (O7.out x hx).bel hb8)
          have B8 : Hid (Below w.heap.size w w8) := B1.out.trans ((B7.out.trans (hb8.mono B7.out.size)).mono B1.out.size)
          have hz7 : w.heap.size + 1 < w7.heap.size := by have := B7.out.size; omega
          obtain ⟨z0, z1, zf⟩ := cells2 (kept (kept Q2.out (by omega) B7.out) hz7 hb8)
          clear hown8 hb8 hr8 y1 y2 yf
          go_wp2
          refine bodyPost_ret (v := .agg #[.slice (some ⟨g, 0, none⟩) acc.length m2, .slice q8 sp.length m8]) (by simp [results, Try.results41, go_sem, z0, z1]) rfl ?_
          rw [← HRES.out, MS.out]
          refine ⟨_, rfl, ?_, set2b B8.out (by omega) _ _⟩
          have hsh : ShNew (w.heap.size + 2) w8 (.agg #[.slice (some ⟨g, 0, none⟩) acc.length m2, .slice q8 sp.length m8]) ⟨M.withF (⟨((M.getF s.fs n).getD ⟨n, false, []⟩).nm, true, M.norm l⟩) s.fs, sp⟩ :=
            ⟨_, _, rfl, ⟨acc.set p x', HFIN.out, R8.out.mono (by omega), O8.out⟩, A8.out⟩
          exact (hsh.set2 (by omega) z0 z1 (noInt_v _ _ _) (noInt_v _ _ _)).mono (by omega)
        | false =>
          have HNO := hid (place_none HRIS.out HPL.out)
          have hple : p ≤ acc.length := HPL.out.1
          obtain ⟨W6, hW6⟩ : ∃ W, w6.alloc (.cells #[.string n, .bool false, .slice none 0 0] 29) = W := ⟨_, rfl⟩
          have bW : Below w6.heap.size w6 W6 := by rw [← hW6]; exact (gr_new _ _).below
          have NB : W6.heap[w6.heap.size]? = some (.cells #[.string n, .bool false, .slice none 0 0] 29 (0, 0)) := by rw [← hW6]; exact new_at _ _
          have hob : (.slice q2 acc.length m2 : Value).ownBlock ≠ some w6.heap.size := fun e => by
            rcases R6.out.2 with ⟨e1, _⟩ | ⟨g', c', u', e1, _, e2, _⟩
            · rw [e1] at e; cases e
            · rw [e1] at e
              have h1 := Option.some.inj e
              have h2 := (Array.getElem?_eq_some_iff.1 e2).1
              have h3 : g' = w6.heap.size := h1
              omega
          have HIN := hid (insertF_any W6 w1.heap.size (.slice q2 acc.length m2) acc p w6.heap.size (⟨⟨n, false, []⟩, none, 0⟩ : Cel) (R6.out.keep bW) (by have := bW.size; omega) hple (by omega) NB hob)
          have B6' : Hid (Below w1.heap.size w1 W6) := B6.out.trans (bW.mono B6.out.size)
          have R6' := hid (R6.out.keep bW)
          have O6' : Hid (∀ x ∈ acc, OneAt W6 x) := fun x hx => (O6.out x hx).bel bW
          clear bW NB hob
          go_wp2_with (first | (go_at_call 62; refine stopHere ?_))
          refine stopAt ?_
          refine HIN.out.mono ?_
          rintro e wi ⟨vi, rfl, hrowi, hgi⟩
          have BI : Hid (Below w1.heap.size w1 wi) := B6'.out.grown hgi B6'.out.size R6'.out.blk
          obtain ⟨acc7, hacc7⟩ : ∃ l, acc.take p ++ (⟨⟨n, false, []⟩, none, 0⟩ : Cel) :: acc.drop p = l := ⟨_, rfl⟩
          have hp7 : p < acc7.length := by rw [← hacc7]; simp only [List.length_append, List.length_take, List.length_cons, List.length_drop]; omega
          have hx7 : acc7[p] = (⟨⟨n, false, []⟩, none, 0⟩ : Cel) := by
            have h : acc7[p]? = some (⟨⟨n, false, []⟩, none, 0⟩ : Cel) := by rw [← hacc7]; exact ins_get hple
            exact (List.getElem?_eq_some_iff.1 h).2
          have OI : Hid (∀ x ∈ acc7, OneAt wi x) := by
            unfold Hid
            rw [← hacc7]
            refine ins_all (fun x hx => ?_) (AtAt.nil wi)
            rcases hform2 with ⟨e, h0⟩ | ⟨g, cap, e⟩
            · rw [List.length_eq_zero_iff.1 h0] at hx; cases hx
            · simp only [Value.slice.injEq] at e
              obtain ⟨rfl, _, _⟩ := e
              have hj2 := HJE.out
              have hl2 := hlen.out
              obtain ⟨i, hi, rfl⟩ := List.getElem_of_mem hx
              exact AtAt.grown (O6'.out _ hx) hgi (fun b o s e => hfr.out g rfl i hi (by omega) b o s e)
          rw [hacc7] at hrowi
          obtain ⟨g, mi, rfl⟩ : ∃ g m, vi = .slice (some ⟨g, 0, none⟩) acc7.length m := by
            rcases owns_form3 hrowi with ⟨e, h0⟩ | ⟨g, cap, e⟩
            · omega
            · exact ⟨g, cap, e⟩
          have RI := hid hrowi
          have GB : Hid (w1.heap.size ≤ g) := hrowi.tri.2.2.1
          have hgb := GB.out
          have HBXI := hid (kept (kept HBX.out hblt B1.out) (Nat.lt_of_lt_of_le hblt B1.out.size) BI.out)
          have HVI := hid ((HVV.out.bel B1.out).bel BI.out)
          have hiz := BI.out.size
          have HX7 := hid hx7
          have HA7 := hid hacc7
          have HCL := hid (strong1_any wi w1.heap.size g mi bx p acc7 v l RI.out OI.out hp7 (by rw [Lib.cell_of_heap HBXI.out]; rfl) (by omega) (by omega) HVI.out hl)
          have hpi : (p : Int) < (acc7.length : Int) := by omega
          clear hrowi hgi hx7 hacc7
          go_wp2_with (first | (go_at_call 42; refine stopHere ?_) | (go_at_fn 42; refine stopHere ?_))
          refine stopAt ?_
          refine HCL.out.mono ?_
          rintro e w7 ⟨rfl, x', hxf, hrow7, hone7, hg7⟩
          have HXF := hid hxf
          have R7 := hid hrow7
          have O7 := hid hone7
          have B7 : Hid (Below w1.heap.size w1 w7) := BI.out.grown hg7 BI.out.size (fun k e => by cases e; exact GB.out)
          obtain ⟨y1, y2, yf⟩ := cells2 (kept Q1.out (by omega) B7.out)
          have HPC := hid (clone_any w7 _ sp ((HP.out.bel B1.out).bel B7.out) (by omega))
          have HFIN : Hid (fldOf (acc7.set p x') = M.withF (⟨((M.getF s.fs n).getD ⟨n, false, []⟩).nm, true, M.norm l⟩) s.fs) := by
            unfold Hid
            rw [HF.out, ← HACC.out, HNO.out, Option.getD_none, ← HA7.out, ins_set HPL.out.1, fldOf_ins]
            have e7 : x'.f = (⟨(⟨n, false, []⟩ : M.Fld).nm, true, M.norm l⟩ : M.Fld) := by rw [HXF.out, HX7.out]
            rw [e7]
            exact M.ins_withF HRIS.out (by rw [fldOf_len]; exact HPL.out.1) (fun i hi hip => place_below HPL.out (by rw [fldOf_len] at hi; exact hi) hip) (fun i hi hip => place_above HRIS.out HPL.out (by rw [fldOf_len] at hi; exact hi) hip)
          clear hxf hrow7 hone7 hg7 
          go_wp2_with (go_at_call 50; refine stopHere ?_)
          refine stopAt ?_
          refine HPC.out.mono ?_
          rintro e w8 ⟨v8, rfl, hown8, hb8⟩
          have hr8 : RowA w7.heap.size w8 v8 sp := hown8
          have A8 := hid (hr8.at HI.out)
          obtain ⟨q8, m8, rfl⟩ := hr8.form
          have R8 := hid (R7.out.keep hb8)
          have O8 := hid (fun x hx => (O7.out x hx).bel hb8)
          have B8 : Hid (Below w.heap.size w w8) := B1.out.trans ((B7.out.trans (hb8.mono B7.out.size)).mono B1.out.size)
          have hz7 : w.heap.size + 1 < w7.heap.size := by have := B7.out.size; omega
          obtain ⟨z0, z1, zf⟩ := cells2 (kept (kept Q2.out (by omega) B7.out) hz7 hb8)
          clear hown8 hb8 hr8 y1 y2 yf
          go_wp2
          refine bodyPost_ret (v := .agg #[.slice (some ⟨g, 0, none⟩) acc7.length mi, .slice q8 sp.length m8]) (by simp [results, Try.results41, go_sem, z0, z1]) rfl ?_
          rw [← HRES.out, MS.out]
          refine ⟨_, rfl, ?_, set2b B8.out (by omega) _ _⟩
          have hsh : ShNew (w.heap.size + 2) w8 (.agg #[.slice (some ⟨g, 0, none⟩) acc7.length mi, .slice q8 sp.length m8]) ⟨M.withF (⟨((M.getF s.fs n).getD ⟨n, false, []⟩).nm, true, M.norm l⟩) s.fs, sp⟩ :=
            ⟨_, _, rfl, ⟨acc7.set p x', HFIN.out, R8.out.mono (by omega), O8.out⟩, A8.out⟩
          exact (hsh.set2 (by omega) z0 z1 (noInt_v _ _ _) (noInt_v _ _ _)).mono (by omega)

set_option maxHeartbeats 4000000 in
set_option maxRecDepth 100000 in
theorem written_weak (w : World) (va : Value) (s : M.Shp) (n : ByteArray) (bx : Nat) (v : Value) (l : List M.Atm) (h1 : ShAt w va s) (K1 : M.Sm 100000 s) (hbx : w.heap[bx]? = some (.cells #[v] 23 (0, 0))) (hv : AtAt w v l) (hl : l.length ≤ 100000) :
    Calls Try.prog 41 #[va, .string n, .func (.func 45) #[] #[.pointer (some ⟨bx, 0, none⟩)]] w fun e w' => ∃ v', e = .returned v' ∧ ShNew w.heap.size w' v' (if M.mayS s then ⟨M.withF (⟨((M.getF s.fs n).getD ⟨n, false, []⟩).nm, ((M.getF s.fs n).getD ⟨n, false, []⟩).su, M.norm (((M.getF s.fs n).getD ⟨n, false, []⟩).vs ++ l)⟩) s.fs, s.pr⟩ else M.zeroS) ∧ Below w.heap.size w w' := by
  have mixed := mixedP
  obtain ⟨res, hres⟩ : ∃ r, (if M.mayS s then (⟨M.withF (⟨((M.getF s.fs n).getD ⟨n, false, []⟩).nm, ((M.getF s.fs n).getD ⟨n, false, []⟩).su, M.norm (((M.getF s.fs n).getD ⟨n, false, []⟩).vs ++ l)⟩) s.fs, s.pr⟩ : M.Shp) else M.zeroS) = r := ⟨_, rfl⟩
  rw [hres]
  have T1 := hid h1
  obtain ⟨R, a, c, b, d, hs, rfl, hR, hP⟩ := h1.open
  obtain ⟨n1, v1, p1⟩ := sm_fs K1 hs
  have HF : Hid (s.fs = fldOf R) := hid (by rw [hs])
  have HK1 := hid K1
  have HR := hid hR
  have HV1 := hid v1
  have HVV := hid hv
  have HBX := hid hbx
  have hblt : bx < w.heap.size := (Array.getElem?_eq_some_iff.1 hbx).1
  
  obtain ⟨sp, hsp⟩ : ∃ x, s.pr = x := ⟨_, rfl⟩
  rw [hsp] at hres hP p1 T1 ⊢
  have HP := hid hP
  have HI : Hid (∀ x ∈ sp, InR x.n) := hP.1
  have HRES := hid hres
  clear h1 hs hR hP K1 v1 hv hbx hres hsp 
  obtain ⟨A1, hA1⟩ : ∃ o, (.cells #[.slice a R.length c, .slice b sp.length d] 25 : Obj) = o := ⟨_, rfl⟩
  obtain ⟨A2, hA2⟩ : ∃ o, (.cells #[.slice none 0 0, .slice none 0 0] 25 : Obj) = o := ⟨_, rfl⟩
  obtain ⟨W0, hW0⟩ : ∃ W0, (w.alloc A1).alloc A2 = W0 := ⟨_, rfl⟩
  have b1 := (gr_new w A1).below
  have b2 := (gr_new (w.alloc A1) A2).below
  have p3 : W0.heap[w.heap.size]? = some A1 := by rw [← hW0]; exact kept (B := (w.alloc A1).heap.size) (new_at w A1) (by simp) b2
  have p4 : W0.heap[w.heap.size + 1]? = some A2 := by
    rw [← hW0]
    have := new_at (w.alloc A1) A2
    rw [World.size_alloc] at this
    exact this
  have hz : w.heap.size + 2 ≤ W0.heap.size := by rw [← hW0]; simp
  have B0 : Hid (Below w.heap.size w W0) := by unfold Hid; rw [← hW0]; exact b1.trans (b2.mono b1.size)
  rw [← hA1] at p3
  rw [← hA2] at p4
  subst hA1 hA2
  have P1 := hid p3
  have P2 := hid p4
  obtain ⟨x1, x2, _⟩ := cells2 p3
  clear b1 b2 p3 p4
  have KA := omay_any W0 _ s (T1.out.bel B0.out) HK1.out
  cases ms : M.mayS s with
  | false =>
    rw [ms] at KA
    have HKA := hid KA
    have MS := hid ms
    clear KA ms
    go_enter Try.func41, Try.ntmps41
    go_wp2_with (go_at_call 13; refine stopHere ?_)
    refine stopAt ?_
    refine HKA.out.mono ?_
    rintro e w1 ⟨rfl, hb1⟩
    clear hW0 x1 x2
    obtain ⟨z0, z1, zf⟩ := cells2 (kept P2.out (by omega) hb1)
    go_wp2
    refine bodyPost_ret (v := .agg #[.slice none 0 0, .slice none 0 0]) (by simp [results, Try.results41, go_sem, z0, z1]) rfl ?_
    rw [← HRES.out, MS.out]
    exact ⟨_, rfl, ShNew.zero _ _, set2b (B0.out.trans (hb1.mono B0.out.size)) (by omega) _ _⟩
  | true =>
    rw [ms] at KA
    have HKA := hid KA
    have MS := hid ms
    clear KA ms
    go_enter Try.func41, Try.ntmps41
    go_wp2_with (go_at_call 13; refine stopHere ?_)
    refine stopAt ?_
    refine HKA.out.mono ?_
    rintro e w1 ⟨rfl, hb1⟩
    have B1 : Hid (Below w.heap.size w w1) := B0.out.trans (hb1.mono B0.out.size)
    have hz1 : w.heap.size + 2 ≤ w1.heap.size := Nat.le_trans hz hb1.size
    have Q1 := hid (kept P1.out (by omega) hb1)
    have Q2 := hid (kept P2.out (by omega) hb1)
    clear hW0 x1 x2 hb1
    obtain ⟨x1, x2, _⟩ := cells2 Q1.out
    have KC := hid (cloneF_any w1 _ R (HR.out.bel B1.out) (by omega))
    go_wp2_with (go_at_call 46; refine stopHere ?_)
    refine stopAt ?_
    refine KC.out.mono ?_
    rintro e w2 ⟨v2, rfl, hrow2, hb2⟩
    clear x1 x2 KC
    have hone2 : ∀ x ∈ R, OneAt w2 x := fun x hx => ((HR.out.1 x hx).bel B1.out).bel hb2
    have B2 := hid hb2
    have RS2 := hid hrow2
    have O2 := hid hone2
    obtain ⟨q2, m2, rfl⟩ := hrow2.form
    have hform := owns_form3 hrow2
    clear hrow2 hone2 hb2
    go_wp2
    go_loopw [21] (fun i w' => ∃ (j : Nat) (acc : List Cel), j ≤ R.length ∧ i = .int .i64 j ∧ Hid (acc.length = R.length) ∧ Hid (fldOf acc = fldOf R) ∧ Hid (RowF w1.heap.size w' (.slice q2 R.length m2) acc) ∧ Hid (∀ x ∈ acc, OneAt w' x) ∧ Hid (∀ g, q2 = some ⟨g, 0, none⟩ → Fr g acc j) ∧ Hid (Below w1.heap.size w1 w')) (fun i _ => R.length - (intOf i).toNat)
    case atStart => exact ⟨0, R, Nat.zero_le _, rfl, rfl, rfl, RS2, O2, (fun _ _ _ _ h => absurd h (Nat.not_lt_zero _)), B2⟩
    case round =>
      clear RS2 O2 B2
      obtain ⟨j, acc, hj, rfl, hlen, hfl, hrow, hone, hfr, hbel⟩ := hrel
      by_cases hjl : j < R.length
      · obtain ⟨g, rfl⟩ : ∃ g, q2 = some ⟨g, 0, none⟩ := by
          rcases hform with ⟨e, h0⟩ | ⟨g, cap, e⟩
          · omega
          · simp only [Value.slice.injEq] at e
            exact ⟨g, e.1⟩
        have hja : j < acc.length := by have := hlen.out; omega
        obtain ⟨htri, hgw, hgb, _, _, hfz⟩ := hrow.out.tri
        have HX := hid (hone.out _ (List.getElem_mem hja))
        obtain ⟨c1, c2, c3⟩ := htri j hja
        have hxl : acc[j].f.vs.length ≤ 100000 := by
          have : acc[j].f ∈ fldOf R := by rw [← hfl.out]; exact List.mem_map.2 ⟨_, List.getElem_mem hja, rfl⟩
          obtain ⟨z, hz, e⟩ := List.mem_map.1 this
          rw [← e]; exact HV1.out z hz
        obtain ⟨x, hx⟩ : ∃ x, acc[j] = x := ⟨_, rfl⟩
        rw [hx] at c1 c2 c3 HX hxl
        have HXE := hid hx
        clear hx htri
        obtain ⟨W1, hW1⟩ : ∃ W1, wr.alloc (.cells #[.string x.f.nm, .bool x.f.su, .slice x.a x.f.vs.length x.c] 29) = W1 := ⟨_, rfl⟩
        have hB1 : Below wr.heap.size wr W1 := by rw [← hW1]; exact (gr_new _ _).below
        obtain ⟨u1, u2, u3, uf⟩ := cells3 (show W1.heap[wr.heap.size]? = some (.cells #[.string x.f.nm, .bool x.f.su, .slice x.a x.f.vs.length x.c] 29) by rw [← hW1]; exact new_at _ _)
        have K2 := copied_any W1 x (HX.out.bel hB1) (by omega)
        unfold fv at K2
        have HK2 := hid K2
        have RW1 := hid (hrow.out.keep hB1)
        have OW1 : Hid (∀ x ∈ acc, OneAt W1 x) := fun x hx => (hone.out x hx).bel hB1
        have BW1 : Hid (Below w1.heap.size w1 W1) := hbel.out.trans (hB1.mono hbel.out.size)
        have hgW : g < W1.heap.size := Nat.lt_of_lt_of_le hgw hB1.size
        clear K2 hrow hone
        go_wp2_with (go_at_call 33; refine stopHere ?_)
        refine stopAt ?_
        refine HK2.out.mono ?_
        rintro e w3 ⟨z, rfl, hzf, hoz, hoff, hb3⟩
        have HZF := hid hzf
        have HOZ := hid hoz
        have HZO : Hid (∀ b o s, z.a = some ⟨b, o, s⟩ → g < b) := fun b o s e => by have := hoff b o s e; omega
        have RW3 := hid (RW1.out.keep hb3)
        have OW3 : Hid (∀ x ∈ acc, OneAt w3 x) := fun x hx => (OW1.out x hx).bel hb3
        have BW3 : Hid (Below w1.heap.size w1 w3) := BW1.out.trans (hb3.mono BW1.out.size)
        obtain ⟨d1, d2, d3⟩ := RW3.out.tri.1 j hja
        have df := RW3.out.tri.2.2.2.2.2
        have hji : (j : Int) < (R.length : Int) := by omega
        clear hzf hoz hoff hb3 hW1 c1 c2 c3 u1 u2 u3 uf hfz
        go_wp2
        refine ⟨⟨j + 1, acc.set j z, by omega, by go_num, by show _ = _; rw [List.length_set]; exact hlen.out, ?_, ?_, ?_, ?_, ?_⟩, by simp [intOf]; omega⟩
        · show _ = _
          rw [fldOf_set, HZF.out, ← hfl.out]
          have : x.f = (fldOf acc)[j]'(by rw [fldOf_len]; exact hja) := by rw [fldOf_get acc j hja, HXE.out]
          rw [this, List.set_getElem_self]
        · have h0 := hlen.out
          have := RW3.out
          rw [← h0] at this ⊢
          exact RowF.set this hja z
        · exact ones_set3 OW3.out HOZ.out d1 d2 d3 (noInt_s _) (noInt_b _) (noInt_v _ _ _) j
        · intro g' e'
          obtain rfl : g = g' := by simpa using e'
          exact fr_set (hfr.out g rfl) hja HZO.out
        · exact set3' BW3.out hgb _ _ _
      · have hje : j = R.length := by omega
        have HJE := hid hje
        have HRIS : Hid (M.RisF (fldOf acc)) := by unfold Hid; rw [hfl.out, ← HF.out]; exact M.ris_may MS.out
        have HACC := hfl
        have hl0 := hlen.out
        have hrow0 := hrow.out
        rw [← hl0] at hrow0
        have RW := hid hrow0
        have KP := hid (place_any wr _ acc n (hrow0.at hone.out) (by omega) HRIS.out)
        have hal : acc.length ≤ 100000 := by omega
        have hform2 := hform
        rw [← hl0] at hform2 hjl ⊢
        clear hje hrow0 hl0 hform hrow
        go_wp2_with (go_at_call 61; refine stopHere ?_)
        refine stopAt ?_
        refine KP.out.mono ?_
        rintro e w6 ⟨p, th, rfl, hPL, hg6⟩
        have HPL := hid hPL
        have B6 : Hid (Below w1.heap.size w1 w6) := hbel.out.trans (hg6.below.mono hbel.out.size)
        have R6 := hid (RW.out.keep hg6.below)
        have O6 : Hid (∀ x ∈ acc, OneAt w6 x) := fun x hx => (hone.out x hx).bel hg6.below
        have HBX6 := hid (kept (kept HBX.out hblt B1.out) (Nat.lt_of_lt_of_le hblt B1.out.size) B6.out)
        have HV6 := hid ((HVV.out.bel B1.out).bel B6.out)
        have hb6 : bx < w1.heap.size := Nat.lt_of_lt_of_le hblt B1.out.size
        have h6z := B6.out.size
        clear hPL hg6
        cases th with
        | true =>
          obtain ⟨hp, _⟩ := place_get HRIS.out HPL.out
          obtain ⟨g, rfl⟩ : ∃ g, q2 = some ⟨g, 0, none⟩ := by
            rcases hform2 with ⟨e, h0⟩ | ⟨g, cap, e⟩
            · omega
            · simp only [Value.slice.injEq] at e
              exact ⟨g, e.1⟩
          have GB : Hid (w1.heap.size ≤ g) := R6.out.tri.2.2.1
          have hgb := GB.out
          have hpl : acc[p].f.vs.length ≤ 100000 := by
            have : acc[p].f ∈ fldOf R := by rw [← HACC.out]; exact List.mem_map.2 ⟨_, List.getElem_mem hp, rfl⟩
            obtain ⟨z, hz, e⟩ := List.mem_map.1 this
            rw [← e]; exact HV1.out z hz
          have HCL := hid (weak1_any w6 w1.heap.size g m2 bx p acc v l R6.out O6.out hp (by rw [Lib.cell_of_heap HBX6.out]; rfl) (by omega) (by omega) HV6.out hl hpl)
          have hpi : (p : Int) < (acc.length : Int) := by omega
          have HNM : Hid (acc[p].f.nm = n) := by
            obtain ⟨h, e⟩ := of_decide_eq_true HPL.out.2.2.symm
            exact e
          go_wp2_with (first | (go_at_call 45; refine stopHere ?_) | (go_at_fn 45; refine stopHere ?_))
          refine stopAt ?_
          refine HCL.out.mono ?_
          rintro e w7 ⟨rfl, x', hxf, hrow7, hone7, hg7⟩
          have HXF := hid hxf
          have R7 := hid hrow7
          have O7 := hid hone7
          have B7 : Hid (Below w1.heap.size w1 w7) := B6.out.grown hg7 B6.out.size (fun k e => by cases e; exact GB.out)
          obtain ⟨y1, y2, yf⟩ := cells2 (kept Q1.out (by omega) B7.out)
          have HPC := hid (clone_any w7 _ sp ((HP.out.bel B1.out).bel B7.out) (by omega))
          have HFIN : Hid (fldOf (acc.set p x') = M.withF (⟨((M.getF s.fs n).getD ⟨n, false, []⟩).nm, ((M.getF s.fs n).getD ⟨n, false, []⟩).su, M.norm (((M.getF s.fs n).getD ⟨n, false, []⟩).vs ++ l)⟩) s.fs) := by
            unfold Hid
            obtain ⟨hp2, hge⟩ := place_get HRIS.out HPL.out
            rw [fldOf_set, HXF.out, HF.out, ← HACC.out, hge, Option.getD_some]
            exact M.set_withF HRIS.out (by rw [fldOf_len]; exact hp) (by rw [fldOf_get acc p hp])
          clear hxf hrow7 hone7 hg7 
          go_wp2_with (go_at_call 50; refine stopHere ?_)
          refine stopAt ?_
          refine HPC.out.mono ?_
          rintro e w8 ⟨v8, rfl, hown8, hb8⟩
          have hr8 : RowA w7.heap.size w8 v8 sp := hown8
          have A8 := hid (hr8.at HI.out)
          obtain ⟨q8, m8, rfl⟩ := hr8.form
          have R8 := hid (R7.out.keep hb8)
          have O8 := hid (fun x hx => (O7.out x hx).bel hb8)
          have B8 : Hid (Below w.heap.size w w8) := B1.out.trans ((B7.out.trans (hb8.mono B7.out.size)).mono B1.out.size)
          have hz7 : w.heap.size + 1 < w7.heap.size := by have := B7.out.size; omega
          obtain ⟨z0, z1, zf⟩ := cells2 (kept (kept Q2.out (by omega) B7.out) hz7 hb8)
          clear hown8 hb8 hr8 y1 y2 yf
          go_wp2
          refine bodyPost_ret (v := .agg #[.slice (some ⟨g, 0, none⟩) acc.length m2, .slice q8 sp.length m8]) (by simp [results, Try.results41, go_sem, z0, z1]) rfl ?_
          rw [← HRES.out, MS.out]
          refine ⟨_, rfl, ?_, set2b B8.out (by omega) _ _⟩
          have hsh : ShNew (w.heap.size + 2) w8 (.agg #[.slice (some ⟨g, 0, none⟩) acc.length m2, .slice q8 sp.length m8]) ⟨M.withF (⟨((M.getF s.fs n).getD ⟨n, false, []⟩).nm, ((M.getF s.fs n).getD ⟨n, false, []⟩).su, M.norm (((M.getF s.fs n).getD ⟨n, false, []⟩).vs ++ l)⟩) s.fs, sp⟩ :=
            ⟨_, _, rfl, ⟨acc.set p x', HFIN.out, R8.out.mono (by omega), O8.out⟩, A8.out⟩
          exact (hsh.set2 (by omega) z0 z1 (noInt_v _ _ _) (noInt_v _ _ _)).mono (by omega)
        | false =>
          have HNO := hid (place_none HRIS.out HPL.out)
          have hple : p ≤ acc.length := HPL.out.1
          obtain ⟨W6, hW6⟩ : ∃ W, w6.alloc (.cells #[.string n, .bool false, .slice none 0 0] 29) = W := ⟨_, rfl⟩
          have bW : Below w6.heap.size w6 W6 := by rw [← hW6]; exact (gr_new _ _).below
          have NB : W6.heap[w6.heap.size]? = some (.cells #[.string n, .bool false, .slice none 0 0] 29 (0, 0)) := by rw [← hW6]; exact new_at _ _
          have hob : (.slice q2 acc.length m2 : Value).ownBlock ≠ some w6.heap.size := fun e => by
            rcases R6.out.2 with ⟨e1, _⟩ | ⟨g', c', u', e1, _, e2, _⟩
            · rw [e1] at e; cases e
            · rw [e1] at e
              have h1 := Option.some.inj e
              have h2 := (Array.getElem?_eq_some_iff.1 e2).1
              have h3 : g' = w6.heap.size := h1
              omega
          have HIN := hid (insertF_any W6 w1.heap.size (.slice q2 acc.length m2) acc p w6.heap.size (⟨⟨n, false, []⟩, none, 0⟩ : Cel) (R6.out.keep bW) (by have := bW.size; omega) hple (by omega) NB hob)
          have B6' : Hid (Below w1.heap.size w1 W6) := B6.out.trans (bW.mono B6.out.size)
          have R6' := hid (R6.out.keep bW)
          have O6' : Hid (∀ x ∈ acc, OneAt W6 x) := fun x hx => (O6.out x hx).bel bW
          clear bW NB hob
          go_wp2_with (first | (go_at_call 62; refine stopHere ?_))
          refine stopAt ?_
          refine HIN.out.mono ?_
          rintro e wi ⟨vi, rfl, hrowi, hgi⟩
          have BI : Hid (Below w1.heap.size w1 wi) := B6'.out.grown hgi B6'.out.size R6'.out.blk
          obtain ⟨acc7, hacc7⟩ : ∃ l, acc.take p ++ (⟨⟨n, false, []⟩, none, 0⟩ : Cel) :: acc.drop p = l := ⟨_, rfl⟩
          have hp7 : p < acc7.length := by rw [← hacc7]; simp only [List.length_append, List.length_take, List.length_cons, List.length_drop]; omega
          have hx7 : acc7[p] = (⟨⟨n, false, []⟩, none, 0⟩ : Cel) := by
            have h : acc7[p]? = some (⟨⟨n, false, []⟩, none, 0⟩ : Cel) := by rw [← hacc7]; exact ins_get hple
            exact (List.getElem?_eq_some_iff.1 h).2
          have OI : Hid (∀ x ∈ acc7, OneAt wi x) := by
            unfold Hid
            rw [← hacc7]
            refine ins_all (fun x hx => ?_) (AtAt.nil wi)
            rcases hform2 with ⟨e, h0⟩ | ⟨g, cap, e⟩
            · rw [List.length_eq_zero_iff.1 h0] at hx; cases hx
            · simp only [Value.slice.injEq] at e
              obtain ⟨rfl, _, _⟩ := e
              have hj2 := HJE.out
              have hl2 := hlen.out
              obtain ⟨i, hi, rfl⟩ := List.getElem_of_mem hx
              exact AtAt.grown (O6'.out _ hx) hgi (fun b o s e => hfr.out g rfl i hi (by omega) b o s e)
          rw [hacc7] at hrowi
          obtain ⟨g, mi, rfl⟩ : ∃ g m, vi = .slice (some ⟨g, 0, none⟩) acc7.length m := by
            rcases owns_form3 hrowi with ⟨e, h0⟩ | ⟨g, cap, e⟩
            · omega
            · exact ⟨g, cap, e⟩
          have RI := hid hrowi
          have GB : Hid (w1.heap.size ≤ g) := hrowi.tri.2.2.1
          have hgb := GB.out
          have HBXI := hid (kept (kept HBX.out hblt B1.out) (Nat.lt_of_lt_of_le hblt B1.out.size) BI.out)
          have HVI := hid ((HVV.out.bel B1.out).bel BI.out)
          have hiz := BI.out.size
          have HX7 := hid hx7
          have HA7 := hid hacc7
          have HCL := hid (weak1_any wi w1.heap.size g mi bx p acc7 v l RI.out OI.out hp7 (by rw [Lib.cell_of_heap HBXI.out]; rfl) (by omega) (by omega) HVI.out hl (by rw [HX7.out]; exact Nat.zero_le _))
          have hpi : (p : Int) < (acc7.length : Int) := by omega
          clear hrowi hgi hx7 hacc7
          go_wp2_with (first | (go_at_call 45; refine stopHere ?_) | (go_at_fn 45; refine stopHere ?_))
          refine stopAt ?_
          refine HCL.out.mono ?_
          rintro e w7 ⟨rfl, x', hxf, hrow7, hone7, hg7⟩
          have HXF := hid hxf
          have R7 := hid hrow7
          have O7 := hid hone7
          have B7 : Hid (Below w1.heap.size w1 w7) := BI.out.grown hg7 BI.out.size (fun k e => by cases e; exact GB.out)
          obtain ⟨y1, y2, yf⟩ := cells2 (kept Q1.out (by omega) B7.out)
          have HPC := hid (clone_any w7 _ sp ((HP.out.bel B1.out).bel B7.out) (by omega))
          have HFIN : Hid (fldOf (acc7.set p x') = M.withF (⟨((M.getF s.fs n).getD ⟨n, false, []⟩).nm, ((M.getF s.fs n).getD ⟨n, false, []⟩).su, M.norm (((M.getF s.fs n).getD ⟨n, false, []⟩).vs ++ l)⟩) s.fs) := by
            unfold Hid
            rw [HF.out, ← HACC.out, HNO.out, Option.getD_none, ← HA7.out, ins_set HPL.out.1, fldOf_ins]
            have e7 : x'.f = (⟨(⟨n, false, []⟩ : M.Fld).nm, (⟨n, false, []⟩ : M.Fld).su, M.norm ((⟨n, false, []⟩ : M.Fld).vs ++ l)⟩ : M.Fld) := by rw [HXF.out, HX7.out]
            rw [e7]
            exact M.ins_withF HRIS.out (by rw [fldOf_len]; exact HPL.out.1) (fun i hi hip => place_below HPL.out (by rw [fldOf_len] at hi; exact hi) hip) (fun i hi hip => place_above HRIS.out HPL.out (by rw [fldOf_len] at hi; exact hi) hip)
          clear hxf hrow7 hone7 hg7 
          go_wp2_with (go_at_call 50; refine stopHere ?_)
          refine stopAt ?_
          refine HPC.out.mono ?_
          rintro e w8 ⟨v8, rfl, hown8, hb8⟩
          have hr8 : RowA w7.heap.size w8 v8 sp := hown8
          have A8 := hid (hr8.at HI.out)
          obtain ⟨q8, m8, rfl⟩ := hr8.form
          have R8 := hid (R7.out.keep hb8)
          have O8 := hid (fun x hx => (O7.out x hx).bel hb8)
          have B8 : Hid (Below w.heap.size w w8) := B1.out.trans ((B7.out.trans (hb8.mono B7.out.size)).mono B1.out.size)
          have hz7 : w.heap.size + 1 < w7.heap.size := by have := B7.out.size; omega
          obtain ⟨z0, z1, zf⟩ := cells2 (kept (kept Q2.out (by omega) B7.out) hz7 hb8)
          clear hown8 hb8 hr8 y1 y2 yf
          go_wp2
          refine bodyPost_ret (v := .agg #[.slice (some ⟨g, 0, none⟩) acc7.length mi, .slice q8 sp.length m8]) (by simp [results, Try.results41, go_sem, z0, z1]) rfl ?_
          rw [← HRES.out, MS.out]
          refine ⟨_, rfl, ?_, set2b B8.out (by omega) _ _⟩
          have hsh : ShNew (w.heap.size + 2) w8 (.agg #[.slice (some ⟨g, 0, none⟩) acc7.length mi, .slice q8 sp.length m8]) ⟨M.withF (⟨((M.getF s.fs n).getD ⟨n, false, []⟩).nm, ((M.getF s.fs n).getD ⟨n, false, []⟩).su, M.norm (((M.getF s.fs n).getD ⟨n, false, []⟩).vs ++ l)⟩) s.fs, sp⟩ :=
            ⟨_, _, rfl, ⟨acc7.set p x', HFIN.out, R8.out.mono (by omega), O8.out⟩, A8.out⟩
          exact (hsh.set2 (by omega) z0 z1 (noInt_v _ _ _) (noInt_v _ _ _)).mono (by omega)

set_option maxHeartbeats 2000000 in
theorem ostrong_any (w : World) (va : Value) (s : M.Shp) (n : ByteArray) (v : Value) (l : List M.Atm) (h1 : ShAt w va s) (K1 : M.Sm 100000 s) (hv : AtAt w v l) (hl : l.length ≤ 100000) :
    Calls Try.prog 21 #[va, .string n, v] w fun e w' => ∃ v', e = .returned v' ∧ ShNew w.heap.size w' v' (if M.mayS s then M.strongS s n l else M.zeroS) ∧ Below w.heap.size w w' := by
  obtain ⟨a, c, b, d, rfl⟩ := h1.form
  obtain ⟨x, y, rfl⟩ := hv.form
  obtain ⟨A1, hA1⟩ : ∃ o, (.cells #[.slice a s.fs.length c, .slice b s.pr.length d] 25 : Obj) = o := ⟨_, rfl⟩
  obtain ⟨A2, hA2⟩ : ∃ o, (.cells #[.slice x l.length y] 23 : Obj) = o := ⟨_, rfl⟩
  obtain ⟨A3, hA3⟩ : ∃ o, (.cells #[.slice none 0 0, .slice none 0 0] 25 : Obj) = o := ⟨_, rfl⟩
  obtain ⟨W0, hW0⟩ : ∃ W0, ((w.alloc A1).alloc A2).alloc A3 = W0 := ⟨_, rfl⟩
  have b1 := (gr_new w A1).below
  have b2 := (gr_new (w.alloc A1) A2).below
  have b3 := (gr_new ((w.alloc A1).alloc A2) A3).below
  have p3 : W0.heap[w.heap.size]? = some A1 := by rw [← hW0]; exact kept (B := ((w.alloc A1).alloc A2).heap.size) (kept (B := (w.alloc A1).heap.size) (new_at w A1) (by simp) b2) (by simp; omega) b3
  have p4 : W0.heap[w.heap.size + 1]? = some A2 := by
    rw [← hW0]
    have := kept (B := ((w.alloc A1).alloc A2).heap.size) (new_at (w.alloc A1) A2) (by simp) b3
    rw [World.size_alloc] at this
    exact this
  have p5 : W0.heap[w.heap.size + 2]? = some A3 := by
    rw [← hW0]
    have := new_at ((w.alloc A1).alloc A2) A3
    rw [World.size_alloc, World.size_alloc] at this
    exact this
  have hz : w.heap.size + 3 ≤ W0.heap.size := by rw [← hW0]; simp
  have B0 : Hid (Below w.heap.size w W0) := by
    unfold Hid; rw [← hW0]; exact b1.trans ((b2.trans (b3.mono b2.size)).mono b1.size)
  rw [← hA1] at p3
  rw [← hA2] at p4
  rw [← hA3] at p5
  subst hA1 hA2 hA3
  have P3 := hid p5
  obtain ⟨x1, x2, _⟩ := cells2 p3
  have K := hid (written_strong W0 _ s n (w.heap.size + 1) _ l (h1.bel B0.out) K1 p4 (hv.bel B0.out) hl)
  obtain ⟨res, hres⟩ : ∃ r, (if M.mayS s then M.strongS s n l else M.zeroS) = r := ⟨_, rfl⟩
  rw [hres]
  have HRES : Hid ((if M.mayS s then (⟨M.withF (⟨((M.getF s.fs n).getD ⟨n, false, []⟩).nm, true, M.norm l⟩) s.fs, s.pr⟩ : M.Shp) else M.zeroS) = res) := by
    unfold Hid; rw [← hres]
    cases M.mayS s with
    | false => rfl
    | true =>
      show M.Shp.mk _ _ = M.Shp.mk _ _
      congr 2
      cases hg : M.getF s.fs n with
      | none => simp [M.suO, M.vsO]
      | some f => have := M.getF_nm hg; simp [M.suO, M.vsO, this]
  clear b1 b2 b3 p3 p4 p5 h1 hv hres
  go_enter Try.func21, Try.ntmps21
  go_wp2_with (go_at_call 41; refine stopHere ?_)
  refine stopAt ?_
  refine K.out.mono ?_
  rintro e w1 ⟨v1, rfl, hsh, hb1⟩
  rw [HRES.out] at hsh
  obtain ⟨vf, vp, rfl, hff, hpp⟩ := hsh
  have HS := hid (show ShNew W0.heap.size w1 (.agg #[vf, vp]) res from ⟨vf, vp, rfl, hff, hpp⟩)
  obtain ⟨qf, mf, rfl⟩ := hff.form
  obtain ⟨qp, mp, rfl⟩ := hpp.form
  obtain ⟨z0, z1, zf⟩ := cells2 (kept P3.out (by omega) hb1)
  have HB := hid (B0.out.trans (hb1.mono B0.out.size))
  clear hff hpp hb1 hW0 x1 x2
  go_wp2
  refine bodyPost_ret (v := .agg #[.slice qf res.fs.length mf, .slice qp res.pr.length mp]) (by simp [results, Try.results21, go_sem, z0, z1]) rfl ?_
  exact ⟨_, rfl, (HS.out.set2 (by omega) z0 z1 (noInt_v _ _ _) (noInt_v _ _ _)).mono (by omega), set2b HB.out (by omega) _ _⟩

set_option maxHeartbeats 2000000 in
theorem oweak_any (w : World) (va : Value) (s : M.Shp) (n : ByteArray) (v : Value) (l : List M.Atm) (h1 : ShAt w va s) (K1 : M.Sm 100000 s) (hv : AtAt w v l) (hl : l.length ≤ 100000) :
    Calls Try.prog 23 #[va, .string n, v] w fun e w' => ∃ v', e = .returned v' ∧ ShNew w.heap.size w' v' (if M.mayS s then M.weakS s n l else M.zeroS) ∧ Below w.heap.size w w' := by
  obtain ⟨a, c, b, d, rfl⟩ := h1.form
  obtain ⟨x, y, rfl⟩ := hv.form
  obtain ⟨A1, hA1⟩ : ∃ o, (.cells #[.slice a s.fs.length c, .slice b s.pr.length d] 25 : Obj) = o := ⟨_, rfl⟩
  obtain ⟨A2, hA2⟩ : ∃ o, (.cells #[.slice x l.length y] 23 : Obj) = o := ⟨_, rfl⟩
  obtain ⟨A3, hA3⟩ : ∃ o, (.cells #[.slice none 0 0, .slice none 0 0] 25 : Obj) = o := ⟨_, rfl⟩
  obtain ⟨W0, hW0⟩ : ∃ W0, ((w.alloc A1).alloc A2).alloc A3 = W0 := ⟨_, rfl⟩
  have b1 := (gr_new w A1).below
  have b2 := (gr_new (w.alloc A1) A2).below
  have b3 := (gr_new ((w.alloc A1).alloc A2) A3).below
  have p3 : W0.heap[w.heap.size]? = some A1 := by rw [← hW0]; exact kept (B := ((w.alloc A1).alloc A2).heap.size) (kept (B := (w.alloc A1).heap.size) (new_at w A1) (by simp) b2) (by simp; omega) b3
  have p4 : W0.heap[w.heap.size + 1]? = some A2 := by
    rw [← hW0]
    have := kept (B := ((w.alloc A1).alloc A2).heap.size) (new_at (w.alloc A1) A2) (by simp) b3
    rw [World.size_alloc] at this
    exact this
  have p5 : W0.heap[w.heap.size + 2]? = some A3 := by
    rw [← hW0]
    have := new_at ((w.alloc A1).alloc A2) A3
    rw [World.size_alloc, World.size_alloc] at this
    exact this
  have hz : w.heap.size + 3 ≤ W0.heap.size := by rw [← hW0]; simp
  have B0 : Hid (Below w.heap.size w W0) := by
    unfold Hid; rw [← hW0]; exact b1.trans ((b2.trans (b3.mono b2.size)).mono b1.size)
  rw [← hA1] at p3
  rw [← hA2] at p4
  rw [← hA3] at p5
  subst hA1 hA2 hA3
  have P3 := hid p5
  obtain ⟨x1, x2, _⟩ := cells2 p3
  have K := hid (written_weak W0 _ s n (w.heap.size + 1) _ l (h1.bel B0.out) K1 p4 (hv.bel B0.out) hl)
  obtain ⟨res, hres⟩ : ∃ r, (if M.mayS s then M.weakS s n l else M.zeroS) = r := ⟨_, rfl⟩
  rw [hres]
  have HRES : Hid ((if M.mayS s then (⟨M.withF (⟨((M.getF s.fs n).getD ⟨n, false, []⟩).nm, ((M.getF s.fs n).getD ⟨n, false, []⟩).su, M.norm (((M.getF s.fs n).getD ⟨n, false, []⟩).vs ++ l)⟩) s.fs, s.pr⟩ : M.Shp) else M.zeroS) = res) := by
    unfold Hid; rw [← hres]
    cases M.mayS s with
    | false => rfl
    | true =>
      show M.Shp.mk _ _ = M.Shp.mk _ _
      congr 2
      cases hg : M.getF s.fs n with
      | none => simp [M.suO, M.vsO]
      | some f => have := M.getF_nm hg; simp [M.suO, M.vsO, this]
  clear b1 b2 b3 p3 p4 p5 h1 hv hres
  go_enter Try.func23, Try.ntmps23
  go_wp2_with (go_at_call 41; refine stopHere ?_)
  refine stopAt ?_
  refine K.out.mono ?_
  rintro e w1 ⟨v1, rfl, hsh, hb1⟩
  rw [HRES.out] at hsh
  obtain ⟨vf, vp, rfl, hff, hpp⟩ := hsh
  have HS := hid (show ShNew W0.heap.size w1 (.agg #[vf, vp]) res from ⟨vf, vp, rfl, hff, hpp⟩)
  obtain ⟨qf, mf, rfl⟩ := hff.form
  obtain ⟨qp, mp, rfl⟩ := hpp.form
  obtain ⟨z0, z1, zf⟩ := cells2 (kept P3.out (by omega) hb1)
  have HB := hid (B0.out.trans (hb1.mono B0.out.size))
  clear hff hpp hb1 hW0 x1 x2
  go_wp2
  refine bodyPost_ret (v := .agg #[.slice qf res.fs.length mf, .slice qp res.pr.length mp]) (by simp [results, Try.results23, go_sem, z0, z1]) rfl ?_
  exact ⟨_, rfl, (HS.out.set2 (by omega) z0 z1 (noInt_v _ _ _) (noInt_v _ _ _)).mono (by omega), set2b HB.out (by omega) _ _⟩
end Go.Proofs.Ytcnikcfnfohoeaa
