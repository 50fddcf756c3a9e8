/-
  The walks of object.Rename and of state.copiedShape: what they answer lies in new blocks. Conditions: shapes of at most 100000 fields of as many atoms.
-/
import Derived.Test.YtbaaeobdjiglgaaGreatE1
import Derived.Test.YtbaaeobdjiglgaaGreatS16
set_option linter.unusedVariables false
set_option linter.unusedSimpArgs false
namespace Go.Proofs.YtbaaeobdjiglgaaGreat
open Go.RowKit Go.Sort

theorem fresh_set {B : Nat} {acc : List Cel} {j : Nat} {x : Cel} (h : ∀ i (h : i < acc.length), i < j → Fresh B acc[i].v) (hx : Fresh B x.v) : ∀ i (h : i < (acc.set j x).length), i < j + 1 → Fresh B (acc.set j x)[i].v := fun i hi hij => by
  rw [List.getElem_set]
  split
  · exact hx
  · exact h i (by simpa using hi) (by omega)
theorem clone_new (w : World) (v : Value) (l : List M.Atm) (h : AtAt w v l) (hn : l.length ≤ 1048576) :
    Calls Tryz.prog 75 #[v] w fun e w' => ∃ v', e = .returned v' ∧ AtAt w' v' l ∧ Fresh w.heap.size v' ∧ Below w.heap.size w w' := by
  have HI := h.1
  refine (clone_any w v l h hn).mono ?_
  rintro e w' ⟨v', rfl, hown, hb⟩
  have hrow : RowA w.heap.size w' v' l := hown
  refine ⟨v', rfl, hrow.at HI, ?_, hb⟩
  obtain ⟨q, m, rfl⟩ := hrow.form
  intro b o s n c e
  simp only [Value.slice.injEq] at e
  exact row_off hrow b o s e.1

set_option maxHeartbeats 4000000 in
set_option maxRecDepth 100000 in
theorem orename_fr (w : World) (va : Value) (s : M.Shp) (k : Int) (h1 : ShAt w va s) (K1 : M.Sm 100000 s) :
    Calls Tryz.prog 34 #[va, .int .i64 k] w fun e w' => ∃ v', e = .returned v' ∧ ShFr w.heap.size w' v' (if M.mayS s then M.renS s k else M.zeroS) ∧ Below w.heap.size w w' := by
  have mixed := mixedP
  obtain ⟨res, hres⟩ : ∃ r, (if M.mayS s then M.renS s k else M.zeroS) = r := ⟨_, rfl⟩
  rw [hres]
  have T1 := hid h1
  obtain ⟨R, a, c, b, d, hs, rfl, hR, hP⟩ := h1.open
  obtain ⟨n1, v1, p1⟩ := sm_fs K1 hs
  have HF : Hid (s.fs = fldOf R) := hid (by rw [hs])
  have HK1 := hid K1
  have HR := hid hR
  have HV1 := hid v1
  obtain ⟨sp, hsp⟩ : ∃ x, s.pr = x := ⟨_, rfl⟩
  have HSP := hid hsp
  rw [hsp] at hP p1 T1 ⊢
  have HP := hid hP
  have HRES := hid hres
  clear h1 hs hR hP K1 v1 hres hsp
  obtain ⟨A1, hA1⟩ : ∃ o, (.cells #[.slice a R.length c, .slice b sp.length d] 31 : Obj) = o := ⟨_, rfl⟩
  obtain ⟨A2, hA2⟩ : ∃ o, (.cells #[.slice none 0 0, .slice none 0 0] 31 : Obj) = o := ⟨_, rfl⟩
  obtain ⟨W0, hW0⟩ : ∃ W0, (w.alloc A1).alloc A2 = W0 := ⟨_, rfl⟩
  have b1 := (gr_new w A1).below
  have b2 := (gr_new (w.alloc A1) A2).below
  have p3 : W0.heap[w.heap.size]? = some A1 := by rw [← hW0]; exact kept (B := (w.alloc A1).heap.size) (new_at w A1) (by simp) b2
  have p4 : W0.heap[w.heap.size + 1]? = some A2 := by
    rw [← hW0]
    have := new_at (w.alloc A1) A2
    rw [World.size_alloc] at this
    exact this
  have hz : w.heap.size + 2 ≤ W0.heap.size := by rw [← hW0]; simp
  have B0 : Hid (Below w.heap.size w W0) := by unfold Hid; rw [← hW0]; exact b1.trans (b2.mono b1.size)
  rw [← hA1] at p3
  rw [← hA2] at p4
  subst hA1 hA2
  have P1 := hid p3
  have P2 := hid p4
  obtain ⟨x1, x2, _⟩ := cells2 p3
  clear b1 b2 p3 p4
  have KA := omay_any W0 _ s (T1.out.bel B0.out) HK1.out
  cases ms : M.mayS s with
  | false =>
    rw [ms] at KA
    have HKA := hid KA
    have MS := hid ms
    clear KA ms
    go_enter Tryz.func34, Tryz.ntmps34
    go_wp2_with (go_at_call 41; refine stopHere ?_)
    refine stopAt ?_
    refine HKA.out.mono ?_
    rintro e w1 ⟨rfl, hb1⟩
    clear hW0 x1 x2
    obtain ⟨z0, z1, zf⟩ := cells2 (kept P2.out (by omega) hb1)
    go_wp2
    refine bodyPost_ret (v := .agg #[.slice none 0 0, .slice none 0 0]) (by simp [results, Tryz.results34, go_sem, z0, z1]) rfl ?_
    rw [← HRES.out, MS.out]
    exact ⟨_, rfl, zero_at _, set2b (B0.out.trans (hb1.mono B0.out.size)) (by omega) _ _⟩
  | true =>
    rw [ms] at KA
    have HKA := hid KA
    have MS := hid ms
    clear KA ms
    go_enter Tryz.func34, Tryz.ntmps34
    go_wp2_with (go_at_call 41; refine stopHere ?_)
    refine stopAt ?_
    refine HKA.out.mono ?_
    rintro e w1 ⟨rfl, hb1⟩
    have B1 : Hid (Below w.heap.size w w1) := B0.out.trans (hb1.mono B0.out.size)
    have hz1 : w.heap.size + 2 ≤ w1.heap.size := Nat.le_trans hz hb1.size
    have Q1 := hid (kept P1.out (by omega) hb1)
    have Q2 := hid (kept P2.out (by omega) hb1)
    clear hW0 x1 x2 hb1
    obtain ⟨x1, x2, _⟩ := cells2 Q1.out
    have KC := hid (cloneF_any w1 _ R (HR.out.bel B1.out) (by omega))
    go_wp2_with (go_at_call 58; refine stopHere ?_)
    refine stopAt ?_
    refine KC.out.mono ?_
    rintro e w2 ⟨v2, rfl, hrow2, hb2⟩
    clear x1 x2 KC
    have hone2 : ∀ x ∈ R, OneAt w2 x := fun x hx => ((HR.out.1 x hx).bel B1.out).bel hb2
    have B2 := hid hb2
    have RS2 := hid hrow2
    have O2 := hid hone2
    obtain ⟨q2, m2, rfl⟩ := hrow2.form
    have hform := owns_form3 hrow2
    have hst : Hid (fldOf R = renFs (fldOf R) k 0) := by unfold Hid renFs; simp
    clear hrow2 hone2 hb2
    go_wp2
    go_loopw [17] (fun i w' => ∃ (j : Nat) (acc : List Cel), j ≤ R.length ∧ i = .int .i64 j ∧ Hid (acc.length = R.length) ∧ Hid (fldOf acc = renFs (fldOf R) k j) ∧ Hid (RowF w1.heap.size w' (.slice q2 R.length m2) acc) ∧ Hid (∀ x ∈ acc, OneAt w' x) ∧ Hid (∀ i (h : i < acc.length), i < j → Fresh w1.heap.size acc[i].v) ∧ Hid (Below w1.heap.size w1 w')) (fun i _ => R.length - (intOf i).toNat)
    case atStart => exact ⟨0, R, Nat.zero_le _, rfl, rfl, hst, RS2, O2, (fun i _ h => absurd h (Nat.not_lt_zero _)), B2⟩
    case round =>
      clear RS2 O2 B2 hst
      obtain ⟨j, acc, hj, rfl, hlen, hfl, hrow, hone, hfr, hbel⟩ := hrel
      by_cases hjl : j < R.length
      · obtain ⟨g, rfl⟩ : ∃ g, q2 = some ⟨g, 0, none⟩ := by
          rcases hform with ⟨e, h0⟩ | ⟨g, cap, e⟩
          · omega
          · simp only [Value.slice.injEq] at e
            exact ⟨g, e.1⟩
        have hja : j < acc.length := by have := hlen.out; omega
        obtain ⟨htri, hgw, hgb, _, _, hfz⟩ := hrow.out.tri
        have HX := hid (hone.out _ (List.getElem_mem hja))
        obtain ⟨c1, c2, c3⟩ := htri j hja
        have hjF : j < (fldOf R).length := by rw [fldOf_len]; exact hjl
        have hxf : acc[j].f = (fldOf R)[j] := by
          have h1 : (fldOf acc)[j]'(by rw [fldOf_len]; exact hja) = acc[j].f := fldOf_get acc j hja
          rw [← h1]
          have h3 : (fldOf acc)[j]? = some (fldOf R)[j] := by rw [hfl.out, renFs_get hjF]
          exact (List.getElem?_eq_some_iff.1 h3).2
        have hxl : acc[j].f.vs.length ≤ 100000 := by
          rw [hxf, fldOf_get R j hjl]
          exact HV1.out _ (List.getElem_mem hjl)
        obtain ⟨x, hx⟩ : ∃ x, acc[j] = x := ⟨_, rfl⟩
        rw [hx] at c1 c2 c3 HX hxl hxf
        have HXE := hid hx
        have HXF := hid hxf
        clear hx htri hxf
        obtain ⟨W1, hW1⟩ : ∃ W1, wr.alloc (.cells #[.string x.f.nm, .bool x.f.su, .slice x.a x.f.vs.length x.c] 49) = W1 := ⟨_, rfl⟩
        have hB1 : Below wr.heap.size wr W1 := by rw [← hW1]; exact (gr_new _ _).below
        obtain ⟨u1, u2, u3, uf⟩ := cells3 (show W1.heap[wr.heap.size]? = some (.cells #[.string x.f.nm, .bool x.f.su, .slice x.a x.f.vs.length x.c] 49) by rw [← hW1]; exact new_at _ _)
        have hxA : AtAt W1 (.slice x.a x.f.vs.length x.c) x.f.vs := AtAt.bel HX.out hB1
        have HK2 := hid (rename_new W1 _ x.f.vs k hxA (by omega))
        have RW1 := hid (hrow.out.keep hB1)
        have OW1 : Hid (∀ x ∈ acc, OneAt W1 x) := fun x hx => (hone.out x hx).bel hB1
        have BW1 : Hid (Below w1.heap.size w1 W1) := hbel.out.trans (hB1.mono hbel.out.size)
        have hgW : g < W1.heap.size := Nat.lt_of_lt_of_le hgw hB1.size
        clear hrow hone hxA
        go_wp2_with (go_at_call 55; refine stopHere ?_)
        refine stopAt ?_
        refine HK2.out.mono ?_
        rintro e w3 ⟨v3, rfl, hA3, hf3, hb3⟩
        have A3 := hid hA3
        have F3 := hid (hf3.mono BW1.out.size)
        clear hf3
        obtain ⟨q3, m3, rfl⟩ := hA3.form
        have RW3 := hid (RW1.out.keep hb3)
        have OW3 : Hid (∀ x ∈ acc, OneAt w3 x) := fun x hx => (OW1.out x hx).bel hb3
        have BW3 : Hid (Below w1.heap.size w1 w3) := BW1.out.trans (hb3.mono BW1.out.size)
        obtain ⟨d1, d2, d3⟩ := RW3.out.tri.1 j hja
        have df := RW3.out.tri.2.2.2.2.2
        have hji : (j : Int) < (R.length : Int) := by omega
        clear hA3 hb3 hW1 c1 c2 c3 u1 u2 u3 uf hfz
        go_wp2
        refine ⟨⟨j + 1, acc.set j ⟨⟨x.f.nm, x.f.su, M.rename x.f.vs k⟩, q3, m3⟩, by omega, by go_num, by show _ = _; rw [List.length_set]; exact hlen.out, ?_, ?_, ?_, ?_, ?_⟩, by simp [intOf]; omega⟩
        · show _ = _
          rw [fldOf_set, hfl.out, ← renFs_set hjF, ← HXF.out]
          rfl
        · have h0 := hlen.out
          have := RW3.out
          rw [← h0] at this ⊢
          exact this.setV hja ⟨⟨x.f.nm, x.f.su, M.rename x.f.vs k⟩, q3, m3⟩ (by rw [HXE.out]) (by rw [HXE.out])
        · exact ones_set hja OW3.out (x1 := ⟨⟨x.f.nm, x.f.su, M.rename x.f.vs k⟩, q3, m3⟩) A3.out d3
        · exact fresh_set hfr.out F3.out
        · exact BW3.out.setCell (p := ⟨g, j * 3 + 2, none⟩) hgb _
      · have HFIN : Hid (fldOf acc = (fldOf R).map (M.renF k)) := by
          unfold Hid; rw [hfl.out]; unfold renFs
          rw [List.take_of_length_le (by rw [fldOf_len]; omega), List.drop_eq_nil_of_le (by rw [fldOf_len]; omega), List.append_nil]
        obtain ⟨y1, y2, yf⟩ := cells2 (kept Q1.out (by omega) hbel.out)
        have KP := hid (rename_new wr _ sp k ((HP.out.bel B1.out).bel hbel.out) (by omega))
        have hbz := hbel.out.size
        go_wp2_with (go_at_call 55; refine stopHere ?_)
        refine stopAt ?_
        refine KP.out.mono ?_
        rintro e w8 ⟨v8, rfl, hA8, hf8, hb8⟩
        have A8 := hid hA8
        have F8 := hid hf8
        clear hf8
        obtain ⟨q8, m8, rfl⟩ := hA8.form
        have R8 := hid (hrow.out.keep hb8)
        have O8 : Hid (∀ x ∈ acc, OneAt w8 x) := fun x hx => (hone.out x hx).bel hb8
        have B8 : Hid (Below w.heap.size w w8) := B1.out.trans ((hbel.out.trans (hb8.mono hbel.out.size)).mono B1.out.size)
        obtain ⟨z0, z1, zf⟩ := cells2 (kept (kept Q2.out (by omega) hbel.out) (by omega) hb8)
        clear hA8 hb8 y1 y2 yf
        go_wp2
        refine bodyPost_ret (v := .agg #[.slice q2 R.length m2, .slice q8 (M.rename sp k).length m8]) (by simp [results, Tryz.results34, go_sem, z0, z1]) rfl ?_
        rw [← HRES.out, MS.out]
        refine ⟨_, rfl, ?_, set2b B8.out (by omega) _ _⟩
        have hwz : w.heap.size + 2 ≤ w1.heap.size := hz1
        have hsh : ShFr (w.heap.size + 2) w8 (.agg #[.slice q2 R.length m2, .slice q8 (M.rename sp k).length m8]) (M.renS s k) :=
          ⟨_, _, rfl, ⟨acc, by rw [HFIN.out, ← HF.out]; rfl, FsNew.fresh (R8.out.mono (by omega)) fun x hx => ⟨O8.out x hx, by
            obtain ⟨i, hi, rfl⟩ := List.getElem_of_mem hx
            exact (hfr.out i hi (by have := hlen.out; omega)).mono (by omega)⟩⟩, by
            show AtAt _ _ (M.rename s.pr k)
            rw [HSP.out]
            exact AtAt.fresh A8.out (F8.out.mono (by omega))⟩
        exact (((hsh.set (g := w.heap.size + 1) (by omega)).set (g := w.heap.size + 1) (by omega)).mono (by omega))

set_option maxHeartbeats 4000000 in
set_option maxRecDepth 100000 in
theorem scopied_any (w : World) (va : Value) (s : M.Shp) (h1 : ShAt w va s) (K1 : M.Sm 100000 s) :
    Calls Tryz.prog 57 #[va] w fun e w' => ∃ v', e = .returned v' ∧ ShFr w.heap.size w' v' s ∧ Below w.heap.size w w' := by
  obtain ⟨R, a, c, b, d, hs, rfl, hR, hP⟩ := h1.open
  obtain ⟨n1, v1, p1⟩ := sm_fs K1 hs
  have HF : Hid (s.fs = fldOf R) := hid (by rw [hs])
  have HR := hid hR
  have HV1 := hid v1
  obtain ⟨sp, hsp⟩ : ∃ x, s.pr = x := ⟨_, rfl⟩
  have HSP := hid hsp
  rw [hsp] at hP p1 ⊢
  have HP := hid hP
  clear h1 hs hR hP K1 v1 hsp
  obtain ⟨A1, hA1⟩ : ∃ o, (.cells #[.slice a R.length c, .slice b sp.length d] 31 : Obj) = o := ⟨_, rfl⟩
  obtain ⟨A2, hA2⟩ : ∃ o, (.cells #[.slice none 0 0, .slice none 0 0] 31 : Obj) = o := ⟨_, rfl⟩
  obtain ⟨W0, hW0⟩ : ∃ W0, (w.alloc A1).alloc A2 = W0 := ⟨_, rfl⟩
  have b1 := (gr_new w A1).below
  have b2 := (gr_new (w.alloc A1) A2).below
  have p3 : W0.heap[w.heap.size]? = some A1 := by rw [← hW0]; exact kept (B := (w.alloc A1).heap.size) (new_at w A1) (by simp) b2
  have p4 : W0.heap[w.heap.size + 1]? = some A2 := by
    rw [← hW0]
    have := new_at (w.alloc A1) A2
    rw [World.size_alloc] at this
    exact this
  have hz : w.heap.size + 2 ≤ W0.heap.size := by rw [← hW0]; simp
  have B0 : Hid (Below w.heap.size w W0) := by unfold Hid; rw [← hW0]; exact b1.trans (b2.mono b1.size)
  rw [← hA1] at p3
  rw [← hA2] at p4
  subst hA1 hA2
  have P1 := hid p3
  have P2 := hid p4
  obtain ⟨x1, x2, _⟩ := cells2 p3
  clear b1 b2 p3 p4
  have KC := hid (cloneF_any W0 _ R (HR.out.bel B0.out) (by omega))
  go_enter Tryz.func57, Tryz.ntmps57
  go_wp2_with (go_at_call 58; refine stopHere ?_)
  refine stopAt ?_
  refine KC.out.mono ?_
  rintro e w2 ⟨v2, rfl, hrow2, hb2⟩
  clear x1 x2 KC hW0
  have hone2 : ∀ x ∈ R, OneAt w2 x := fun x hx => ((HR.out.1 x hx).bel B0.out).bel hb2
  have B2 := hid hb2
  have RS2 := hid hrow2
  have O2 := hid hone2
  obtain ⟨q2, m2, rfl⟩ := hrow2.form
  have hform := owns_form3 hrow2
  clear hrow2 hone2 hb2
  go_wp2
  go_loopw [11] (fun i w' => ∃ (j : Nat) (acc : List Cel), j ≤ R.length ∧ i = .int .i64 j ∧ Hid (acc.length = R.length) ∧ Hid (fldOf acc = fldOf R) ∧ Hid (RowF W0.heap.size w' (.slice q2 R.length m2) acc) ∧ Hid (∀ x ∈ acc, OneAt w' x) ∧ Hid (∀ i (h : i < acc.length), i < j → Fresh W0.heap.size acc[i].v) ∧ Hid (Below W0.heap.size W0 w')) (fun i _ => R.length - (intOf i).toNat)
  case atStart => exact ⟨0, R, Nat.zero_le _, rfl, rfl, rfl, RS2, O2, (fun i _ h => absurd h (Nat.not_lt_zero _)), B2⟩
  case round =>
    clear RS2 O2 B2
    obtain ⟨j, acc, hj, rfl, hlen, hfl, hrow, hone, hfr, hbel⟩ := hrel
    by_cases hjl : j < R.length
    · obtain ⟨g, rfl⟩ : ∃ g, q2 = some ⟨g, 0, none⟩ := by
        rcases hform with ⟨e, h0⟩ | ⟨g, cap, e⟩
        · omega
        · simp only [Value.slice.injEq] at e
          exact ⟨g, e.1⟩
      have hja : j < acc.length := by have := hlen.out; omega
      obtain ⟨htri, hgw, hgb, _, _, hfz⟩ := hrow.out.tri
      have HX := hid (hone.out _ (List.getElem_mem hja))
      obtain ⟨c1, c2, c3⟩ := htri j hja
      have hxf : acc[j].f = (fldOf R)[j]'(by rw [fldOf_len]; exact hjl) := by
        have h1 : (fldOf acc)[j]'(by rw [fldOf_len]; exact hja) = acc[j].f := fldOf_get acc j hja
        rw [← h1]
        have h3 : (fldOf acc)[j]? = some ((fldOf R)[j]'(by rw [fldOf_len]; exact hjl)) := by rw [hfl.out]; exact List.getElem?_eq_getElem _
        exact (List.getElem?_eq_some_iff.1 h3).2
      have hxl : acc[j].f.vs.length ≤ 100000 := by
        rw [hxf, fldOf_get R j hjl]
        exact HV1.out _ (List.getElem_mem hjl)
      obtain ⟨x, hx⟩ : ∃ x, acc[j] = x := ⟨_, rfl⟩
      rw [hx] at c1 c2 c3 HX hxl
      have HXE := hid hx
      clear hx htri hxf
      obtain ⟨W1, hW1⟩ : ∃ W1, wr.alloc (.cells #[.string x.f.nm, .bool x.f.su, .slice x.a x.f.vs.length x.c] 49) = W1 := ⟨_, rfl⟩
      have hB1 : Below wr.heap.size wr W1 := by rw [← hW1]; exact (gr_new _ _).below
      obtain ⟨u1, u2, u3, uf⟩ := cells3 (show W1.heap[wr.heap.size]? = some (.cells #[.string x.f.nm, .bool x.f.su, .slice x.a x.f.vs.length x.c] 49) by rw [← hW1]; exact new_at _ _)
      have hxA : AtAt W1 (.slice x.a x.f.vs.length x.c) x.f.vs := AtAt.bel HX.out hB1
      have HK2 := hid (clone_new W1 _ x.f.vs hxA (by omega))
      have RW1 := hid (hrow.out.keep hB1)
      have OW1 : Hid (∀ x ∈ acc, OneAt W1 x) := fun x hx => (hone.out x hx).bel hB1
      have BW1 : Hid (Below W0.heap.size W0 W1) := hbel.out.trans (hB1.mono hbel.out.size)
      have hgW : g < W1.heap.size := Nat.lt_of_lt_of_le hgw hB1.size
      clear hrow hone hxA
      go_wp2_with (go_at_call 75; refine stopHere ?_)
      refine stopAt ?_
      refine HK2.out.mono ?_
      rintro e w3 ⟨v3, rfl, hA3, hf3, hb3⟩
      have A3 := hid hA3
      have F3 := hid (hf3.mono BW1.out.size)
      clear hf3
      obtain ⟨q3, m3, rfl⟩ := hA3.form
      have RW3 := hid (RW1.out.keep hb3)
      have OW3 : Hid (∀ x ∈ acc, OneAt w3 x) := fun x hx => (OW1.out x hx).bel hb3
      have BW3 : Hid (Below W0.heap.size W0 w3) := BW1.out.trans (hb3.mono BW1.out.size)
      obtain ⟨d1, d2, d3⟩ := RW3.out.tri.1 j hja
      have df := RW3.out.tri.2.2.2.2.2
      have hji : (j : Int) < (R.length : Int) := by omega
      clear hA3 hb3 hW1 c1 c2 c3 u1 u2 u3 uf hfz
      go_wp2
      refine ⟨⟨j + 1, acc.set j ⟨⟨x.f.nm, x.f.su, x.f.vs⟩, q3, m3⟩, by omega, by go_num, by show _ = _; rw [List.length_set]; exact hlen.out, ?_, ?_, ?_, ?_, ?_⟩, by simp [intOf]; omega⟩
      · show _ = _
        rw [fldOf_set, ← hfl.out]
        have e2 : (⟨x.f.nm, x.f.su, x.f.vs⟩ : M.Fld) = (fldOf acc)[j]'(by rw [fldOf_len]; exact hja) := by rw [fldOf_get acc j hja, HXE.out]
        show (fldOf acc).set j (⟨x.f.nm, x.f.su, x.f.vs⟩ : M.Fld) = _
        rw [e2, List.set_getElem_self]
      · have h0 := hlen.out
        have := RW3.out
        rw [← h0] at this ⊢
        exact this.setV hja ⟨⟨x.f.nm, x.f.su, x.f.vs⟩, q3, m3⟩ (by rw [HXE.out]) (by rw [HXE.out])
      · exact ones_set hja OW3.out (x1 := ⟨⟨x.f.nm, x.f.su, x.f.vs⟩, q3, m3⟩) A3.out d3
      · exact fresh_set hfr.out F3.out
      · exact BW3.out.setCell (p := ⟨g, j * 3 + 2, none⟩) hgb _
    · obtain ⟨y1, y2, yf⟩ := cells2 (kept P1.out (by omega) hbel.out)
      have KP := hid (clone_new wr _ sp ((HP.out.bel B0.out).bel hbel.out) (by omega))
      have hbz := hbel.out.size
      go_wp2_with (go_at_call 75; refine stopHere ?_)
      refine stopAt ?_
      refine KP.out.mono ?_
      rintro e w8 ⟨v8, rfl, hA8, hf8, hb8⟩
      have A8 := hid hA8
      have F8 := hid hf8
      clear hf8
      obtain ⟨q8, m8, rfl⟩ := hA8.form
      have R8 := hid (hrow.out.keep hb8)
      have O8 : Hid (∀ x ∈ acc, OneAt w8 x) := fun x hx => (hone.out x hx).bel hb8
      have B8 : Hid (Below w.heap.size w w8) := B0.out.trans ((hbel.out.trans (hb8.mono hbel.out.size)).mono B0.out.size)
      obtain ⟨z0, z1, zf⟩ := cells2 (kept (kept P2.out (by omega) hbel.out) (by omega) hb8)
      clear hA8 hb8 y1 y2 yf
      go_wp2
      refine bodyPost_ret (v := .agg #[.slice q2 R.length m2, .slice q8 sp.length m8]) (by simp [results, Tryz.results57, go_sem, z0, z1]) rfl ?_
      refine ⟨_, rfl, ?_, set2b B8.out (by omega) _ _⟩
      have hsh : ShFr (w.heap.size + 2) w8 (.agg #[.slice q2 R.length m2, .slice q8 sp.length m8]) s :=
        ⟨_, _, rfl, ⟨acc, by rw [hfl.out, ← HF.out], FsNew.fresh (R8.out.mono (by omega)) fun x hx => ⟨O8.out x hx, by
          obtain ⟨i, hi, rfl⟩ := List.getElem_of_mem hx
          exact (hfr.out i hi (by have := hlen.out; omega)).mono (by omega)⟩⟩, by
          rw [HSP.out]
          exact AtAt.fresh A8.out (F8.out.mono (by omega))⟩
      exact (((hsh.set (g := w.heap.size + 1) (by omega)).set (g := w.heap.size + 1) (by omega)).mono (by omega))
end Go.Proofs.YtbaaeobdjiglgaaGreat
