/-
  The walk of the document's Within over shapes. Conditions: shapes of at most 100000 fields of as many atoms.
-/
import Derived.Test.YtnllcfagdcepfaaS11
import Derived.Test.YtnllcfagdcepfaaR1
import Derived.Test.YtnllcfagdcepfaaS8
set_option linter.unusedVariables false
set_option linter.unusedSimpArgs false
namespace Go.Proofs.Ytnllcfagdcepfaa
open Go.RowKit Go.Sort

theorem bx_bel0 {w w' : World} {g : Nat} {o : Obj} (h : w.heap[g]? = some o) (hb : Below w.heap.size w w') : w'.heap[g]? = some o := kept h (Array.getElem?_eq_some_iff.1 h).1 hb
theorem box_put {w : World} {g p : Nat} {T : TypeId} {cs : Array Value} (h : w.heap[g]? = some (.cells cs T (0, 0))) (u : Value) :
    (w.setCell ⟨g, p, none⟩ u).heap[g]? = some (.cells (cs.setIfInBounds p u) T (0, 0)) := by
  show (w.heap.modify g _)[g]? = _
  rw [Array.getElem?_modify, if_pos rfl, h]
  rfl
theorem box_set3 {w : World} {g : Nat} {T : TypeId} {x0 x1 x2 : Value} (h : w.heap[g]? = some (.cells #[x0, x1, x2] T (0, 0))) (u0 u1 u2 : Value) :
    (((w.setCell ⟨g, 0, none⟩ u0).setCell ⟨g, 1, none⟩ u1).setCell ⟨g, 2, none⟩ u2).heap[g]? = some (.cells #[u0, u1, u2] T (0, 0)) := box_put (box_put (box_put h u0) u1) u2
theorem get_len0 {K : Nat} {s : M.Shp} {n : ByteArray} {x : M.Fld} (h : M.Sm K s) (hx : x = (M.getF s.fs n).getD zeroF) : x.vs.length ≤ K := by
  rw [hx]
  cases hg : M.getF s.fs n with
  | none => exact Nat.zero_le _
  | some f => exact h.2.1 f (M.getF_mem hg)

set_option maxHeartbeats 8000000 in
set_option maxRecDepth 100000 in
theorem rwithinS_any (w : World) (va vb : Value) (s t : M.Shp) (h1 : ShAt w va s) (h2 : ShAt w vb t) (K1 : M.Sm 100000 s) (K2 : M.Sm 100000 t) :
    Calls Try.prog 20 #[va, vb] w fun e w' => e = .returned (.bool (M.mayS s && M.mayS t && M.withinS s t)) ∧ Below w.heap.size w w' := by
  have mixed := mixedP
  obtain ⟨res, hres⟩ : ∃ r, (M.mayS s && M.mayS t && M.withinS s t) = r := ⟨_, rfl⟩
  rw [hres]
  have HRES := hid hres
  clear hres
  have T1 := hid h1
  have T2 := hid h2
  obtain ⟨R, a, c, b, d, hs, rfl, hR, hP⟩ := h1.open
  obtain ⟨Q, a', c', b', d', ht, rfl, hQ, hP'⟩ := h2.open
  obtain ⟨n1, v1, p1⟩ := sm_fs K1 hs
  obtain ⟨n2, v2, p2⟩ := sm_fs K2 ht
  have HF : Hid (s.fs = fldOf R ∧ t.fs = fldOf Q) := ⟨by rw [hs], by rw [ht]⟩
  have HK1 := hid K1
  have HK2 := hid K2
  have HR := hid hR
  have HQ := hid hQ
  have HP := hid hP
  have HP' := hid hP'
  have HV1 := hid v1
  have HV2 := hid v2
  clear h1 h2 hs ht hR hQ hP hP' K1 K2 v1 v2
  obtain ⟨sn, hsn⟩ : ∃ n, s.pr.length = n := ⟨_, rfl⟩
  obtain ⟨tn, htn⟩ : ∃ n, t.pr.length = n := ⟨_, rfl⟩
  rw [hsn] at T1 HP p1 ⊢
  rw [htn] at T2 HP' p2 ⊢
  have HSN := hid hsn
  have HTN := hid htn
  clear hsn htn
  obtain ⟨W0, hW0⟩ : ∃ W0, (w.alloc (.cells #[.slice a R.length c, .slice b sn d] 25)).alloc (.cells #[.slice a' Q.length c', .slice b' tn d'] 25) = W0 := ⟨_, rfl⟩
  have hb1 := (gr_new w (.cells #[.slice a R.length c, .slice b sn d] 25)).below
  have hb2 := (gr_new (w.alloc (.cells #[.slice a R.length c, .slice b sn d] 25)) (.cells #[.slice a' Q.length c', .slice b' tn d'] 25)).below
  have p3 := kept (new_at w (.cells #[.slice a R.length c, .slice b sn d] 25)) (by simp) hb2
  have p4 := new_at (w.alloc (.cells #[.slice a R.length c, .slice b sn d] 25)) (.cells #[.slice a' Q.length c', .slice b' tn d'] 25)
  rw [World.size_alloc] at p4
  have hz : w.heap.size + 1 < W0.heap.size := by rw [← hW0]; simp
  have hB : Below w.heap.size w W0 := by rw [← hW0]; exact hb1.trans (hb2.mono hb1.size)
  rw [hW0] at p3 p4
  have B0 := hid hB
  have P1 := hid p3
  have P2 := hid p4
  obtain ⟨x1, x2, _⟩ := cells2 p3
  obtain ⟨y1, y2, _⟩ := cells2 p4
  clear hb1 hb2 hB p3 p4
  have KA := rmayS_any W0 _ s (T1.out.bel B0.out) HK1.out
  cases ms : M.mayS s with
  | false =>
    rw [ms] at KA
    have HKA := hid KA
    have MS := hid ms
    clear KA ms
    go_enter Try.func20, Try.ntmps20
    go_wp2_with (go_at_call 14; refine stopHere ?_)
    refine stopAt ?_
    refine HKA.out.mono ?_
    rintro e w1 ⟨rfl, hb1⟩
    clear hW0 x1 x2 y1 y2
    go_wp2
    go_ret
    exact ⟨ret_bool (by rw [← HRES.out, MS.out]; rfl), B0.out.trans (hb1.mono B0.out.size)⟩
  | true =>
    rw [ms] at KA
    have HKA := hid KA
    have MS := hid ms
    clear KA ms
    go_enter Try.func20, Try.ntmps20
    go_wp2_with (go_at_call 14; refine stopHere ?_)
    refine stopAt ?_
    refine HKA.out.mono ?_
    rintro e w1 ⟨rfl, hb1⟩
    have B1 : Hid (Below w.heap.size w w1) := B0.out.trans (hb1.mono B0.out.size)
    have hz1 : w.heap.size + 1 < w1.heap.size := Nat.lt_of_lt_of_le hz hb1.size
    have Q1 := hid (kept P1.out (by omega) hb1)
    have Q2 := hid (kept P2.out hz hb1)
    clear hW0 x1 x2 y1 y2 hb1
    obtain ⟨x1, x2, _⟩ := cells2 Q1.out
    obtain ⟨y1, y2, _⟩ := cells2 Q2.out
    have KB := rmayS_any w1 _ t (T2.out.bel B1.out) HK2.out
    cases mt : M.mayS t with
    | false =>
      rw [mt] at KB
      have HKB := hid KB
      have MT := hid mt
      clear KB mt
      go_wp2_with (go_at_call 14; refine stopHere ?_)
      refine stopAt ?_
      refine HKB.out.mono ?_
      rintro e w2 ⟨rfl, hb2⟩
      clear x1 x2 y1 y2
      go_wp2
      go_ret
      exact ⟨ret_bool (by rw [← HRES.out, MS.out, MT.out]; rfl), B1.out.trans (hb2.mono B1.out.size)⟩
    | true =>
      rw [mt] at KB
      have HKB := hid KB
      have MT := hid mt
      clear KB mt
      go_wp2_with (go_at_call 14; refine stopHere ?_)
      refine stopAt ?_
      refine HKB.out.mono ?_
      rintro e w2 ⟨rfl, hb2⟩
      have B2 : Hid (Below w.heap.size w w2) := B1.out.trans (hb2.mono B1.out.size)
      have hz2 : w.heap.size + 1 < w2.heap.size := Nat.lt_of_lt_of_le hz1 hb2.size
      have U1 := hid (kept Q1.out (by omega) hb2)
      have U2 := hid (kept Q2.out hz1 hb2)
      clear x1 x2 y1 y2 hb2
      obtain ⟨x1, x2, _⟩ := cells2 U1.out
      obtain ⟨y1, y2, _⟩ := cells2 U2.out
      have KC := rwithin_any w2 _ _ s.pr t.pr (HP.out.bel B2.out) (HP'.out.bel B2.out) (by rw [HSN.out]; exact p1) (by rw [HTN.out]; exact p2)
      have HWS : Hid (M.withinS s t = (M.within s.pr t.pr && M.withinF (fldOf R) (fldOf Q))) := by unfold Hid M.withinS; rw [HF.out.1, HF.out.2]
      cases mw : M.within s.pr t.pr with
      | false =>
        rw [mw] at KC
        have HKC := hid KC
        have MW := hid mw
        clear KC mw
        go_wp2_with (go_at_call 40; refine stopHere ?_)
        refine stopAt ?_
        refine HKC.out.mono ?_
        rintro e w3 ⟨rfl, hb3⟩
        clear x1 x2 y1 y2
        go_wp2
        go_ret
        exact ⟨ret_bool (by rw [← HRES.out, MS.out, MT.out, HWS.out, MW.out]; rfl), B2.out.trans (hb3.mono B2.out.size)⟩
      | true =>
        rw [mw] at KC
        have HKC := hid KC
        have MW := hid mw
        clear KC mw
        go_wp2_with (go_at_call 40; refine stopHere ?_)
        refine stopAt ?_
        refine HKC.out.mono ?_
        rintro e w3 ⟨rfl, hb3⟩
        have B3 : Hid (Below w.heap.size w w3) := B2.out.trans (hb3.mono B2.out.size)
        have hz3 : w.heap.size + 1 < w3.heap.size := Nat.lt_of_lt_of_le hz2 hb3.size
        have V1 := hid (kept U1.out (by omega) hb3)
        have V2 := hid (kept U2.out hz2 hb3)
        clear x1 x2 y1 y2 hb3
        obtain ⟨x1, x2, _⟩ := cells2 V1.out
        obtain ⟨y1, y2, _⟩ := cells2 V2.out
        clear x1 x2 y1 y2
        obtain ⟨x1, x2, _⟩ := cells2 V1.out
        obtain ⟨y1, y2, _⟩ := cells2 V2.out
        go_wp2
        clear x1 x2 y1 y2
        go_loopw [5] (fun i w' => ∃ j : Nat, j ≤ R.length ∧ i = .int .i64 j ∧ Hid (InA R Q j) ∧ Hid (Below w3.heap.size w3 w')) (fun i _ => R.length - (intOf i).toNat)
        case atStart => exact ⟨0, Nat.zero_le _, rfl, (fun _ _ h => absurd h (Nat.not_lt_zero _)), Below.refl _ _⟩
        case round =>
          obtain ⟨j, hj, rfl, hm, hbel⟩ := hrel
          have hBW : Hid (Below w.heap.size w wr) := B3.out.trans (hbel.out.mono B3.out.size)
          obtain ⟨x1, x2⟩ := two_bel ⟨(cells2 V1.out).1, (cells2 V1.out).2.1⟩ (by omega) hbel.out
          obtain ⟨y1, y2⟩ := two_bel ⟨(cells2 V2.out).1, (cells2 V2.out).2.1⟩ hz3 hbel.out
          have hwr : w.heap.size + 1 < wr.heap.size := Nat.lt_of_lt_of_le hz3 hbel.out.size
          by_cases hjl : j < R.length
          · obtain ⟨bb, o, rfl, hlt, hc⟩ := Rs_some HR.out hjl
            obtain ⟨c1, c2, c3⟩ := (hc j hjl).bel hlt hBW.out
            have HX := hid (HR.out.1 _ (List.getElem_mem hjl))
            have hxl := HV1.out _ (List.getElem_mem hjl)
            obtain ⟨⟨⟨xn, xs, xv⟩, xa, xc⟩, hx⟩ : ∃ x, R[j] = x := ⟨_, rfl⟩
            rw [hx] at c1 c2 c3 HX hxl
            dsimp only at c1 c2 c3 hxl
            have HXE := hid hx
            have hlw : bb < wr.heap.size := Nat.lt_of_lt_of_le hlt hBW.out.size
            clear hx hc
            have KG := hid (fun (W : World) (hb : Below wr.heap.size wr W) => rget_any W _ t xn (T2.out.bel (hBW.out.trans (hb.mono hBW.out.size))) HK2.out)
            have KH : Hid (∀ W, Below wr.heap.size wr W → (W.cell? ⟨w.heap.size, 0, none⟩ = some (.slice (some ⟨bb, o, none⟩) R.length c) ∧ W.cell? ⟨w.heap.size, 1, none⟩ = some (.slice b sn d) ∧ W.cell? ⟨w.heap.size + 1, 0, none⟩ = some (.slice a' Q.length c') ∧ W.cell? ⟨w.heap.size + 1, 1, none⟩ = some (.slice b' tn d') ∧ W.cell? ⟨bb, o + j * 3, none⟩ = some (.string xn) ∧ W.cell? ⟨bb, o + j * 3 + 1, none⟩ = some (.bool xs) ∧ W.cell? ⟨bb, o + j * 3 + 2, none⟩ = some (.slice xa xv.length xc))) := fun W hb => by
              obtain ⟨e1, e2⟩ := two_bel ⟨x1, x2⟩ (by omega) hb
              obtain ⟨e3, e4⟩ := two_bel ⟨y1, y2⟩ hwr hb
              exact ⟨e1, e2, e3, e4, by rw [hb.cell (p := ⟨bb, o + j * 3, none⟩) hlw]; exact c1, by rw [hb.cell (p := ⟨bb, o + j * 3 + 1, none⟩) hlw]; exact c2, by rw [hb.cell (p := ⟨bb, o + j * 3 + 2, none⟩) hlw]; exact c3⟩
            go_wp2_with fail
            clear x1 x2 y1 y2 c1 c2 c3
            refine wp_region_held_drew (S := fun W => W.cell? ⟨w.heap.size, 0, none⟩ = some (.slice (some ⟨bb, o, none⟩) R.length c) ∧ W.cell? ⟨w.heap.size, 1, none⟩ = some (.slice b sn d) ∧ W.cell? ⟨w.heap.size + 1, 0, none⟩ = some (.slice a' Q.length c') ∧ W.cell? ⟨w.heap.size + 1, 1, none⟩ = some (.slice b' tn d') ∧ W.cell? ⟨bb, o + j * 3, none⟩ = some (.string xn) ∧ W.cell? ⟨bb, o + j * 3 + 1, none⟩ = some (.bool xs) ∧ W.cell? ⟨bb, o + j * 3 + 2, none⟩ = some (.slice xa xv.length xc)) (by kernel_rfl) (KH.out _ (Below.refl _ _).drew) (fun hHeld => ?_)
            have RB0 : Hid (Below wr.heap.size wr wr.drew) := (Gr.refl _).drew.below
            refine wpAnyH_take (i := 0) (oi := { dst := some 35, op := Op.load 25 (Operand.tmp 3), type := 25, pos := "ref.go:74", after := #[], guard := none }) (v := ?_) rfl (by kernel_rfl) (by kernel_rfl) (by kernel_rfl) (fun _ _ _ h => h) (Or.inl ⟨by rfl, ?_⟩) hHeld ?_
            rotate_left
            · intro w hSw; (try dsimp only at hSw); go_simp; (try with_reducible rfl)
            simp only [Act.put, List.setIfInBounds_toArray, List.set_cons_zero, List.set_cons_succ]
            refine wpAnyH_take (i := 1) (oi := { dst := some 36, op := Op.fieldAddr 25 (Operand.tmp 2) 0, type := 0, pos := "ref.go:74", after := #[], guard := none }) (v := ?_) rfl (by kernel_rfl) (by kernel_rfl) (by kernel_rfl) (fun _ _ _ h => h) (Or.inl ⟨by rfl, ?_⟩) hHeld ?_
            rotate_left
            · intro w hSw; (try dsimp only at hSw); go_simp; (try with_reducible rfl)
            simp only [Act.put, List.setIfInBounds_toArray, List.set_cons_zero, List.set_cons_succ]
            refine wpAnyH_take (i := 2) (oi := { dst := some 37, op := Op.load 22 (Operand.tmp 36), type := 22, pos := "ref.go:74", after := #[{ on := 1, ground := Ground.data }], guard := none }) (v := ?_) rfl (by kernel_rfl) (by kernel_rfl) (by kernel_rfl) (fun _ _ _ h => h) (Or.inl ⟨by rfl, ?_⟩) hHeld ?_
            rotate_left
            · intro w hSw; (try dsimp only at hSw); go_simp; (try with_reducible rfl)
            simp only [Act.put, List.setIfInBounds_toArray, List.set_cons_zero, List.set_cons_succ]
            refine wpAnyH_take (i := 3) (oi := { dst := some 38, op := Op.move (Operand.tmp 5), type := 3, pos := "ref.go:74", after := #[], guard := none }) (v := ?_) rfl (by kernel_rfl) (by kernel_rfl) (by kernel_rfl) (fun _ _ _ h => h) (Or.inl ⟨by rfl, ?_⟩) hHeld ?_
            rotate_left
            · intro w hSw; (try dsimp only at hSw); go_simp; (try with_reducible rfl)
            simp only [Act.put, List.setIfInBounds_toArray, List.set_cons_zero, List.set_cons_succ]
            refine wpAnyH_take (i := 4) (oi := { dst := some 39, op := Op.indexAddr 22 (Operand.tmp 37) (Operand.tmp 38), type := 0, pos := "ref.go:74", after := #[{ on := 2, ground := Ground.data }, { on := 3, ground := Ground.data }], guard := none }) (v := ?_) rfl (by kernel_rfl) (by kernel_rfl) (by kernel_rfl) (fun _ _ _ h => h) (Or.inl ⟨by rfl, ?_⟩) hHeld ?_
            rotate_left
            · intro w hSw; (try dsimp only at hSw); go_simp; (try with_reducible rfl)
            simp only [Act.put, List.setIfInBounds_toArray, List.set_cons_zero, List.set_cons_succ]
            refine wpAnyH_take (i := 5) (oi := { dst := some 40, op := Op.fieldAddr 29 (Operand.tmp 39) 0, type := 0, pos := "ref.go:74", after := #[{ on := 4, ground := Ground.data }], guard := none }) (v := ?_) rfl (by kernel_rfl) (by kernel_rfl) (by kernel_rfl) (fun _ _ _ h => h) (Or.inl ⟨by rfl, ?_⟩) hHeld ?_
            rotate_left
            · intro w hSw; (try dsimp only at hSw); go_simp; (try with_reducible rfl)
            simp only [Act.put, List.setIfInBounds_toArray, List.set_cons_zero, List.set_cons_succ]
            refine wpAnyH_take (i := 6) (oi := { dst := some 41, op := Op.load 9 (Operand.tmp 40), type := 9, pos := "ref.go:74", after := #[{ on := 5, ground := Ground.data }], guard := none }) (v := ?_) rfl (by kernel_rfl) (by kernel_rfl) (by kernel_rfl) (fun _ _ _ h => h) (Or.inl ⟨by rfl, ?_⟩) hHeld ?_
            rotate_left
            · intro w hSw; (try dsimp only at hSw); go_simp; (try with_reducible rfl)
            simp only [Act.put, List.setIfInBounds_toArray, List.set_cons_zero, List.set_cons_succ]
            refine wpAnyH_ready (rs := [7, 11]) (by kernel_rfl) (by simp) ?_
            refine AllReadyH.cons (o := { dst := some 42, op := Op.call { callee := Callee.value (Operand.func 12), args := #[Operand.tmp 35, Operand.tmp 41], argTypes := #[25, 9] }, type := 30, pos := "ref.go:74", after := #[{ on := 0, ground := Ground.data }, { on := 6, ground := Ground.data }], guard := none }) rfl (fun K hK => ?_) (AllReadyH.cons (o := { dst := some 6, op := Op.alloc 29, type := 0, pos := "ref.go:74", after := #[], guard := none }) rfl (fun K hK => ?_) AllReadyH.nil)
            · go_simp
              refine (KG.out _ RB0.out).mono ?_
              rintro e z1 ⟨⟨⟨yn, ys, yv⟩, ya, yc⟩, rfl, hyf, hoy, hb⟩
              have RB1 : Hid (Below wr.heap.size wr z1) := RB0.out.trans (hb.mono RB0.out.size)
              dsimp only at hyf
              have HYF := hid hyf
              have HO1 : Hid (AtAt z1 (.slice ya yv.length yc) yv) := hoy
              clear hyf hoy hb
              unfold fv
              refine hK.out _ _ (KH.out _ RB1.out) (fun hHeld => ?_)
              clear RB0 hK
              refine wpAnyH_take (i := 8) (oi := { dst := some 34, op := Op.move (Operand.tmp 42), type := 30, pos := "ref.go:74", after := #[{ on := 7, ground := Ground.data }], guard := none }) (v := ?_) rfl (by kernel_rfl) (by kernel_rfl) (by kernel_rfl) (fun _ _ _ h => h) (Or.inl ⟨by rfl, ?_⟩) hHeld ?_
              rotate_left
              · intro w hSw; (try dsimp only at hSw); go_simp; (try with_reducible rfl)
              simp only [Act.put, List.setIfInBounds_toArray, List.set_cons_zero, List.set_cons_succ]
              refine wpAnyH_take (i := 9) (oi := { dst := some 43, op := Op.extract (Operand.tmp 34) 0, type := 29, pos := "ref.go:74", after := #[{ on := 8, ground := Ground.data }], guard := none }) (v := ?_) rfl (by kernel_rfl) (by kernel_rfl) (by kernel_rfl) (fun _ _ _ h => h) (Or.inl ⟨by rfl, ?_⟩) hHeld ?_
              rotate_left
              · intro w hSw; (try dsimp only at hSw); go_simp; (try with_reducible rfl)
              simp only [Act.put, List.setIfInBounds_toArray, List.set_cons_zero, List.set_cons_succ]
              refine wpAnyH_take (i := 10) (oi := { dst := some 44, op := Op.extract (Operand.tmp 34) 1, type := 4, pos := "ref.go:74", after := #[{ on := 8, ground := Ground.data }, { on := 12, ground := Ground.gcOnly Departure.lateStores }], guard := none }) (v := ?_) rfl (by kernel_rfl) (by kernel_rfl) (by kernel_rfl) (fun _ _ _ h => h) (Or.inl ⟨by rfl, ?_⟩) hHeld ?_
              rotate_left
              · intro w hSw; (try dsimp only at hSw); go_simp; (try with_reducible rfl)
              simp only [Act.put, List.setIfInBounds_toArray, List.set_cons_zero, List.set_cons_succ]
              refine wpAnyH_ready (rs := [11]) (by kernel_rfl) (by simp) ?_
              refine AllReadyH.cons (o := { dst := some 6, op := Op.alloc 29, type := 0, pos := "ref.go:74", after := #[], guard := none }) rfl (fun K hK => ?_) AllReadyH.nil
              obtain ⟨z2, hzz2⟩ : ∃ W, z1.alloc (.cells #[.string ⟨#[]⟩, .bool false, .slice none 0 0] 29) = W := ⟨_, rfl⟩
              go_simp
              have hb : Below z1.heap.size z1 z2 := by rw [← hzz2]; exact (gr_new _ _).below
              have PG2 : Hid (z2.heap[z1.heap.size]? = some (.cells #[.string ⟨#[]⟩, .bool false, .slice none 0 0] 29 (0, 0))) := by unfold Hid; rw [← hzz2]; exact new_at _ _
              have GZ : Hid (wr.heap.size ≤ z1.heap.size) := RB1.out.size
              have RB2 : Hid (Below wr.heap.size wr z2) := RB1.out.trans (hb.mono RB1.out.size)
              have HO2 := hid (AtAt.bel HO1.out hb)
              clear HO1
              clear hb hzz2
              refine hK.out _ _ (KH.out _ RB2.out) (fun hHeld => ?_)
              clear RB1 hK
              refine wpAnyH_ready (rs := [12]) (by kernel_rfl) (by simp) ?_
              refine AllReadyH.cons (o := { dst := none, op := Op.store 29 (Operand.tmp 6) (Operand.tmp 43), type := 0, pos := "ref.go:74", after := #[{ on := 11, ground := Ground.data }, { on := 9, ground := Ground.data }, { on := 7, ground := Ground.chain }, { on := 0, ground := Ground.phase }, { on := 1, ground := Ground.phase }, { on := 2, ground := Ground.phase }, { on := 3, ground := Ground.phase }, { on := 4, ground := Ground.phase }, { on := 5, ground := Ground.phase }, { on := 6, ground := Ground.phase }, { on := 7, ground := Ground.phase }, { on := 8, ground := Ground.phase }, { on := 9, ground := Ground.phase }, { on := 10, ground := Ground.textOnly Departure.lateStores }, { on := 11, ground := Ground.phase }], guard := none }) rfl (fun K hK => ?_) AllReadyH.nil
              obtain ⟨e0, e1, e2, ef⟩ := cells3 PG2.out
              go_simp
              obtain ⟨z3, hzz3⟩ : ∃ W, (((z2.setCell ⟨z1.heap.size, 0, none⟩ (.string yn)).setCell ⟨z1.heap.size, 1, none⟩ (.bool ys)).setCell ⟨z1.heap.size, 2, none⟩ (.slice ya yv.length yc)) = W := ⟨_, rfl⟩
              have RB3 : Hid (Below wr.heap.size wr z3) := by unfold Hid; rw [← hzz3]; exact set3 RB2.out GZ.out _ _ _
              have HO3 : Hid (AtAt z3 (.slice ya yv.length yc) yv) := by unfold Hid; rw [← hzz3]; exact AtAt.set3n (p := 0) HO2.out e0 e1 e2 (noInt_s _) (noInt_b _) (noInt_v _ _ _)
              have PG3 : Hid (z3.heap[z1.heap.size]? = some (.cells #[.string yn, .bool ys, .slice ya yv.length yc] 29 (0, 0))) := by unfold Hid; rw [← hzz3]; exact box_set3 PG2.out _ _ _
              clear e0 e1 e2 ef PG2 HO2
              try rw [hzz3]
              clear hzz3
              refine hK.out _ _ (KH.out _ RB3.out) (fun hHeld => ?_)
              clear RB2 hK
              refine wpAnyH_take (i := 13) (oi := { dst := some 7, op := Op.assign (Operand.tmp 44), type := 4, pos := "ref.go:74", after := #[{ on := 10, ground := Ground.data }, { on := 12, ground := Ground.chain }, { on := 0, ground := Ground.phase }, { on := 1, ground := Ground.phase }, { on := 2, ground := Ground.phase }, { on := 3, ground := Ground.phase }, { on := 4, ground := Ground.phase }, { on := 5, ground := Ground.phase }, { on := 6, ground := Ground.phase }, { on := 7, ground := Ground.phase }, { on := 8, ground := Ground.phase }, { on := 9, ground := Ground.phase }, { on := 10, ground := Ground.phase }, { on := 11, ground := Ground.phase }, { on := 12, ground := Ground.phase }], guard := none }) (v := ?_) rfl (by kernel_rfl) (by kernel_rfl) (by kernel_rfl) (fun _ _ _ h => h) (Or.inl ⟨by rfl, ?_⟩) hHeld ?_
              rotate_left
              · intro w hSw; (try dsimp only at hSw); go_simp; (try with_reducible rfl)
              simp only [Act.put, List.setIfInBounds_toArray, List.set_cons_zero, List.set_cons_succ]
              refine wpAnyH_done (by kernel_rfl) ?_ _
              clear hHeld KG
              have RB := hid RB3.out
              have HO := hid HO3.out
              have PG := hid PG3.out
              clear RB3 HO3 PG3
              have hyl : yv.length ≤ 100000 := get_len0 HK2.out HYF.out
              have KW := hid (fun (W : World) (hb : Below z3.heap.size z3 W) => rwithin_any W (.slice xa xv.length xc) (.slice ya yv.length yc) xv yv (AtAt.bel HX.out (hBW.out.trans ((RB.out.trans (hb.mono RB.out.size)).mono hBW.out.size))) (AtAt.bel HO.out hb) hxl hyl)
              have BL : Hid (∀ W, Below z3.heap.size z3 W → Below w3.heap.size w3 W) := fun W hb => hbel.out.trans ((RB.out.trans (hb.mono RB.out.size)).mono hbel.out.size)
              have BW : Hid (∀ W, Below z3.heap.size z3 W → Below w.heap.size w W) := fun W hb => hBW.out.trans ((RB.out.trans (hb.mono RB.out.size)).mono hBW.out.size)
              cases hg : M.getF t.fs xn with
              | none =>
                have HG := hid hg
                clear hg
                simp only [Option.isSome_none]
                have K7 : Hid (∀ W, Below z3.heap.size z3 W → (W.cell? ⟨w.heap.size, 0, none⟩ = some (.slice (some ⟨bb, o, none⟩) R.length c) ∧ W.cell? ⟨w.heap.size, 1, none⟩ = some (.slice b sn d) ∧ W.cell? ⟨w.heap.size + 1, 0, none⟩ = some (.slice a' Q.length c') ∧ W.cell? ⟨w.heap.size + 1, 1, none⟩ = some (.slice b' tn d') ∧ W.cell? ⟨bb, o + j * 3, none⟩ = some (.string xn) ∧ W.cell? ⟨bb, o + j * 3 + 1, none⟩ = some (.bool xs) ∧ W.cell? ⟨bb, o + j * 3 + 2, none⟩ = some (.slice xa xv.length xc) ∧ W.cell? ⟨z1.heap.size, 0, none⟩ = some (.string yn) ∧ W.cell? ⟨z1.heap.size, 1, none⟩ = some (.bool ys) ∧ W.cell? ⟨z1.heap.size, 2, none⟩ = some (.slice ya yv.length yc))) := fun W hb => by
                  obtain ⟨s1, s2, s3, s4, s5, s6, s7⟩ := KH.out W (RB.out.trans (hb.mono RB.out.size))
                  obtain ⟨p1, p2, p3, _⟩ := cells3 (bx_bel0 PG.out hb)
                  exact ⟨s1, s2, s3, s4, s5, s6, s7, p1, p2, p3⟩
                obtain ⟨s1, s2, s3, s4, s5, s6, s7, p1, p2, p3⟩ := K7.out _ (Below.refl _ _)
                go_wp2_with fail
                clear s1 s2 s3 s4 s5 s6 s7 p1 p2 p3
                refine wp_region_held_drew (S := fun W => W.cell? ⟨w.heap.size, 0, none⟩ = some (.slice (some ⟨bb, o, none⟩) R.length c) ∧ W.cell? ⟨w.heap.size, 1, none⟩ = some (.slice b sn d) ∧ W.cell? ⟨w.heap.size + 1, 0, none⟩ = some (.slice a' Q.length c') ∧ W.cell? ⟨w.heap.size + 1, 1, none⟩ = some (.slice b' tn d') ∧ W.cell? ⟨bb, o + j * 3, none⟩ = some (.string xn) ∧ W.cell? ⟨bb, o + j * 3 + 1, none⟩ = some (.bool xs) ∧ W.cell? ⟨bb, o + j * 3 + 2, none⟩ = some (.slice xa xv.length xc) ∧ W.cell? ⟨z1.heap.size, 0, none⟩ = some (.string yn) ∧ W.cell? ⟨z1.heap.size, 1, none⟩ = some (.bool ys) ∧ W.cell? ⟨z1.heap.size, 2, none⟩ = some (.slice ya yv.length yc)) (by kernel_rfl) (K7.out _ (Below.refl _ _).drew) (fun hHeld => ?_)
                have Q0 : Hid (Below z3.heap.size z3 z3.drew) := (Gr.refl _).drew.below
                refine wpAnyH_take (i := 0) (oi := { dst := some 45, op := Op.move (Operand.tmp 7), type := 4, pos := "ref.go:75", after := #[], guard := none }) (v := ?_) rfl (by kernel_rfl) (by kernel_rfl) (by kernel_rfl) (fun _ _ _ h => h) (Or.inl ⟨by rfl, ?_⟩) hHeld ?_
                rotate_left
                · intro w hSw; (try dsimp only at hSw); go_simp; (try with_reducible rfl)
                simp only [Act.put, List.setIfInBounds_toArray, List.set_cons_zero, List.set_cons_succ]
                refine wpAnyH_take (i := 1) (oi := { dst := some 46, op := Op.unOp UnOp.not 4 (Operand.tmp 45), type := 4, pos := "ref.go:75", after := #[{ on := 0, ground := Ground.data }], guard := none }) (v := ?_) rfl (by kernel_rfl) (by kernel_rfl) (by kernel_rfl) (fun _ _ _ h => h) (Or.inl ⟨by rfl, ?_⟩) hHeld ?_
                rotate_left
                · intro w hSw; (try dsimp only at hSw); go_simp; (try with_reducible rfl)
                simp only [Act.put, List.setIfInBounds_toArray, List.set_cons_zero, List.set_cons_succ]
                refine wpAnyH_take (i := 2) (oi := { dst := some 47, op := Op.move (Operand.tmp 46), type := 4, pos := "ref.go:75", after := #[{ on := 1, ground := Ground.data }], guard := none }) (v := ?_) rfl (by kernel_rfl) (by kernel_rfl) (by kernel_rfl) (fun _ _ _ h => h) (Or.inl ⟨by rfl, ?_⟩) hHeld ?_
                rotate_left
                · intro w hSw; (try dsimp only at hSw); go_simp; (try with_reducible rfl)
                simp only [Act.put, List.setIfInBounds_toArray, List.set_cons_zero, List.set_cons_succ]
                refine wpAnyH_take (i := 3) (oi := { dst := some 48, op := Op.fieldAddr 25 (Operand.tmp 2) 0, type := 0, pos := "ref.go:75", after := #[{ on := 2, ground := Ground.guard }], guard := some (2, false) }) (v := undef) rfl (by kernel_rfl) (by kernel_rfl) (by kernel_rfl) (fun _ _ _ h => h) (Or.inr ⟨by rfl, rfl⟩) hHeld ?_
                simp only [Act.put, List.setIfInBounds_toArray, List.set_cons_zero, List.set_cons_succ]
                refine wpAnyH_take (i := 4) (oi := { dst := some 49, op := Op.load 22 (Operand.tmp 48), type := 22, pos := "ref.go:75", after := #[{ on := 3, ground := Ground.data }, { on := 2, ground := Ground.guard }], guard := some (2, false) }) (v := undef) rfl (by kernel_rfl) (by kernel_rfl) (by kernel_rfl) (fun _ _ _ h => h) (Or.inr ⟨by rfl, rfl⟩) hHeld ?_
                simp only [Act.put, List.setIfInBounds_toArray, List.set_cons_zero, List.set_cons_succ]
                refine wpAnyH_take (i := 5) (oi := { dst := some 50, op := Op.move (Operand.tmp 5), type := 3, pos := "ref.go:75", after := #[{ on := 2, ground := Ground.guard }], guard := some (2, false) }) (v := undef) rfl (by kernel_rfl) (by kernel_rfl) (by kernel_rfl) (fun _ _ _ h => h) (Or.inr ⟨by rfl, rfl⟩) hHeld ?_
                simp only [Act.put, List.setIfInBounds_toArray, List.set_cons_zero, List.set_cons_succ]
                refine wpAnyH_take (i := 6) (oi := { dst := some 51, op := Op.indexAddr 22 (Operand.tmp 49) (Operand.tmp 50), type := 0, pos := "ref.go:75", after := #[{ on := 4, ground := Ground.data }, { on := 5, ground := Ground.data }, { on := 2, ground := Ground.guard }], guard := some (2, false) }) (v := undef) rfl (by kernel_rfl) (by kernel_rfl) (by kernel_rfl) (fun _ _ _ h => h) (Or.inr ⟨by rfl, rfl⟩) hHeld ?_
                simp only [Act.put, List.setIfInBounds_toArray, List.set_cons_zero, List.set_cons_succ]
                refine wpAnyH_take (i := 7) (oi := { dst := some 52, op := Op.fieldAddr 29 (Operand.tmp 51) 2, type := 0, pos := "ref.go:75", after := #[{ on := 6, ground := Ground.data }, { on := 2, ground := Ground.guard }], guard := some (2, false) }) (v := undef) rfl (by kernel_rfl) (by kernel_rfl) (by kernel_rfl) (fun _ _ _ h => h) (Or.inr ⟨by rfl, rfl⟩) hHeld ?_
                simp only [Act.put, List.setIfInBounds_toArray, List.set_cons_zero, List.set_cons_succ]
                refine wpAnyH_take (i := 8) (oi := { dst := some 53, op := Op.load 23 (Operand.tmp 52), type := 23, pos := "ref.go:75", after := #[{ on := 7, ground := Ground.data }, { on := 2, ground := Ground.guard }], guard := some (2, false) }) (v := undef) rfl (by kernel_rfl) (by kernel_rfl) (by kernel_rfl) (fun _ _ _ h => h) (Or.inr ⟨by rfl, rfl⟩) hHeld ?_
                simp only [Act.put, List.setIfInBounds_toArray, List.set_cons_zero, List.set_cons_succ]
                refine wpAnyH_take (i := 9) (oi := { dst := some 54, op := Op.fieldAddr 29 (Operand.tmp 6) 2, type := 0, pos := "ref.go:75", after := #[{ on := 2, ground := Ground.guard }], guard := some (2, false) }) (v := undef) rfl (by kernel_rfl) (by kernel_rfl) (by kernel_rfl) (fun _ _ _ h => h) (Or.inr ⟨by rfl, rfl⟩) hHeld ?_
                simp only [Act.put, List.setIfInBounds_toArray, List.set_cons_zero, List.set_cons_succ]
                refine wpAnyH_take (i := 10) (oi := { dst := some 55, op := Op.load 23 (Operand.tmp 54), type := 23, pos := "ref.go:75", after := #[{ on := 9, ground := Ground.data }, { on := 2, ground := Ground.guard }], guard := some (2, false) }) (v := undef) rfl (by kernel_rfl) (by kernel_rfl) (by kernel_rfl) (fun _ _ _ h => h) (Or.inr ⟨by rfl, rfl⟩) hHeld ?_
                simp only [Act.put, List.setIfInBounds_toArray, List.set_cons_zero, List.set_cons_succ]
                refine wpAnyH_take (i := 11) (oi := { dst := some 56, op := Op.call { callee := Callee.value (Operand.func 40), args := #[Operand.tmp 53, Operand.tmp 55], argTypes := #[23, 23] }, type := 4, pos := "ref.go:75", after := #[{ on := 8, ground := Ground.data }, { on := 10, ground := Ground.data }, { on := 2, ground := Ground.chain }, { on := 2, ground := Ground.guard }], guard := some (2, false) }) (v := undef) rfl (by kernel_rfl) (by kernel_rfl) (by kernel_rfl) (fun _ _ _ h => h) (Or.inr ⟨by rfl, rfl⟩) hHeld ?_
                simp only [Act.put, List.setIfInBounds_toArray, List.set_cons_zero, List.set_cons_succ]
                refine wpAnyH_take (i := 12) (oi := { dst := some 57, op := Op.unOp UnOp.not 4 (Operand.tmp 56), type := 4, pos := "ref.go:75", after := #[{ on := 11, ground := Ground.data }, { on := 2, ground := Ground.guard }], guard := some (2, false) }) (v := undef) rfl (by kernel_rfl) (by kernel_rfl) (by kernel_rfl) (fun _ _ _ h => h) (Or.inr ⟨by rfl, rfl⟩) hHeld ?_
                simp only [Act.put, List.setIfInBounds_toArray, List.set_cons_zero, List.set_cons_succ]
                refine wpAnyH_take (i := 13) (oi := { dst := some 58, op := Op.pick (Operand.tmp 47) (Operand.const (Value.bool true)) (Operand.tmp 57), type := 4, pos := "ref.go:75", after := #[{ on := 2, ground := Ground.data }, { on := 12, ground := Ground.data }], guard := none }) (v := ?_) rfl (by kernel_rfl) (by kernel_rfl) (by kernel_rfl) (fun _ _ _ h => h) (Or.inl ⟨by rfl, ?_⟩) hHeld ?_
                rotate_left
                · intro w hSw; (try dsimp only at hSw); go_simp; (try with_reducible rfl)
                simp only [Act.put, List.setIfInBounds_toArray, List.set_cons_zero, List.set_cons_succ]
                refine wpAnyH_take (i := 14) (oi := { dst := some 59, op := Op.move (Operand.tmp 58), type := 4, pos := "ref.go:75", after := #[{ on := 13, ground := Ground.data }, { on := 11, ground := Ground.chain }], guard := none }) (v := ?_) rfl (by kernel_rfl) (by kernel_rfl) (by kernel_rfl) (fun _ _ _ h => h) (Or.inl ⟨by rfl, ?_⟩) hHeld ?_
                rotate_left
                · intro w hSw; (try dsimp only at hSw); go_simp; (try with_reducible rfl)
                simp only [Act.put, List.setIfInBounds_toArray, List.set_cons_zero, List.set_cons_succ]
                refine wpAnyH_take (i := 15) (oi := { dst := some 60, op := Op.fieldAddr 29 (Operand.tmp 6) 1, type := 0, pos := "ref.go:75", after := #[{ on := 14, ground := Ground.guard }], guard := some (14, false) }) (v := undef) rfl (by kernel_rfl) (by kernel_rfl) (by kernel_rfl) (fun _ _ _ h => h) (Or.inr ⟨by rfl, rfl⟩) hHeld ?_
                simp only [Act.put, List.setIfInBounds_toArray, List.set_cons_zero, List.set_cons_succ]
                refine wpAnyH_take (i := 16) (oi := { dst := some 61, op := Op.load 4 (Operand.tmp 60), type := 4, pos := "ref.go:75", after := #[{ on := 15, ground := Ground.data }, { on := 14, ground := Ground.guard }], guard := some (14, false) }) (v := undef) rfl (by kernel_rfl) (by kernel_rfl) (by kernel_rfl) (fun _ _ _ h => h) (Or.inr ⟨by rfl, rfl⟩) hHeld ?_
                simp only [Act.put, List.setIfInBounds_toArray, List.set_cons_zero, List.set_cons_succ]
                refine wpAnyH_take (i := 17) (oi := { dst := some 62, op := Op.move (Operand.tmp 61), type := 4, pos := "ref.go:75", after := #[{ on := 16, ground := Ground.data }, { on := 14, ground := Ground.chain }, { on := 14, ground := Ground.guard }], guard := some (14, false) }) (v := undef) rfl (by kernel_rfl) (by kernel_rfl) (by kernel_rfl) (fun _ _ _ h => h) (Or.inr ⟨by rfl, rfl⟩) hHeld ?_
                simp only [Act.put, List.setIfInBounds_toArray, List.set_cons_zero, List.set_cons_succ]
                refine wpAnyH_take (i := 18) (oi := { dst := some 63, op := Op.fieldAddr 25 (Operand.tmp 2) 0, type := 0, pos := "ref.go:75", after := #[{ on := 17, ground := Ground.guard }], guard := some (17, true) }) (v := undef) rfl (by kernel_rfl) (by kernel_rfl) (by kernel_rfl) (fun _ _ _ h => h) (Or.inr ⟨by rfl, rfl⟩) hHeld ?_
                simp only [Act.put, List.setIfInBounds_toArray, List.set_cons_zero, List.set_cons_succ]
                refine wpAnyH_take (i := 19) (oi := { dst := some 64, op := Op.load 22 (Operand.tmp 63), type := 22, pos := "ref.go:75", after := #[{ on := 18, ground := Ground.data }, { on := 17, ground := Ground.guard }], guard := some (17, true) }) (v := undef) rfl (by kernel_rfl) (by kernel_rfl) (by kernel_rfl) (fun _ _ _ h => h) (Or.inr ⟨by rfl, rfl⟩) hHeld ?_
                simp only [Act.put, List.setIfInBounds_toArray, List.set_cons_zero, List.set_cons_succ]
                refine wpAnyH_take (i := 20) (oi := { dst := some 65, op := Op.move (Operand.tmp 5), type := 3, pos := "ref.go:75", after := #[{ on := 17, ground := Ground.guard }], guard := some (17, true) }) (v := undef) rfl (by kernel_rfl) (by kernel_rfl) (by kernel_rfl) (fun _ _ _ h => h) (Or.inr ⟨by rfl, rfl⟩) hHeld ?_
                simp only [Act.put, List.setIfInBounds_toArray, List.set_cons_zero, List.set_cons_succ]
                refine wpAnyH_take (i := 21) (oi := { dst := some 66, op := Op.indexAddr 22 (Operand.tmp 64) (Operand.tmp 65), type := 0, pos := "ref.go:75", after := #[{ on := 19, ground := Ground.data }, { on := 20, ground := Ground.data }, { on := 17, ground := Ground.guard }], guard := some (17, true) }) (v := undef) rfl (by kernel_rfl) (by kernel_rfl) (by kernel_rfl) (fun _ _ _ h => h) (Or.inr ⟨by rfl, rfl⟩) hHeld ?_
                simp only [Act.put, List.setIfInBounds_toArray, List.set_cons_zero, List.set_cons_succ]
                refine wpAnyH_take (i := 22) (oi := { dst := some 67, op := Op.fieldAddr 29 (Operand.tmp 66) 1, type := 0, pos := "ref.go:75", after := #[{ on := 21, ground := Ground.data }, { on := 17, ground := Ground.guard }], guard := some (17, true) }) (v := undef) rfl (by kernel_rfl) (by kernel_rfl) (by kernel_rfl) (fun _ _ _ h => h) (Or.inr ⟨by rfl, rfl⟩) hHeld ?_
                simp only [Act.put, List.setIfInBounds_toArray, List.set_cons_zero, List.set_cons_succ]
                refine wpAnyH_take (i := 23) (oi := { dst := some 68, op := Op.load 4 (Operand.tmp 67), type := 4, pos := "ref.go:75", after := #[{ on := 22, ground := Ground.data }, { on := 17, ground := Ground.guard }], guard := some (17, true) }) (v := undef) rfl (by kernel_rfl) (by kernel_rfl) (by kernel_rfl) (fun _ _ _ h => h) (Or.inr ⟨by rfl, rfl⟩) hHeld ?_
                simp only [Act.put, List.setIfInBounds_toArray, List.set_cons_zero, List.set_cons_succ]
                refine wpAnyH_take (i := 24) (oi := { dst := some 69, op := Op.unOp UnOp.not 4 (Operand.tmp 68), type := 4, pos := "ref.go:75", after := #[{ on := 23, ground := Ground.data }, { on := 17, ground := Ground.guard }], guard := some (17, true) }) (v := undef) rfl (by kernel_rfl) (by kernel_rfl) (by kernel_rfl) (fun _ _ _ h => h) (Or.inr ⟨by rfl, rfl⟩) hHeld ?_
                simp only [Act.put, List.setIfInBounds_toArray, List.set_cons_zero, List.set_cons_succ]
                refine wpAnyH_take (i := 25) (oi := { dst := some 70, op := Op.pick (Operand.tmp 62) (Operand.tmp 69) (Operand.const (Value.bool false)), type := 4, pos := "ref.go:75", after := #[{ on := 17, ground := Ground.data }, { on := 24, ground := Ground.data }, { on := 14, ground := Ground.guard }], guard := some (14, false) }) (v := undef) rfl (by kernel_rfl) (by kernel_rfl) (by kernel_rfl) (fun _ _ _ h => h) (Or.inr ⟨by rfl, rfl⟩) hHeld ?_
                simp only [Act.put, List.setIfInBounds_toArray, List.set_cons_zero, List.set_cons_succ]
                refine wpAnyH_take (i := 26) (oi := { dst := some 71, op := Op.pick (Operand.tmp 59) (Operand.const (Value.bool true)) (Operand.tmp 70), type := 4, pos := "ref.go:75", after := #[{ on := 14, ground := Ground.data }, { on := 25, ground := Ground.data }], guard := none }) (v := ?_) rfl (by kernel_rfl) (by kernel_rfl) (by kernel_rfl) (fun _ _ _ h => h) (Or.inl ⟨by rfl, ?_⟩) hHeld ?_
                rotate_left
                · intro w hSw; (try dsimp only at hSw); go_simp; (try with_reducible rfl)
                simp only [Act.put, List.setIfInBounds_toArray, List.set_cons_zero, List.set_cons_succ]
                refine wpAnyH_done (by kernel_rfl) ?_ _
                clear hHeld
                go_wp2
                go_ret
                exact ⟨ret_bool (by rw [← HRES.out, MS.out, MT.out, HWS.out, MW.out, inA_no hjl HXE.out (by rw [← HF.out.2, HG.out]; rfl)]; rfl), BW.out _ Q0.out⟩
              | some q =>
                have hq : (⟨yn, ys, yv⟩ : M.Fld) = q := by rw [hg] at HYF; exact HYF.out
                subst hq
                have HIO : Hid (M.inO (some ⟨xn, xs, xv⟩) (M.getF (fldOf Q) xn) = (M.within xv yv && (!ys || xs))) := by unfold Hid; rw [← HF.out.2, hg]; rfl
                clear hg HYF
                simp only [Option.isSome_some]
                cases hw : M.within xv yv with
                | false =>
                  have HW := hid hw
                  clear hw
                  have K7 : Hid (∀ W, Below z3.heap.size z3 W → (W.cell? ⟨w.heap.size, 0, none⟩ = some (.slice (some ⟨bb, o, none⟩) R.length c) ∧ W.cell? ⟨w.heap.size, 1, none⟩ = some (.slice b sn d) ∧ W.cell? ⟨w.heap.size + 1, 0, none⟩ = some (.slice a' Q.length c') ∧ W.cell? ⟨w.heap.size + 1, 1, none⟩ = some (.slice b' tn d') ∧ W.cell? ⟨bb, o + j * 3, none⟩ = some (.string xn) ∧ W.cell? ⟨bb, o + j * 3 + 1, none⟩ = some (.bool xs) ∧ W.cell? ⟨bb, o + j * 3 + 2, none⟩ = some (.slice xa xv.length xc) ∧ W.cell? ⟨z1.heap.size, 0, none⟩ = some (.string yn) ∧ W.cell? ⟨z1.heap.size, 1, none⟩ = some (.bool ys) ∧ W.cell? ⟨z1.heap.size, 2, none⟩ = some (.slice ya yv.length yc))) := fun W hb => by
                    obtain ⟨s1, s2, s3, s4, s5, s6, s7⟩ := KH.out W (RB.out.trans (hb.mono RB.out.size))
                    obtain ⟨p1, p2, p3, _⟩ := cells3 (bx_bel0 PG.out hb)
                    exact ⟨s1, s2, s3, s4, s5, s6, s7, p1, p2, p3⟩
                  obtain ⟨s1, s2, s3, s4, s5, s6, s7, p1, p2, p3⟩ := K7.out _ (Below.refl _ _)
                  go_wp2_with fail
                  clear s1 s2 s3 s4 s5 s6 s7 p1 p2 p3
                  refine wp_region_held_drew (S := fun W => W.cell? ⟨w.heap.size, 0, none⟩ = some (.slice (some ⟨bb, o, none⟩) R.length c) ∧ W.cell? ⟨w.heap.size, 1, none⟩ = some (.slice b sn d) ∧ W.cell? ⟨w.heap.size + 1, 0, none⟩ = some (.slice a' Q.length c') ∧ W.cell? ⟨w.heap.size + 1, 1, none⟩ = some (.slice b' tn d') ∧ W.cell? ⟨bb, o + j * 3, none⟩ = some (.string xn) ∧ W.cell? ⟨bb, o + j * 3 + 1, none⟩ = some (.bool xs) ∧ W.cell? ⟨bb, o + j * 3 + 2, none⟩ = some (.slice xa xv.length xc) ∧ W.cell? ⟨z1.heap.size, 0, none⟩ = some (.string yn) ∧ W.cell? ⟨z1.heap.size, 1, none⟩ = some (.bool ys) ∧ W.cell? ⟨z1.heap.size, 2, none⟩ = some (.slice ya yv.length yc)) (by kernel_rfl) (K7.out _ (Below.refl _ _).drew) (fun hHeld => ?_)
                  have Q0 : Hid (Below z3.heap.size z3 z3.drew) := (Gr.refl _).drew.below
                  refine wpAnyH_take (i := 0) (oi := { dst := some 45, op := Op.move (Operand.tmp 7), type := 4, pos := "ref.go:75", after := #[], guard := none }) (v := ?_) rfl (by kernel_rfl) (by kernel_rfl) (by kernel_rfl) (fun _ _ _ h => h) (Or.inl ⟨by rfl, ?_⟩) hHeld ?_
                  rotate_left
                  · intro w hSw; (try dsimp only at hSw); go_simp; (try with_reducible rfl)
                  simp only [Act.put, List.setIfInBounds_toArray, List.set_cons_zero, List.set_cons_succ]
                  refine wpAnyH_take (i := 1) (oi := { dst := some 46, op := Op.unOp UnOp.not 4 (Operand.tmp 45), type := 4, pos := "ref.go:75", after := #[{ on := 0, ground := Ground.data }], guard := none }) (v := ?_) rfl (by kernel_rfl) (by kernel_rfl) (by kernel_rfl) (fun _ _ _ h => h) (Or.inl ⟨by rfl, ?_⟩) hHeld ?_
                  rotate_left
                  · intro w hSw; (try dsimp only at hSw); go_simp; (try with_reducible rfl)
                  simp only [Act.put, List.setIfInBounds_toArray, List.set_cons_zero, List.set_cons_succ]
                  refine wpAnyH_take (i := 2) (oi := { dst := some 47, op := Op.move (Operand.tmp 46), type := 4, pos := "ref.go:75", after := #[{ on := 1, ground := Ground.data }], guard := none }) (v := ?_) rfl (by kernel_rfl) (by kernel_rfl) (by kernel_rfl) (fun _ _ _ h => h) (Or.inl ⟨by rfl, ?_⟩) hHeld ?_
                  rotate_left
                  · intro w hSw; (try dsimp only at hSw); go_simp; (try with_reducible rfl)
                  simp only [Act.put, List.setIfInBounds_toArray, List.set_cons_zero, List.set_cons_succ]
                  refine wpAnyH_take (i := 3) (oi := { dst := some 48, op := Op.fieldAddr 25 (Operand.tmp 2) 0, type := 0, pos := "ref.go:75", after := #[{ on := 2, ground := Ground.guard }], guard := some (2, false) }) (v := ?_) rfl (by kernel_rfl) (by kernel_rfl) (by kernel_rfl) (fun _ _ _ h => h) (Or.inl ⟨by rfl, ?_⟩) hHeld ?_
                  rotate_left
                  · intro w hSw; (try dsimp only at hSw); go_simp; (try with_reducible rfl)
                  simp only [Act.put, List.setIfInBounds_toArray, List.set_cons_zero, List.set_cons_succ]
                  refine wpAnyH_take (i := 4) (oi := { dst := some 49, op := Op.load 22 (Operand.tmp 48), type := 22, pos := "ref.go:75", after := #[{ on := 3, ground := Ground.data }, { on := 2, ground := Ground.guard }], guard := some (2, false) }) (v := ?_) rfl (by kernel_rfl) (by kernel_rfl) (by kernel_rfl) (fun _ _ _ h => h) (Or.inl ⟨by rfl, ?_⟩) hHeld ?_
                  rotate_left
                  · intro w hSw; (try dsimp only at hSw); go_simp; (try with_reducible rfl)
                  simp only [Act.put, List.setIfInBounds_toArray, List.set_cons_zero, List.set_cons_succ]
                  refine wpAnyH_take (i := 5) (oi := { dst := some 50, op := Op.move (Operand.tmp 5), type := 3, pos := "ref.go:75", after := #[{ on := 2, ground := Ground.guard }], guard := some (2, false) }) (v := ?_) rfl (by kernel_rfl) (by kernel_rfl) (by kernel_rfl) (fun _ _ _ h => h) (Or.inl ⟨by rfl, ?_⟩) hHeld ?_
                  rotate_left
                  · intro w hSw; (try dsimp only at hSw); go_simp; (try with_reducible rfl)
                  simp only [Act.put, List.setIfInBounds_toArray, List.set_cons_zero, List.set_cons_succ]
                  refine wpAnyH_take (i := 6) (oi := { dst := some 51, op := Op.indexAddr 22 (Operand.tmp 49) (Operand.tmp 50), type := 0, pos := "ref.go:75", after := #[{ on := 4, ground := Ground.data }, { on := 5, ground := Ground.data }, { on := 2, ground := Ground.guard }], guard := some (2, false) }) (v := ?_) rfl (by kernel_rfl) (by kernel_rfl) (by kernel_rfl) (fun _ _ _ h => h) (Or.inl ⟨by rfl, ?_⟩) hHeld ?_
                  rotate_left
                  · intro w hSw; (try dsimp only at hSw); go_simp; (try with_reducible rfl)
                  simp only [Act.put, List.setIfInBounds_toArray, List.set_cons_zero, List.set_cons_succ]
                  refine wpAnyH_take (i := 7) (oi := { dst := some 52, op := Op.fieldAddr 29 (Operand.tmp 51) 2, type := 0, pos := "ref.go:75", after := #[{ on := 6, ground := Ground.data }, { on := 2, ground := Ground.guard }], guard := some (2, false) }) (v := ?_) rfl (by kernel_rfl) (by kernel_rfl) (by kernel_rfl) (fun _ _ _ h => h) (Or.inl ⟨by rfl, ?_⟩) hHeld ?_
                  rotate_left
                  · intro w hSw; (try dsimp only at hSw); go_simp; (try with_reducible rfl)
                  simp only [Act.put, List.setIfInBounds_toArray, List.set_cons_zero, List.set_cons_succ]
                  refine wpAnyH_take (i := 8) (oi := { dst := some 53, op := Op.load 23 (Operand.tmp 52), type := 23, pos := "ref.go:75", after := #[{ on := 7, ground := Ground.data }, { on := 2, ground := Ground.guard }], guard := some (2, false) }) (v := ?_) rfl (by kernel_rfl) (by kernel_rfl) (by kernel_rfl) (fun _ _ _ h => h) (Or.inl ⟨by rfl, ?_⟩) hHeld ?_
                  rotate_left
                  · intro w hSw; (try dsimp only at hSw); go_simp; (try with_reducible rfl)
                  simp only [Act.put, List.setIfInBounds_toArray, List.set_cons_zero, List.set_cons_succ]
                  refine wpAnyH_take (i := 9) (oi := { dst := some 54, op := Op.fieldAddr 29 (Operand.tmp 6) 2, type := 0, pos := "ref.go:75", after := #[{ on := 2, ground := Ground.guard }], guard := some (2, false) }) (v := ?_) rfl (by kernel_rfl) (by kernel_rfl) (by kernel_rfl) (fun _ _ _ h => h) (Or.inl ⟨by rfl, ?_⟩) hHeld ?_
                  rotate_left
                  · intro w hSw; (try dsimp only at hSw); go_simp; (try with_reducible rfl)
                  simp only [Act.put, List.setIfInBounds_toArray, List.set_cons_zero, List.set_cons_succ]
                  refine wpAnyH_take (i := 10) (oi := { dst := some 55, op := Op.load 23 (Operand.tmp 54), type := 23, pos := "ref.go:75", after := #[{ on := 9, ground := Ground.data }, { on := 2, ground := Ground.guard }], guard := some (2, false) }) (v := ?_) rfl (by kernel_rfl) (by kernel_rfl) (by kernel_rfl) (fun _ _ _ h => h) (Or.inl ⟨by rfl, ?_⟩) hHeld ?_
                  rotate_left
                  · intro w hSw; (try dsimp only at hSw); go_simp; (try with_reducible rfl)
                  simp only [Act.put, List.setIfInBounds_toArray, List.set_cons_zero, List.set_cons_succ]
                  refine wpAnyH_ready (rs := [11]) (by kernel_rfl) (by simp) ?_
                  refine AllReadyH.cons (o := { dst := some 56, op := Op.call { callee := Callee.value (Operand.func 40), args := #[Operand.tmp 53, Operand.tmp 55], argTypes := #[23, 23] }, type := 4, pos := "ref.go:75", after := #[{ on := 8, ground := Ground.data }, { on := 10, ground := Ground.data }, { on := 2, ground := Ground.chain }, { on := 2, ground := Ground.guard }], guard := some (2, false) }) rfl (fun K hK => ?_) AllReadyH.nil
                  go_simp
                  refine (KW.out _ Q0.out).mono ?_
                  rw [HW.out]
                  rintro e zz ⟨rfl, hb⟩
                  have Q1 : Hid (Below z3.heap.size z3 zz) := Q0.out.trans (hb.mono Q0.out.size)
                  clear hb Q0
                  refine hK.out _ _ (K7.out _ Q1.out) (fun hHeld => ?_)
                  clear hK
                  refine wpAnyH_take (i := 12) (oi := { dst := some 57, op := Op.unOp UnOp.not 4 (Operand.tmp 56), type := 4, pos := "ref.go:75", after := #[{ on := 11, ground := Ground.data }, { on := 2, ground := Ground.guard }], guard := some (2, false) }) (v := ?_) rfl (by kernel_rfl) (by kernel_rfl) (by kernel_rfl) (fun _ _ _ h => h) (Or.inl ⟨by rfl, ?_⟩) hHeld ?_
                  rotate_left
                  · intro w hSw; (try dsimp only at hSw); go_simp; (try with_reducible rfl)
                  simp only [Act.put, List.setIfInBounds_toArray, List.set_cons_zero, List.set_cons_succ]
                  refine wpAnyH_take (i := 13) (oi := { dst := some 58, op := Op.pick (Operand.tmp 47) (Operand.const (Value.bool true)) (Operand.tmp 57), type := 4, pos := "ref.go:75", after := #[{ on := 2, ground := Ground.data }, { on := 12, ground := Ground.data }], guard := none }) (v := ?_) rfl (by kernel_rfl) (by kernel_rfl) (by kernel_rfl) (fun _ _ _ h => h) (Or.inl ⟨by rfl, ?_⟩) hHeld ?_
                  rotate_left
                  · intro w hSw; (try dsimp only at hSw); go_simp; (try with_reducible rfl)
                  simp only [Act.put, List.setIfInBounds_toArray, List.set_cons_zero, List.set_cons_succ]
                  refine wpAnyH_take (i := 14) (oi := { dst := some 59, op := Op.move (Operand.tmp 58), type := 4, pos := "ref.go:75", after := #[{ on := 13, ground := Ground.data }, { on := 11, ground := Ground.chain }], guard := none }) (v := ?_) rfl (by kernel_rfl) (by kernel_rfl) (by kernel_rfl) (fun _ _ _ h => h) (Or.inl ⟨by rfl, ?_⟩) hHeld ?_
                  rotate_left
                  · intro w hSw; (try dsimp only at hSw); go_simp; (try with_reducible rfl)
                  simp only [Act.put, List.setIfInBounds_toArray, List.set_cons_zero, List.set_cons_succ]
                  refine wpAnyH_take (i := 15) (oi := { dst := some 60, op := Op.fieldAddr 29 (Operand.tmp 6) 1, type := 0, pos := "ref.go:75", after := #[{ on := 14, ground := Ground.guard }], guard := some (14, false) }) (v := undef) rfl (by kernel_rfl) (by kernel_rfl) (by kernel_rfl) (fun _ _ _ h => h) (Or.inr ⟨by rfl, rfl⟩) hHeld ?_
                  simp only [Act.put, List.setIfInBounds_toArray, List.set_cons_zero, List.set_cons_succ]
                  refine wpAnyH_take (i := 16) (oi := { dst := some 61, op := Op.load 4 (Operand.tmp 60), type := 4, pos := "ref.go:75", after := #[{ on := 15, ground := Ground.data }, { on := 14, ground := Ground.guard }], guard := some (14, false) }) (v := undef) rfl (by kernel_rfl) (by kernel_rfl) (by kernel_rfl) (fun _ _ _ h => h) (Or.inr ⟨by rfl, rfl⟩) hHeld ?_
                  simp only [Act.put, List.setIfInBounds_toArray, List.set_cons_zero, List.set_cons_succ]
                  refine wpAnyH_take (i := 17) (oi := { dst := some 62, op := Op.move (Operand.tmp 61), type := 4, pos := "ref.go:75", after := #[{ on := 16, ground := Ground.data }, { on := 14, ground := Ground.chain }, { on := 14, ground := Ground.guard }], guard := some (14, false) }) (v := undef) rfl (by kernel_rfl) (by kernel_rfl) (by kernel_rfl) (fun _ _ _ h => h) (Or.inr ⟨by rfl, rfl⟩) hHeld ?_
                  simp only [Act.put, List.setIfInBounds_toArray, List.set_cons_zero, List.set_cons_succ]
                  refine wpAnyH_take (i := 18) (oi := { dst := some 63, op := Op.fieldAddr 25 (Operand.tmp 2) 0, type := 0, pos := "ref.go:75", after := #[{ on := 17, ground := Ground.guard }], guard := some (17, true) }) (v := undef) rfl (by kernel_rfl) (by kernel_rfl) (by kernel_rfl) (fun _ _ _ h => h) (Or.inr ⟨by rfl, rfl⟩) hHeld ?_
                  simp only [Act.put, List.setIfInBounds_toArray, List.set_cons_zero, List.set_cons_succ]
                  refine wpAnyH_take (i := 19) (oi := { dst := some 64, op := Op.load 22 (Operand.tmp 63), type := 22, pos := "ref.go:75", after := #[{ on := 18, ground := Ground.data }, { on := 17, ground := Ground.guard }], guard := some (17, true) }) (v := undef) rfl (by kernel_rfl) (by kernel_rfl) (by kernel_rfl) (fun _ _ _ h => h) (Or.inr ⟨by rfl, rfl⟩) hHeld ?_
                  simp only [Act.put, List.setIfInBounds_toArray, List.set_cons_zero, List.set_cons_succ]
                  refine wpAnyH_take (i := 20) (oi := { dst := some 65, op := Op.move (Operand.tmp 5), type := 3, pos := "ref.go:75", after := #[{ on := 17, ground := Ground.guard }], guard := some (17, true) }) (v := undef) rfl (by kernel_rfl) (by kernel_rfl) (by kernel_rfl) (fun _ _ _ h => h) (Or.inr ⟨by rfl, rfl⟩) hHeld ?_
                  simp only [Act.put, List.setIfInBounds_toArray, List.set_cons_zero, List.set_cons_succ]
                  refine wpAnyH_take (i := 21) (oi := { dst := some 66, op := Op.indexAddr 22 (Operand.tmp 64) (Operand.tmp 65), type := 0, pos := "ref.go:75", after := #[{ on := 19, ground := Ground.data }, { on := 20, ground := Ground.data }, { on := 17, ground := Ground.guard }], guard := some (17, true) }) (v := undef) rfl (by kernel_rfl) (by kernel_rfl) (by kernel_rfl) (fun _ _ _ h => h) (Or.inr ⟨by rfl, rfl⟩) hHeld ?_
                  simp only [Act.put, List.setIfInBounds_toArray, List.set_cons_zero, List.set_cons_succ]
                  refine wpAnyH_take (i := 22) (oi := { dst := some 67, op := Op.fieldAddr 29 (Operand.tmp 66) 1, type := 0, pos := "ref.go:75", after := #[{ on := 21, ground := Ground.data }, { on := 17, ground := Ground.guard }], guard := some (17, true) }) (v := undef) rfl (by kernel_rfl) (by kernel_rfl) (by kernel_rfl) (fun _ _ _ h => h) (Or.inr ⟨by rfl, rfl⟩) hHeld ?_
                  simp only [Act.put, List.setIfInBounds_toArray, List.set_cons_zero, List.set_cons_succ]
                  refine wpAnyH_take (i := 23) (oi := { dst := some 68, op := Op.load 4 (Operand.tmp 67), type := 4, pos := "ref.go:75", after := #[{ on := 22, ground := Ground.data }, { on := 17, ground := Ground.guard }], guard := some (17, true) }) (v := undef) rfl (by kernel_rfl) (by kernel_rfl) (by kernel_rfl) (fun _ _ _ h => h) (Or.inr ⟨by rfl, rfl⟩) hHeld ?_
                  simp only [Act.put, List.setIfInBounds_toArray, List.set_cons_zero, List.set_cons_succ]
                  refine wpAnyH_take (i := 24) (oi := { dst := some 69, op := Op.unOp UnOp.not 4 (Operand.tmp 68), type := 4, pos := "ref.go:75", after := #[{ on := 23, ground := Ground.data }, { on := 17, ground := Ground.guard }], guard := some (17, true) }) (v := undef) rfl (by kernel_rfl) (by kernel_rfl) (by kernel_rfl) (fun _ _ _ h => h) (Or.inr ⟨by rfl, rfl⟩) hHeld ?_
                  simp only [Act.put, List.setIfInBounds_toArray, List.set_cons_zero, List.set_cons_succ]
                  refine wpAnyH_take (i := 25) (oi := { dst := some 70, op := Op.pick (Operand.tmp 62) (Operand.tmp 69) (Operand.const (Value.bool false)), type := 4, pos := "ref.go:75", after := #[{ on := 17, ground := Ground.data }, { on := 24, ground := Ground.data }, { on := 14, ground := Ground.guard }], guard := some (14, false) }) (v := undef) rfl (by kernel_rfl) (by kernel_rfl) (by kernel_rfl) (fun _ _ _ h => h) (Or.inr ⟨by rfl, rfl⟩) hHeld ?_
                  simp only [Act.put, List.setIfInBounds_toArray, List.set_cons_zero, List.set_cons_succ]
                  refine wpAnyH_take (i := 26) (oi := { dst := some 71, op := Op.pick (Operand.tmp 59) (Operand.const (Value.bool true)) (Operand.tmp 70), type := 4, pos := "ref.go:75", after := #[{ on := 14, ground := Ground.data }, { on := 25, ground := Ground.data }], guard := none }) (v := ?_) rfl (by kernel_rfl) (by kernel_rfl) (by kernel_rfl) (fun _ _ _ h => h) (Or.inl ⟨by rfl, ?_⟩) hHeld ?_
                  rotate_left
                  · intro w hSw; (try dsimp only at hSw); go_simp; (try with_reducible rfl)
                  simp only [Act.put, List.setIfInBounds_toArray, List.set_cons_zero, List.set_cons_succ]
                  refine wpAnyH_done (by kernel_rfl) ?_ _
                  clear hHeld
                  go_wp2
                  go_ret
                  exact ⟨ret_bool (by rw [← HRES.out, MS.out, MT.out, HWS.out, MW.out, inA_no hjl HXE.out (by rw [HIO.out, HW.out]; rfl)]; rfl), BW.out _ Q1.out⟩
                | true =>
                  have HW := hid hw
                  clear hw
                  rcases ys with _ | _
                  · have K7 : Hid (∀ W, Below z3.heap.size z3 W → (W.cell? ⟨w.heap.size, 0, none⟩ = some (.slice (some ⟨bb, o, none⟩) R.length c) ∧ W.cell? ⟨w.heap.size, 1, none⟩ = some (.slice b sn d) ∧ W.cell? ⟨w.heap.size + 1, 0, none⟩ = some (.slice a' Q.length c') ∧ W.cell? ⟨w.heap.size + 1, 1, none⟩ = some (.slice b' tn d') ∧ W.cell? ⟨bb, o + j * 3, none⟩ = some (.string xn) ∧ W.cell? ⟨bb, o + j * 3 + 1, none⟩ = some (.bool xs) ∧ W.cell? ⟨bb, o + j * 3 + 2, none⟩ = some (.slice xa xv.length xc) ∧ W.cell? ⟨z1.heap.size, 0, none⟩ = some (.string yn) ∧ W.cell? ⟨z1.heap.size, 1, none⟩ = some (.bool false) ∧ W.cell? ⟨z1.heap.size, 2, none⟩ = some (.slice ya yv.length yc))) := fun W hb => by
                      obtain ⟨s1, s2, s3, s4, s5, s6, s7⟩ := KH.out W (RB.out.trans (hb.mono RB.out.size))
                      obtain ⟨p1, p2, p3, _⟩ := cells3 (bx_bel0 PG.out hb)
                      exact ⟨s1, s2, s3, s4, s5, s6, s7, p1, p2, p3⟩
                    obtain ⟨s1, s2, s3, s4, s5, s6, s7, p1, p2, p3⟩ := K7.out _ (Below.refl _ _)
                    go_wp2_with fail
                    clear s1 s2 s3 s4 s5 s6 s7 p1 p2 p3
                    refine wp_region_held_drew (S := fun W => W.cell? ⟨w.heap.size, 0, none⟩ = some (.slice (some ⟨bb, o, none⟩) R.length c) ∧ W.cell? ⟨w.heap.size, 1, none⟩ = some (.slice b sn d) ∧ W.cell? ⟨w.heap.size + 1, 0, none⟩ = some (.slice a' Q.length c') ∧ W.cell? ⟨w.heap.size + 1, 1, none⟩ = some (.slice b' tn d') ∧ W.cell? ⟨bb, o + j * 3, none⟩ = some (.string xn) ∧ W.cell? ⟨bb, o + j * 3 + 1, none⟩ = some (.bool xs) ∧ W.cell? ⟨bb, o + j * 3 + 2, none⟩ = some (.slice xa xv.length xc) ∧ W.cell? ⟨z1.heap.size, 0, none⟩ = some (.string yn) ∧ W.cell? ⟨z1.heap.size, 1, none⟩ = some (.bool false) ∧ W.cell? ⟨z1.heap.size, 2, none⟩ = some (.slice ya yv.length yc)) (by kernel_rfl) (K7.out _ (Below.refl _ _).drew) (fun hHeld => ?_)
                    have Q0 : Hid (Below z3.heap.size z3 z3.drew) := (Gr.refl _).drew.below
                    refine wpAnyH_take (i := 0) (oi := { dst := some 45, op := Op.move (Operand.tmp 7), type := 4, pos := "ref.go:75", after := #[], guard := none }) (v := ?_) rfl (by kernel_rfl) (by kernel_rfl) (by kernel_rfl) (fun _ _ _ h => h) (Or.inl ⟨by rfl, ?_⟩) hHeld ?_
                    rotate_left
                    · intro w hSw; (try dsimp only at hSw); go_simp; (try with_reducible rfl)
                    simp only [Act.put, List.setIfInBounds_toArray, List.set_cons_zero, List.set_cons_succ]
                    refine wpAnyH_take (i := 1) (oi := { dst := some 46, op := Op.unOp UnOp.not 4 (Operand.tmp 45), type := 4, pos := "ref.go:75", after := #[{ on := 0, ground := Ground.data }], guard := none }) (v := ?_) rfl (by kernel_rfl) (by kernel_rfl) (by kernel_rfl) (fun _ _ _ h => h) (Or.inl ⟨by rfl, ?_⟩) hHeld ?_
                    rotate_left
                    · intro w hSw; (try dsimp only at hSw); go_simp; (try with_reducible rfl)
                    simp only [Act.put, List.setIfInBounds_toArray, List.set_cons_zero, List.set_cons_succ]
                    refine wpAnyH_take (i := 2) (oi := { dst := some 47, op := Op.move (Operand.tmp 46), type := 4, pos := "ref.go:75", after := #[{ on := 1, ground := Ground.data }], guard := none }) (v := ?_) rfl (by kernel_rfl) (by kernel_rfl) (by kernel_rfl) (fun _ _ _ h => h) (Or.inl ⟨by rfl, ?_⟩) hHeld ?_
                    rotate_left
                    · intro w hSw; (try dsimp only at hSw); go_simp; (try with_reducible rfl)
                    simp only [Act.put, List.setIfInBounds_toArray, List.set_cons_zero, List.set_cons_succ]
                    refine wpAnyH_take (i := 3) (oi := { dst := some 48, op := Op.fieldAddr 25 (Operand.tmp 2) 0, type := 0, pos := "ref.go:75", after := #[{ on := 2, ground := Ground.guard }], guard := some (2, false) }) (v := ?_) rfl (by kernel_rfl) (by kernel_rfl) (by kernel_rfl) (fun _ _ _ h => h) (Or.inl ⟨by rfl, ?_⟩) hHeld ?_
                    rotate_left
                    · intro w hSw; (try dsimp only at hSw); go_simp; (try with_reducible rfl)
                    simp only [Act.put, List.setIfInBounds_toArray, List.set_cons_zero, List.set_cons_succ]
                    refine wpAnyH_take (i := 4) (oi := { dst := some 49, op := Op.load 22 (Operand.tmp 48), type := 22, pos := "ref.go:75", after := #[{ on := 3, ground := Ground.data }, { on := 2, ground := Ground.guard }], guard := some (2, false) }) (v := ?_) rfl (by kernel_rfl) (by kernel_rfl) (by kernel_rfl) (fun _ _ _ h => h) (Or.inl ⟨by rfl, ?_⟩) hHeld ?_
                    rotate_left
                    · intro w hSw; (try dsimp only at hSw); go_simp; (try with_reducible rfl)
                    simp only [Act.put, List.setIfInBounds_toArray, List.set_cons_zero, List.set_cons_succ]
                    refine wpAnyH_take (i := 5) (oi := { dst := some 50, op := Op.move (Operand.tmp 5), type := 3, pos := "ref.go:75", after := #[{ on := 2, ground := Ground.guard }], guard := some (2, false) }) (v := ?_) rfl (by kernel_rfl) (by kernel_rfl) (by kernel_rfl) (fun _ _ _ h => h) (Or.inl ⟨by rfl, ?_⟩) hHeld ?_
                    rotate_left
                    · intro w hSw; (try dsimp only at hSw); go_simp; (try with_reducible rfl)
                    simp only [Act.put, List.setIfInBounds_toArray, List.set_cons_zero, List.set_cons_succ]
                    refine wpAnyH_take (i := 6) (oi := { dst := some 51, op := Op.indexAddr 22 (Operand.tmp 49) (Operand.tmp 50), type := 0, pos := "ref.go:75", after := #[{ on := 4, ground := Ground.data }, { on := 5, ground := Ground.data }, { on := 2, ground := Ground.guard }], guard := some (2, false) }) (v := ?_) rfl (by kernel_rfl) (by kernel_rfl) (by kernel_rfl) (fun _ _ _ h => h) (Or.inl ⟨by rfl, ?_⟩) hHeld ?_
                    rotate_left
                    · intro w hSw; (try dsimp only at hSw); go_simp; (try with_reducible rfl)
                    simp only [Act.put, List.setIfInBounds_toArray, List.set_cons_zero, List.set_cons_succ]
                    refine wpAnyH_take (i := 7) (oi := { dst := some 52, op := Op.fieldAddr 29 (Operand.tmp 51) 2, type := 0, pos := "ref.go:75", after := #[{ on := 6, ground := Ground.data }, { on := 2, ground := Ground.guard }], guard := some (2, false) }) (v := ?_) rfl (by kernel_rfl) (by kernel_rfl) (by kernel_rfl) (fun _ _ _ h => h) (Or.inl ⟨by rfl, ?_⟩) hHeld ?_
                    rotate_left
                    · intro w hSw; (try dsimp only at hSw); go_simp; (try with_reducible rfl)
                    simp only [Act.put, List.setIfInBounds_toArray, List.set_cons_zero, List.set_cons_succ]
                    refine wpAnyH_take (i := 8) (oi := { dst := some 53, op := Op.load 23 (Operand.tmp 52), type := 23, pos := "ref.go:75", after := #[{ on := 7, ground := Ground.data }, { on := 2, ground := Ground.guard }], guard := some (2, false) }) (v := ?_) rfl (by kernel_rfl) (by kernel_rfl) (by kernel_rfl) (fun _ _ _ h => h) (Or.inl ⟨by rfl, ?_⟩) hHeld ?_
                    rotate_left
                    · intro w hSw; (try dsimp only at hSw); go_simp; (try with_reducible rfl)
                    simp only [Act.put, List.setIfInBounds_toArray, List.set_cons_zero, List.set_cons_succ]
                    refine wpAnyH_take (i := 9) (oi := { dst := some 54, op := Op.fieldAddr 29 (Operand.tmp 6) 2, type := 0, pos := "ref.go:75", after := #[{ on := 2, ground := Ground.guard }], guard := some (2, false) }) (v := ?_) rfl (by kernel_rfl) (by kernel_rfl) (by kernel_rfl) (fun _ _ _ h => h) (Or.inl ⟨by rfl, ?_⟩) hHeld ?_
                    rotate_left
                    · intro w hSw; (try dsimp only at hSw); go_simp; (try with_reducible rfl)
                    simp only [Act.put, List.setIfInBounds_toArray, List.set_cons_zero, List.set_cons_succ]
                    refine wpAnyH_take (i := 10) (oi := { dst := some 55, op := Op.load 23 (Operand.tmp 54), type := 23, pos := "ref.go:75", after := #[{ on := 9, ground := Ground.data }, { on := 2, ground := Ground.guard }], guard := some (2, false) }) (v := ?_) rfl (by kernel_rfl) (by kernel_rfl) (by kernel_rfl) (fun _ _ _ h => h) (Or.inl ⟨by rfl, ?_⟩) hHeld ?_
                    rotate_left
                    · intro w hSw; (try dsimp only at hSw); go_simp; (try with_reducible rfl)
                    simp only [Act.put, List.setIfInBounds_toArray, List.set_cons_zero, List.set_cons_succ]
                    refine wpAnyH_ready (rs := [11]) (by kernel_rfl) (by simp) ?_
                    refine AllReadyH.cons (o := { dst := some 56, op := Op.call { callee := Callee.value (Operand.func 40), args := #[Operand.tmp 53, Operand.tmp 55], argTypes := #[23, 23] }, type := 4, pos := "ref.go:75", after := #[{ on := 8, ground := Ground.data }, { on := 10, ground := Ground.data }, { on := 2, ground := Ground.chain }, { on := 2, ground := Ground.guard }], guard := some (2, false) }) rfl (fun K hK => ?_) AllReadyH.nil
                    go_simp
                    refine (KW.out _ Q0.out).mono ?_
                    rw [HW.out]
                    rintro e zz ⟨rfl, hb⟩
                    have Q1 : Hid (Below z3.heap.size z3 zz) := Q0.out.trans (hb.mono Q0.out.size)
                    clear hb Q0
                    refine hK.out _ _ (K7.out _ Q1.out) (fun hHeld => ?_)
                    clear hK
                    refine wpAnyH_take (i := 12) (oi := { dst := some 57, op := Op.unOp UnOp.not 4 (Operand.tmp 56), type := 4, pos := "ref.go:75", after := #[{ on := 11, ground := Ground.data }, { on := 2, ground := Ground.guard }], guard := some (2, false) }) (v := ?_) rfl (by kernel_rfl) (by kernel_rfl) (by kernel_rfl) (fun _ _ _ h => h) (Or.inl ⟨by rfl, ?_⟩) hHeld ?_
                    rotate_left
                    · intro w hSw; (try dsimp only at hSw); go_simp; (try with_reducible rfl)
                    simp only [Act.put, List.setIfInBounds_toArray, List.set_cons_zero, List.set_cons_succ]
                    refine wpAnyH_take (i := 13) (oi := { dst := some 58, op := Op.pick (Operand.tmp 47) (Operand.const (Value.bool true)) (Operand.tmp 57), type := 4, pos := "ref.go:75", after := #[{ on := 2, ground := Ground.data }, { on := 12, ground := Ground.data }], guard := none }) (v := ?_) rfl (by kernel_rfl) (by kernel_rfl) (by kernel_rfl) (fun _ _ _ h => h) (Or.inl ⟨by rfl, ?_⟩) hHeld ?_
                    rotate_left
                    · intro w hSw; (try dsimp only at hSw); go_simp; (try with_reducible rfl)
                    simp only [Act.put, List.setIfInBounds_toArray, List.set_cons_zero, List.set_cons_succ]
                    refine wpAnyH_take (i := 14) (oi := { dst := some 59, op := Op.move (Operand.tmp 58), type := 4, pos := "ref.go:75", after := #[{ on := 13, ground := Ground.data }, { on := 11, ground := Ground.chain }], guard := none }) (v := ?_) rfl (by kernel_rfl) (by kernel_rfl) (by kernel_rfl) (fun _ _ _ h => h) (Or.inl ⟨by rfl, ?_⟩) hHeld ?_
                    rotate_left
                    · intro w hSw; (try dsimp only at hSw); go_simp; (try with_reducible rfl)
                    simp only [Act.put, List.setIfInBounds_toArray, List.set_cons_zero, List.set_cons_succ]
                    refine wpAnyH_take (i := 15) (oi := { dst := some 60, op := Op.fieldAddr 29 (Operand.tmp 6) 1, type := 0, pos := "ref.go:75", after := #[{ on := 14, ground := Ground.guard }], guard := some (14, false) }) (v := ?_) rfl (by kernel_rfl) (by kernel_rfl) (by kernel_rfl) (fun _ _ _ h => h) (Or.inl ⟨by rfl, ?_⟩) hHeld ?_
                    rotate_left
                    · intro w hSw; (try dsimp only at hSw); go_simp; (try with_reducible rfl)
                    simp only [Act.put, List.setIfInBounds_toArray, List.set_cons_zero, List.set_cons_succ]
                    refine wpAnyH_take (i := 16) (oi := { dst := some 61, op := Op.load 4 (Operand.tmp 60), type := 4, pos := "ref.go:75", after := #[{ on := 15, ground := Ground.data }, { on := 14, ground := Ground.guard }], guard := some (14, false) }) (v := ?_) rfl (by kernel_rfl) (by kernel_rfl) (by kernel_rfl) (fun _ _ _ h => h) (Or.inl ⟨by rfl, ?_⟩) hHeld ?_
                    rotate_left
                    · intro w hSw; (try dsimp only at hSw); go_simp; (try with_reducible rfl)
                    simp only [Act.put, List.setIfInBounds_toArray, List.set_cons_zero, List.set_cons_succ]
                    refine wpAnyH_take (i := 17) (oi := { dst := some 62, op := Op.move (Operand.tmp 61), type := 4, pos := "ref.go:75", after := #[{ on := 16, ground := Ground.data }, { on := 14, ground := Ground.chain }, { on := 14, ground := Ground.guard }], guard := some (14, false) }) (v := ?_) rfl (by kernel_rfl) (by kernel_rfl) (by kernel_rfl) (fun _ _ _ h => h) (Or.inl ⟨by rfl, ?_⟩) hHeld ?_
                    rotate_left
                    · intro w hSw; (try dsimp only at hSw); go_simp; (try with_reducible rfl)
                    simp only [Act.put, List.setIfInBounds_toArray, List.set_cons_zero, List.set_cons_succ]
                    refine wpAnyH_take (i := 18) (oi := { dst := some 63, op := Op.fieldAddr 25 (Operand.tmp 2) 0, type := 0, pos := "ref.go:75", after := #[{ on := 17, ground := Ground.guard }], guard := some (17, true) }) (v := undef) rfl (by kernel_rfl) (by kernel_rfl) (by kernel_rfl) (fun _ _ _ h => h) (Or.inr ⟨by rfl, rfl⟩) hHeld ?_
                    simp only [Act.put, List.setIfInBounds_toArray, List.set_cons_zero, List.set_cons_succ]
                    refine wpAnyH_take (i := 19) (oi := { dst := some 64, op := Op.load 22 (Operand.tmp 63), type := 22, pos := "ref.go:75", after := #[{ on := 18, ground := Ground.data }, { on := 17, ground := Ground.guard }], guard := some (17, true) }) (v := undef) rfl (by kernel_rfl) (by kernel_rfl) (by kernel_rfl) (fun _ _ _ h => h) (Or.inr ⟨by rfl, rfl⟩) hHeld ?_
                    simp only [Act.put, List.setIfInBounds_toArray, List.set_cons_zero, List.set_cons_succ]
                    refine wpAnyH_take (i := 20) (oi := { dst := some 65, op := Op.move (Operand.tmp 5), type := 3, pos := "ref.go:75", after := #[{ on := 17, ground := Ground.guard }], guard := some (17, true) }) (v := undef) rfl (by kernel_rfl) (by kernel_rfl) (by kernel_rfl) (fun _ _ _ h => h) (Or.inr ⟨by rfl, rfl⟩) hHeld ?_
                    simp only [Act.put, List.setIfInBounds_toArray, List.set_cons_zero, List.set_cons_succ]
                    refine wpAnyH_take (i := 21) (oi := { dst := some 66, op := Op.indexAddr 22 (Operand.tmp 64) (Operand.tmp 65), type := 0, pos := "ref.go:75", after := #[{ on := 19, ground := Ground.data }, { on := 20, ground := Ground.data }, { on := 17, ground := Ground.guard }], guard := some (17, true) }) (v := undef) rfl (by kernel_rfl) (by kernel_rfl) (by kernel_rfl) (fun _ _ _ h => h) (Or.inr ⟨by rfl, rfl⟩) hHeld ?_
                    simp only [Act.put, List.setIfInBounds_toArray, List.set_cons_zero, List.set_cons_succ]
                    refine wpAnyH_take (i := 22) (oi := { dst := some 67, op := Op.fieldAddr 29 (Operand.tmp 66) 1, type := 0, pos := "ref.go:75", after := #[{ on := 21, ground := Ground.data }, { on := 17, ground := Ground.guard }], guard := some (17, true) }) (v := undef) rfl (by kernel_rfl) (by kernel_rfl) (by kernel_rfl) (fun _ _ _ h => h) (Or.inr ⟨by rfl, rfl⟩) hHeld ?_
                    simp only [Act.put, List.setIfInBounds_toArray, List.set_cons_zero, List.set_cons_succ]
                    refine wpAnyH_take (i := 23) (oi := { dst := some 68, op := Op.load 4 (Operand.tmp 67), type := 4, pos := "ref.go:75", after := #[{ on := 22, ground := Ground.data }, { on := 17, ground := Ground.guard }], guard := some (17, true) }) (v := undef) rfl (by kernel_rfl) (by kernel_rfl) (by kernel_rfl) (fun _ _ _ h => h) (Or.inr ⟨by rfl, rfl⟩) hHeld ?_
                    simp only [Act.put, List.setIfInBounds_toArray, List.set_cons_zero, List.set_cons_succ]
                    refine wpAnyH_take (i := 24) (oi := { dst := some 69, op := Op.unOp UnOp.not 4 (Operand.tmp 68), type := 4, pos := "ref.go:75", after := #[{ on := 23, ground := Ground.data }, { on := 17, ground := Ground.guard }], guard := some (17, true) }) (v := undef) rfl (by kernel_rfl) (by kernel_rfl) (by kernel_rfl) (fun _ _ _ h => h) (Or.inr ⟨by rfl, rfl⟩) hHeld ?_
                    simp only [Act.put, List.setIfInBounds_toArray, List.set_cons_zero, List.set_cons_succ]
                    refine wpAnyH_take (i := 25) (oi := { dst := some 70, op := Op.pick (Operand.tmp 62) (Operand.tmp 69) (Operand.const (Value.bool false)), type := 4, pos := "ref.go:75", after := #[{ on := 17, ground := Ground.data }, { on := 24, ground := Ground.data }, { on := 14, ground := Ground.guard }], guard := some (14, false) }) (v := ?_) rfl (by kernel_rfl) (by kernel_rfl) (by kernel_rfl) (fun _ _ _ h => h) (Or.inl ⟨by rfl, ?_⟩) hHeld ?_
                    rotate_left
                    · intro w hSw; (try dsimp only at hSw); go_simp; (try with_reducible rfl)
                    simp only [Act.put, List.setIfInBounds_toArray, List.set_cons_zero, List.set_cons_succ]
                    refine wpAnyH_take (i := 26) (oi := { dst := some 71, op := Op.pick (Operand.tmp 59) (Operand.const (Value.bool true)) (Operand.tmp 70), type := 4, pos := "ref.go:75", after := #[{ on := 14, ground := Ground.data }, { on := 25, ground := Ground.data }], guard := none }) (v := ?_) rfl (by kernel_rfl) (by kernel_rfl) (by kernel_rfl) (fun _ _ _ h => h) (Or.inl ⟨by rfl, ?_⟩) hHeld ?_
                    rotate_left
                    · intro w hSw; (try dsimp only at hSw); go_simp; (try with_reducible rfl)
                    simp only [Act.put, List.setIfInBounds_toArray, List.set_cons_zero, List.set_cons_succ]
                    refine wpAnyH_done (by kernel_rfl) ?_ _
                    clear hHeld
                    go_wp2
                    exact ⟨⟨j + 1, by omega, by go_num, inA_step hm.out hjl HXE.out (by rw [HIO.out, HW.out]; rfl), BL.out _ Q1.out⟩, by simp [intOf]; omega⟩
                  · rcases xs with _ | _
                    · have K7 : Hid (∀ W, Below z3.heap.size z3 W → (W.cell? ⟨w.heap.size, 0, none⟩ = some (.slice (some ⟨bb, o, none⟩) R.length c) ∧ W.cell? ⟨w.heap.size, 1, none⟩ = some (.slice b sn d) ∧ W.cell? ⟨w.heap.size + 1, 0, none⟩ = some (.slice a' Q.length c') ∧ W.cell? ⟨w.heap.size + 1, 1, none⟩ = some (.slice b' tn d') ∧ W.cell? ⟨bb, o + j * 3, none⟩ = some (.string xn) ∧ W.cell? ⟨bb, o + j * 3 + 1, none⟩ = some (.bool false) ∧ W.cell? ⟨bb, o + j * 3 + 2, none⟩ = some (.slice xa xv.length xc) ∧ W.cell? ⟨z1.heap.size, 0, none⟩ = some (.string yn) ∧ W.cell? ⟨z1.heap.size, 1, none⟩ = some (.bool true) ∧ W.cell? ⟨z1.heap.size, 2, none⟩ = some (.slice ya yv.length yc))) := fun W hb => by
                        obtain ⟨s1, s2, s3, s4, s5, s6, s7⟩ := KH.out W (RB.out.trans (hb.mono RB.out.size))
                        obtain ⟨p1, p2, p3, _⟩ := cells3 (bx_bel0 PG.out hb)
                        exact ⟨s1, s2, s3, s4, s5, s6, s7, p1, p2, p3⟩
                      obtain ⟨s1, s2, s3, s4, s5, s6, s7, p1, p2, p3⟩ := K7.out _ (Below.refl _ _)
                      go_wp2_with fail
                      clear s1 s2 s3 s4 s5 s6 s7 p1 p2 p3
                      refine wp_region_held_drew (S := fun W => W.cell? ⟨w.heap.size, 0, none⟩ = some (.slice (some ⟨bb, o, none⟩) R.length c) ∧ W.cell? ⟨w.heap.size, 1, none⟩ = some (.slice b sn d) ∧ W.cell? ⟨w.heap.size + 1, 0, none⟩ = some (.slice a' Q.length c') ∧ W.cell? ⟨w.heap.size + 1, 1, none⟩ = some (.slice b' tn d') ∧ W.cell? ⟨bb, o + j * 3, none⟩ = some (.string xn) ∧ W.cell? ⟨bb, o + j * 3 + 1, none⟩ = some (.bool false) ∧ W.cell? ⟨bb, o + j * 3 + 2, none⟩ = some (.slice xa xv.length xc) ∧ W.cell? ⟨z1.heap.size, 0, none⟩ = some (.string yn) ∧ W.cell? ⟨z1.heap.size, 1, none⟩ = some (.bool true) ∧ W.cell? ⟨z1.heap.size, 2, none⟩ = some (.slice ya yv.length yc)) (by kernel_rfl) (K7.out _ (Below.refl _ _).drew) (fun hHeld => ?_)
                      have Q0 : Hid (Below z3.heap.size z3 z3.drew) := (Gr.refl _).drew.below
                      refine wpAnyH_take (i := 0) (oi := { dst := some 45, op := Op.move (Operand.tmp 7), type := 4, pos := "ref.go:75", after := #[], guard := none }) (v := ?_) rfl (by kernel_rfl) (by kernel_rfl) (by kernel_rfl) (fun _ _ _ h => h) (Or.inl ⟨by rfl, ?_⟩) hHeld ?_
                      rotate_left
                      · intro w hSw; (try dsimp only at hSw); go_simp; (try with_reducible rfl)
                      simp only [Act.put, List.setIfInBounds_toArray, List.set_cons_zero, List.set_cons_succ]
                      refine wpAnyH_take (i := 1) (oi := { dst := some 46, op := Op.unOp UnOp.not 4 (Operand.tmp 45), type := 4, pos := "ref.go:75", after := #[{ on := 0, ground := Ground.data }], guard := none }) (v := ?_) rfl (by kernel_rfl) (by kernel_rfl) (by kernel_rfl) (fun _ _ _ h => h) (Or.inl ⟨by rfl, ?_⟩) hHeld ?_
                      rotate_left
                      · intro w hSw; (try dsimp only at hSw); go_simp; (try with_reducible rfl)
                      simp only [Act.put, List.setIfInBounds_toArray, List.set_cons_zero, List.set_cons_succ]
                      refine wpAnyH_take (i := 2) (oi := { dst := some 47, op := Op.move (Operand.tmp 46), type := 4, pos := "ref.go:75", after := #[{ on := 1, ground := Ground.data }], guard := none }) (v := ?_) rfl (by kernel_rfl) (by kernel_rfl) (by kernel_rfl) (fun _ _ _ h => h) (Or.inl ⟨by rfl, ?_⟩) hHeld ?_
                      rotate_left
                      · intro w hSw; (try dsimp only at hSw); go_simp; (try with_reducible rfl)
                      simp only [Act.put, List.setIfInBounds_toArray, List.set_cons_zero, List.set_cons_succ]
                      refine wpAnyH_take (i := 3) (oi := { dst := some 48, op := Op.fieldAddr 25 (Operand.tmp 2) 0, type := 0, pos := "ref.go:75", after := #[{ on := 2, ground := Ground.guard }], guard := some (2, false) }) (v := ?_) rfl (by kernel_rfl) (by kernel_rfl) (by kernel_rfl) (fun _ _ _ h => h) (Or.inl ⟨by rfl, ?_⟩) hHeld ?_
                      rotate_left
                      · intro w hSw; (try dsimp only at hSw); go_simp; (try with_reducible rfl)
                      simp only [Act.put, List.setIfInBounds_toArray, List.set_cons_zero, List.set_cons_succ]
                      refine wpAnyH_take (i := 4) (oi := { dst := some 49, op := Op.load 22 (Operand.tmp 48), type := 22, pos := "ref.go:75", after := #[{ on := 3, ground := Ground.data }, { on := 2, ground := Ground.guard }], guard := some (2, false) }) (v := ?_) rfl (by kernel_rfl) (by kernel_rfl) (by kernel_rfl) (fun _ _ _ h => h) (Or.inl ⟨by rfl, ?_⟩) hHeld ?_
                      rotate_left
                      · intro w hSw; (try dsimp only at hSw); go_simp; (try with_reducible rfl)
                      simp only [Act.put, List.setIfInBounds_toArray, List.set_cons_zero, List.set_cons_succ]
                      refine wpAnyH_take (i := 5) (oi := { dst := some 50, op := Op.move (Operand.tmp 5), type := 3, pos := "ref.go:75", after := #[{ on := 2, ground := Ground.guard }], guard := some (2, false) }) (v := ?_) rfl (by kernel_rfl) (by kernel_rfl) (by kernel_rfl) (fun _ _ _ h => h) (Or.inl ⟨by rfl, ?_⟩) hHeld ?_
                      rotate_left
                      · intro w hSw; (try dsimp only at hSw); go_simp; (try with_reducible rfl)
                      simp only [Act.put, List.setIfInBounds_toArray, List.set_cons_zero, List.set_cons_succ]
                      refine wpAnyH_take (i := 6) (oi := { dst := some 51, op := Op.indexAddr 22 (Operand.tmp 49) (Operand.tmp 50), type := 0, pos := "ref.go:75", after := #[{ on := 4, ground := Ground.data }, { on := 5, ground := Ground.data }, { on := 2, ground := Ground.guard }], guard := some (2, false) }) (v := ?_) rfl (by kernel_rfl) (by kernel_rfl) (by kernel_rfl) (fun _ _ _ h => h) (Or.inl ⟨by rfl, ?_⟩) hHeld ?_
                      rotate_left
                      · intro w hSw; (try dsimp only at hSw); go_simp; (try with_reducible rfl)
                      simp only [Act.put, List.setIfInBounds_toArray, List.set_cons_zero, List.set_cons_succ]
                      refine wpAnyH_take (i := 7) (oi := { dst := some 52, op := Op.fieldAddr 29 (Operand.tmp 51) 2, type := 0, pos := "ref.go:75", after := #[{ on := 6, ground := Ground.data }, { on := 2, ground := Ground.guard }], guard := some (2, false) }) (v := ?_) rfl (by kernel_rfl) (by kernel_rfl) (by kernel_rfl) (fun _ _ _ h => h) (Or.inl ⟨by rfl, ?_⟩) hHeld ?_
                      rotate_left
                      · intro w hSw; (try dsimp only at hSw); go_simp; (try with_reducible rfl)
                      simp only [Act.put, List.setIfInBounds_toArray, List.set_cons_zero, List.set_cons_succ]
                      refine wpAnyH_take (i := 8) (oi := { dst := some 53, op := Op.load 23 (Operand.tmp 52), type := 23, pos := "ref.go:75", after := #[{ on := 7, ground := Ground.data }, { on := 2, ground := Ground.guard }], guard := some (2, false) }) (v := ?_) rfl (by kernel_rfl) (by kernel_rfl) (by kernel_rfl) (fun _ _ _ h => h) (Or.inl ⟨by rfl, ?_⟩) hHeld ?_
                      rotate_left
                      · intro w hSw; (try dsimp only at hSw); go_simp; (try with_reducible rfl)
                      simp only [Act.put, List.setIfInBounds_toArray, List.set_cons_zero, List.set_cons_succ]
                      refine wpAnyH_take (i := 9) (oi := { dst := some 54, op := Op.fieldAddr 29 (Operand.tmp 6) 2, type := 0, pos := "ref.go:75", after := #[{ on := 2, ground := Ground.guard }], guard := some (2, false) }) (v := ?_) rfl (by kernel_rfl) (by kernel_rfl) (by kernel_rfl) (fun _ _ _ h => h) (Or.inl ⟨by rfl, ?_⟩) hHeld ?_
                      rotate_left
                      · intro w hSw; (try dsimp only at hSw); go_simp; (try with_reducible rfl)
                      simp only [Act.put, List.setIfInBounds_toArray, List.set_cons_zero, List.set_cons_succ]
                      refine wpAnyH_take (i := 10) (oi := { dst := some 55, op := Op.load 23 (Operand.tmp 54), type := 23, pos := "ref.go:75", after := #[{ on := 9, ground := Ground.data }, { on := 2, ground := Ground.guard }], guard := some (2, false) }) (v := ?_) rfl (by kernel_rfl) (by kernel_rfl) (by kernel_rfl) (fun _ _ _ h => h) (Or.inl ⟨by rfl, ?_⟩) hHeld ?_
                      rotate_left
                      · intro w hSw; (try dsimp only at hSw); go_simp; (try with_reducible rfl)
                      simp only [Act.put, List.setIfInBounds_toArray, List.set_cons_zero, List.set_cons_succ]
                      refine wpAnyH_ready (rs := [11]) (by kernel_rfl) (by simp) ?_
                      refine AllReadyH.cons (o := { dst := some 56, op := Op.call { callee := Callee.value (Operand.func 40), args := #[Operand.tmp 53, Operand.tmp 55], argTypes := #[23, 23] }, type := 4, pos := "ref.go:75", after := #[{ on := 8, ground := Ground.data }, { on := 10, ground := Ground.data }, { on := 2, ground := Ground.chain }, { on := 2, ground := Ground.guard }], guard := some (2, false) }) rfl (fun K hK => ?_) AllReadyH.nil
                      go_simp
                      refine (KW.out _ Q0.out).mono ?_
                      rw [HW.out]
                      rintro e zz ⟨rfl, hb⟩
                      have Q1 : Hid (Below z3.heap.size z3 zz) := Q0.out.trans (hb.mono Q0.out.size)
                      clear hb Q0
                      refine hK.out _ _ (K7.out _ Q1.out) (fun hHeld => ?_)
                      clear hK
                      refine wpAnyH_take (i := 12) (oi := { dst := some 57, op := Op.unOp UnOp.not 4 (Operand.tmp 56), type := 4, pos := "ref.go:75", after := #[{ on := 11, ground := Ground.data }, { on := 2, ground := Ground.guard }], guard := some (2, false) }) (v := ?_) rfl (by kernel_rfl) (by kernel_rfl) (by kernel_rfl) (fun _ _ _ h => h) (Or.inl ⟨by rfl, ?_⟩) hHeld ?_
                      rotate_left
                      · intro w hSw; (try dsimp only at hSw); go_simp; (try with_reducible rfl)
                      simp only [Act.put, List.setIfInBounds_toArray, List.set_cons_zero, List.set_cons_succ]
                      refine wpAnyH_take (i := 13) (oi := { dst := some 58, op := Op.pick (Operand.tmp 47) (Operand.const (Value.bool true)) (Operand.tmp 57), type := 4, pos := "ref.go:75", after := #[{ on := 2, ground := Ground.data }, { on := 12, ground := Ground.data }], guard := none }) (v := ?_) rfl (by kernel_rfl) (by kernel_rfl) (by kernel_rfl) (fun _ _ _ h => h) (Or.inl ⟨by rfl, ?_⟩) hHeld ?_
                      rotate_left
                      · intro w hSw; (try dsimp only at hSw); go_simp; (try with_reducible rfl)
                      simp only [Act.put, List.setIfInBounds_toArray, List.set_cons_zero, List.set_cons_succ]
                      refine wpAnyH_take (i := 14) (oi := { dst := some 59, op := Op.move (Operand.tmp 58), type := 4, pos := "ref.go:75", after := #[{ on := 13, ground := Ground.data }, { on := 11, ground := Ground.chain }], guard := none }) (v := ?_) rfl (by kernel_rfl) (by kernel_rfl) (by kernel_rfl) (fun _ _ _ h => h) (Or.inl ⟨by rfl, ?_⟩) hHeld ?_
                      rotate_left
                      · intro w hSw; (try dsimp only at hSw); go_simp; (try with_reducible rfl)
                      simp only [Act.put, List.setIfInBounds_toArray, List.set_cons_zero, List.set_cons_succ]
                      refine wpAnyH_take (i := 15) (oi := { dst := some 60, op := Op.fieldAddr 29 (Operand.tmp 6) 1, type := 0, pos := "ref.go:75", after := #[{ on := 14, ground := Ground.guard }], guard := some (14, false) }) (v := ?_) rfl (by kernel_rfl) (by kernel_rfl) (by kernel_rfl) (fun _ _ _ h => h) (Or.inl ⟨by rfl, ?_⟩) hHeld ?_
                      rotate_left
                      · intro w hSw; (try dsimp only at hSw); go_simp; (try with_reducible rfl)
                      simp only [Act.put, List.setIfInBounds_toArray, List.set_cons_zero, List.set_cons_succ]
                      refine wpAnyH_take (i := 16) (oi := { dst := some 61, op := Op.load 4 (Operand.tmp 60), type := 4, pos := "ref.go:75", after := #[{ on := 15, ground := Ground.data }, { on := 14, ground := Ground.guard }], guard := some (14, false) }) (v := ?_) rfl (by kernel_rfl) (by kernel_rfl) (by kernel_rfl) (fun _ _ _ h => h) (Or.inl ⟨by rfl, ?_⟩) hHeld ?_
                      rotate_left
                      · intro w hSw; (try dsimp only at hSw); go_simp; (try with_reducible rfl)
                      simp only [Act.put, List.setIfInBounds_toArray, List.set_cons_zero, List.set_cons_succ]
                      refine wpAnyH_take (i := 17) (oi := { dst := some 62, op := Op.move (Operand.tmp 61), type := 4, pos := "ref.go:75", after := #[{ on := 16, ground := Ground.data }, { on := 14, ground := Ground.chain }, { on := 14, ground := Ground.guard }], guard := some (14, false) }) (v := ?_) rfl (by kernel_rfl) (by kernel_rfl) (by kernel_rfl) (fun _ _ _ h => h) (Or.inl ⟨by rfl, ?_⟩) hHeld ?_
                      rotate_left
                      · intro w hSw; (try dsimp only at hSw); go_simp; (try with_reducible rfl)
                      simp only [Act.put, List.setIfInBounds_toArray, List.set_cons_zero, List.set_cons_succ]
                      refine wpAnyH_take (i := 18) (oi := { dst := some 63, op := Op.fieldAddr 25 (Operand.tmp 2) 0, type := 0, pos := "ref.go:75", after := #[{ on := 17, ground := Ground.guard }], guard := some (17, true) }) (v := ?_) rfl (by kernel_rfl) (by kernel_rfl) (by kernel_rfl) (fun _ _ _ h => h) (Or.inl ⟨by rfl, ?_⟩) hHeld ?_
                      rotate_left
                      · intro w hSw; (try dsimp only at hSw); go_simp; (try with_reducible rfl)
                      simp only [Act.put, List.setIfInBounds_toArray, List.set_cons_zero, List.set_cons_succ]
                      refine wpAnyH_take (i := 19) (oi := { dst := some 64, op := Op.load 22 (Operand.tmp 63), type := 22, pos := "ref.go:75", after := #[{ on := 18, ground := Ground.data }, { on := 17, ground := Ground.guard }], guard := some (17, true) }) (v := ?_) rfl (by kernel_rfl) (by kernel_rfl) (by kernel_rfl) (fun _ _ _ h => h) (Or.inl ⟨by rfl, ?_⟩) hHeld ?_
                      rotate_left
                      · intro w hSw; (try dsimp only at hSw); go_simp; (try with_reducible rfl)
                      simp only [Act.put, List.setIfInBounds_toArray, List.set_cons_zero, List.set_cons_succ]
                      refine wpAnyH_take (i := 20) (oi := { dst := some 65, op := Op.move (Operand.tmp 5), type := 3, pos := "ref.go:75", after := #[{ on := 17, ground := Ground.guard }], guard := some (17, true) }) (v := ?_) rfl (by kernel_rfl) (by kernel_rfl) (by kernel_rfl) (fun _ _ _ h => h) (Or.inl ⟨by rfl, ?_⟩) hHeld ?_
                      rotate_left
                      · intro w hSw; (try dsimp only at hSw); go_simp; (try with_reducible rfl)
                      simp only [Act.put, List.setIfInBounds_toArray, List.set_cons_zero, List.set_cons_succ]
                      refine wpAnyH_take (i := 21) (oi := { dst := some 66, op := Op.indexAddr 22 (Operand.tmp 64) (Operand.tmp 65), type := 0, pos := "ref.go:75", after := #[{ on := 19, ground := Ground.data }, { on := 20, ground := Ground.data }, { on := 17, ground := Ground.guard }], guard := some (17, true) }) (v := ?_) rfl (by kernel_rfl) (by kernel_rfl) (by kernel_rfl) (fun _ _ _ h => h) (Or.inl ⟨by rfl, ?_⟩) hHeld ?_
                      rotate_left
                      · intro w hSw; (try dsimp only at hSw); go_simp; (try with_reducible rfl)
                      simp only [Act.put, List.setIfInBounds_toArray, List.set_cons_zero, List.set_cons_succ]
                      refine wpAnyH_take (i := 22) (oi := { dst := some 67, op := Op.fieldAddr 29 (Operand.tmp 66) 1, type := 0, pos := "ref.go:75", after := #[{ on := 21, ground := Ground.data }, { on := 17, ground := Ground.guard }], guard := some (17, true) }) (v := ?_) rfl (by kernel_rfl) (by kernel_rfl) (by kernel_rfl) (fun _ _ _ h => h) (Or.inl ⟨by rfl, ?_⟩) hHeld ?_
                      rotate_left
                      · intro w hSw; (try dsimp only at hSw); go_simp; (try with_reducible rfl)
                      simp only [Act.put, List.setIfInBounds_toArray, List.set_cons_zero, List.set_cons_succ]
                      refine wpAnyH_take (i := 23) (oi := { dst := some 68, op := Op.load 4 (Operand.tmp 67), type := 4, pos := "ref.go:75", after := #[{ on := 22, ground := Ground.data }, { on := 17, ground := Ground.guard }], guard := some (17, true) }) (v := ?_) rfl (by kernel_rfl) (by kernel_rfl) (by kernel_rfl) (fun _ _ _ h => h) (Or.inl ⟨by rfl, ?_⟩) hHeld ?_
                      rotate_left
                      · intro w hSw; (try dsimp only at hSw); go_simp; (try with_reducible rfl)
                      simp only [Act.put, List.setIfInBounds_toArray, List.set_cons_zero, List.set_cons_succ]
                      refine wpAnyH_take (i := 24) (oi := { dst := some 69, op := Op.unOp UnOp.not 4 (Operand.tmp 68), type := 4, pos := "ref.go:75", after := #[{ on := 23, ground := Ground.data }, { on := 17, ground := Ground.guard }], guard := some (17, true) }) (v := ?_) rfl (by kernel_rfl) (by kernel_rfl) (by kernel_rfl) (fun _ _ _ h => h) (Or.inl ⟨by rfl, ?_⟩) hHeld ?_
                      rotate_left
                      · intro w hSw; (try dsimp only at hSw); go_simp; (try with_reducible rfl)
                      simp only [Act.put, List.setIfInBounds_toArray, List.set_cons_zero, List.set_cons_succ]
                      refine wpAnyH_take (i := 25) (oi := { dst := some 70, op := Op.pick (Operand.tmp 62) (Operand.tmp 69) (Operand.const (Value.bool false)), type := 4, pos := "ref.go:75", after := #[{ on := 17, ground := Ground.data }, { on := 24, ground := Ground.data }, { on := 14, ground := Ground.guard }], guard := some (14, false) }) (v := ?_) rfl (by kernel_rfl) (by kernel_rfl) (by kernel_rfl) (fun _ _ _ h => h) (Or.inl ⟨by rfl, ?_⟩) hHeld ?_
                      rotate_left
                      · intro w hSw; (try dsimp only at hSw); go_simp; (try with_reducible rfl)
                      simp only [Act.put, List.setIfInBounds_toArray, List.set_cons_zero, List.set_cons_succ]
                      refine wpAnyH_take (i := 26) (oi := { dst := some 71, op := Op.pick (Operand.tmp 59) (Operand.const (Value.bool true)) (Operand.tmp 70), type := 4, pos := "ref.go:75", after := #[{ on := 14, ground := Ground.data }, { on := 25, ground := Ground.data }], guard := none }) (v := ?_) rfl (by kernel_rfl) (by kernel_rfl) (by kernel_rfl) (fun _ _ _ h => h) (Or.inl ⟨by rfl, ?_⟩) hHeld ?_
                      rotate_left
                      · intro w hSw; (try dsimp only at hSw); go_simp; (try with_reducible rfl)
                      simp only [Act.put, List.setIfInBounds_toArray, List.set_cons_zero, List.set_cons_succ]
                      refine wpAnyH_done (by kernel_rfl) ?_ _
                      clear hHeld
                      go_wp2
                      go_ret
                      exact ⟨ret_bool (by rw [← HRES.out, MS.out, MT.out, HWS.out, MW.out, inA_no hjl HXE.out (by rw [HIO.out, HW.out]; rfl)]; rfl), BW.out _ Q1.out⟩
                    · have K7 : Hid (∀ W, Below z3.heap.size z3 W → (W.cell? ⟨w.heap.size, 0, none⟩ = some (.slice (some ⟨bb, o, none⟩) R.length c) ∧ W.cell? ⟨w.heap.size, 1, none⟩ = some (.slice b sn d) ∧ W.cell? ⟨w.heap.size + 1, 0, none⟩ = some (.slice a' Q.length c') ∧ W.cell? ⟨w.heap.size + 1, 1, none⟩ = some (.slice b' tn d') ∧ W.cell? ⟨bb, o + j * 3, none⟩ = some (.string xn) ∧ W.cell? ⟨bb, o + j * 3 + 1, none⟩ = some (.bool true) ∧ W.cell? ⟨bb, o + j * 3 + 2, none⟩ = some (.slice xa xv.length xc) ∧ W.cell? ⟨z1.heap.size, 0, none⟩ = some (.string yn) ∧ W.cell? ⟨z1.heap.size, 1, none⟩ = some (.bool true) ∧ W.cell? ⟨z1.heap.size, 2, none⟩ = some (.slice ya yv.length yc))) := fun W hb => by
                        obtain ⟨s1, s2, s3, s4, s5, s6, s7⟩ := KH.out W (RB.out.trans (hb.mono RB.out.size))
                        obtain ⟨p1, p2, p3, _⟩ := cells3 (bx_bel0 PG.out hb)
                        exact ⟨s1, s2, s3, s4, s5, s6, s7, p1, p2, p3⟩
                      obtain ⟨s1, s2, s3, s4, s5, s6, s7, p1, p2, p3⟩ := K7.out _ (Below.refl _ _)
                      go_wp2_with fail
                      clear s1 s2 s3 s4 s5 s6 s7 p1 p2 p3
                      refine wp_region_held_drew (S := fun W => W.cell? ⟨w.heap.size, 0, none⟩ = some (.slice (some ⟨bb, o, none⟩) R.length c) ∧ W.cell? ⟨w.heap.size, 1, none⟩ = some (.slice b sn d) ∧ W.cell? ⟨w.heap.size + 1, 0, none⟩ = some (.slice a' Q.length c') ∧ W.cell? ⟨w.heap.size + 1, 1, none⟩ = some (.slice b' tn d') ∧ W.cell? ⟨bb, o + j * 3, none⟩ = some (.string xn) ∧ W.cell? ⟨bb, o + j * 3 + 1, none⟩ = some (.bool true) ∧ W.cell? ⟨bb, o + j * 3 + 2, none⟩ = some (.slice xa xv.length xc) ∧ W.cell? ⟨z1.heap.size, 0, none⟩ = some (.string yn) ∧ W.cell? ⟨z1.heap.size, 1, none⟩ = some (.bool true) ∧ W.cell? ⟨z1.heap.size, 2, none⟩ = some (.slice ya yv.length yc)) (by kernel_rfl) (K7.out _ (Below.refl _ _).drew) (fun hHeld => ?_)
                      have Q0 : Hid (Below z3.heap.size z3 z3.drew) := (Gr.refl _).drew.below
                      refine wpAnyH_take (i := 0) (oi := { dst := some 45, op := Op.move (Operand.tmp 7), type := 4, pos := "ref.go:75", after := #[], guard := none }) (v := ?_) rfl (by kernel_rfl) (by kernel_rfl) (by kernel_rfl) (fun _ _ _ h => h) (Or.inl ⟨by rfl, ?_⟩) hHeld ?_
                      rotate_left
                      · intro w hSw; (try dsimp only at hSw); go_simp; (try with_reducible rfl)
                      simp only [Act.put, List.setIfInBounds_toArray, List.set_cons_zero, List.set_cons_succ]
                      refine wpAnyH_take (i := 1) (oi := { dst := some 46, op := Op.unOp UnOp.not 4 (Operand.tmp 45), type := 4, pos := "ref.go:75", after := #[{ on := 0, ground := Ground.data }], guard := none }) (v := ?_) rfl (by kernel_rfl) (by kernel_rfl) (by kernel_rfl) (fun _ _ _ h => h) (Or.inl ⟨by rfl, ?_⟩) hHeld ?_
                      rotate_left
                      · intro w hSw; (try dsimp only at hSw); go_simp; (try with_reducible rfl)
                      simp only [Act.put, List.setIfInBounds_toArray, List.set_cons_zero, List.set_cons_succ]
                      refine wpAnyH_take (i := 2) (oi := { dst := some 47, op := Op.move (Operand.tmp 46), type := 4, pos := "ref.go:75", after := #[{ on := 1, ground := Ground.data }], guard := none }) (v := ?_) rfl (by kernel_rfl) (by kernel_rfl) (by kernel_rfl) (fun _ _ _ h => h) (Or.inl ⟨by rfl, ?_⟩) hHeld ?_
                      rotate_left
                      · intro w hSw; (try dsimp only at hSw); go_simp; (try with_reducible rfl)
                      simp only [Act.put, List.setIfInBounds_toArray, List.set_cons_zero, List.set_cons_succ]
                      refine wpAnyH_take (i := 3) (oi := { dst := some 48, op := Op.fieldAddr 25 (Operand.tmp 2) 0, type := 0, pos := "ref.go:75", after := #[{ on := 2, ground := Ground.guard }], guard := some (2, false) }) (v := ?_) rfl (by kernel_rfl) (by kernel_rfl) (by kernel_rfl) (fun _ _ _ h => h) (Or.inl ⟨by rfl, ?_⟩) hHeld ?_
                      rotate_left
                      · intro w hSw; (try dsimp only at hSw); go_simp; (try with_reducible rfl)
                      simp only [Act.put, List.setIfInBounds_toArray, List.set_cons_zero, List.set_cons_succ]
                      refine wpAnyH_take (i := 4) (oi := { dst := some 49, op := Op.load 22 (Operand.tmp 48), type := 22, pos := "ref.go:75", after := #[{ on := 3, ground := Ground.data }, { on := 2, ground := Ground.guard }], guard := some (2, false) }) (v := ?_) rfl (by kernel_rfl) (by kernel_rfl) (by kernel_rfl) (fun _ _ _ h => h) (Or.inl ⟨by rfl, ?_⟩) hHeld ?_
                      rotate_left
                      · intro w hSw; (try dsimp only at hSw); go_simp; (try with_reducible rfl)
                      simp only [Act.put, List.setIfInBounds_toArray, List.set_cons_zero, List.set_cons_succ]
                      refine wpAnyH_take (i := 5) (oi := { dst := some 50, op := Op.move (Operand.tmp 5), type := 3, pos := "ref.go:75", after := #[{ on := 2, ground := Ground.guard }], guard := some (2, false) }) (v := ?_) rfl (by kernel_rfl) (by kernel_rfl) (by kernel_rfl) (fun _ _ _ h => h) (Or.inl ⟨by rfl, ?_⟩) hHeld ?_
                      rotate_left
                      · intro w hSw; (try dsimp only at hSw); go_simp; (try with_reducible rfl)
                      simp only [Act.put, List.setIfInBounds_toArray, List.set_cons_zero, List.set_cons_succ]
                      refine wpAnyH_take (i := 6) (oi := { dst := some 51, op := Op.indexAddr 22 (Operand.tmp 49) (Operand.tmp 50), type := 0, pos := "ref.go:75", after := #[{ on := 4, ground := Ground.data }, { on := 5, ground := Ground.data }, { on := 2, ground := Ground.guard }], guard := some (2, false) }) (v := ?_) rfl (by kernel_rfl) (by kernel_rfl) (by kernel_rfl) (fun _ _ _ h => h) (Or.inl ⟨by rfl, ?_⟩) hHeld ?_
                      rotate_left
                      · intro w hSw; (try dsimp only at hSw); go_simp; (try with_reducible rfl)
                      simp only [Act.put, List.setIfInBounds_toArray, List.set_cons_zero, List.set_cons_succ]
                      refine wpAnyH_take (i := 7) (oi := { dst := some 52, op := Op.fieldAddr 29 (Operand.tmp 51) 2, type := 0, pos := "ref.go:75", after := #[{ on := 6, ground := Ground.data }, { on := 2, ground := Ground.guard }], guard := some (2, false) }) (v := ?_) rfl (by kernel_rfl) (by kernel_rfl) (by kernel_rfl) (fun _ _ _ h => h) (Or.inl ⟨by rfl, ?_⟩) hHeld ?_
                      rotate_left
                      · intro w hSw; (try dsimp only at hSw); go_simp; (try with_reducible rfl)
                      simp only [Act.put, List.setIfInBounds_toArray, List.set_cons_zero, List.set_cons_succ]
                      refine wpAnyH_take (i := 8) (oi := { dst := some 53, op := Op.load 23 (Operand.tmp 52), type := 23, pos := "ref.go:75", after := #[{ on := 7, ground := Ground.data }, { on := 2, ground := Ground.guard }], guard := some (2, false) }) (v := ?_) rfl (by kernel_rfl) (by kernel_rfl) (by kernel_rfl) (fun _ _ _ h => h) (Or.inl ⟨by rfl, ?_⟩) hHeld ?_
                      rotate_left
                      · intro w hSw; (try dsimp only at hSw); go_simp; (try with_reducible rfl)
                      simp only [Act.put, List.setIfInBounds_toArray, List.set_cons_zero, List.set_cons_succ]
                      refine wpAnyH_take (i := 9) (oi := { dst := some 54, op := Op.fieldAddr 29 (Operand.tmp 6) 2, type := 0, pos := "ref.go:75", after := #[{ on := 2, ground := Ground.guard }], guard := some (2, false) }) (v := ?_) rfl (by kernel_rfl) (by kernel_rfl) (by kernel_rfl) (fun _ _ _ h => h) (Or.inl ⟨by rfl, ?_⟩) hHeld ?_
                      rotate_left
                      · intro w hSw; (try dsimp only at hSw); go_simp; (try with_reducible rfl)
                      simp only [Act.put, List.setIfInBounds_toArray, List.set_cons_zero, List.set_cons_succ]
                      refine wpAnyH_take (i := 10) (oi := { dst := some 55, op := Op.load 23 (Operand.tmp 54), type := 23, pos := "ref.go:75", after := #[{ on := 9, ground := Ground.data }, { on := 2, ground := Ground.guard }], guard := some (2, false) }) (v := ?_) rfl (by kernel_rfl) (by kernel_rfl) (by kernel_rfl) (fun _ _ _ h => h) (Or.inl ⟨by rfl, ?_⟩) hHeld ?_
                      rotate_left
                      · intro w hSw; (try dsimp only at hSw); go_simp; (try with_reducible rfl)
                      simp only [Act.put, List.setIfInBounds_toArray, List.set_cons_zero, List.set_cons_succ]
                      refine wpAnyH_ready (rs := [11]) (by kernel_rfl) (by simp) ?_
                      refine AllReadyH.cons (o := { dst := some 56, op := Op.call { callee := Callee.value (Operand.func 40), args := #[Operand.tmp 53, Operand.tmp 55], argTypes := #[23, 23] }, type := 4, pos := "ref.go:75", after := #[{ on := 8, ground := Ground.data }, { on := 10, ground := Ground.data }, { on := 2, ground := Ground.chain }, { on := 2, ground := Ground.guard }], guard := some (2, false) }) rfl (fun K hK => ?_) AllReadyH.nil
                      go_simp
                      refine (KW.out _ Q0.out).mono ?_
                      rw [HW.out]
                      rintro e zz ⟨rfl, hb⟩
                      have Q1 : Hid (Below z3.heap.size z3 zz) := Q0.out.trans (hb.mono Q0.out.size)
                      clear hb Q0
                      refine hK.out _ _ (K7.out _ Q1.out) (fun hHeld => ?_)
                      clear hK
                      refine wpAnyH_take (i := 12) (oi := { dst := some 57, op := Op.unOp UnOp.not 4 (Operand.tmp 56), type := 4, pos := "ref.go:75", after := #[{ on := 11, ground := Ground.data }, { on := 2, ground := Ground.guard }], guard := some (2, false) }) (v := ?_) rfl (by kernel_rfl) (by kernel_rfl) (by kernel_rfl) (fun _ _ _ h => h) (Or.inl ⟨by rfl, ?_⟩) hHeld ?_
                      rotate_left
                      · intro w hSw; (try dsimp only at hSw); go_simp; (try with_reducible rfl)
                      simp only [Act.put, List.setIfInBounds_toArray, List.set_cons_zero, List.set_cons_succ]
                      refine wpAnyH_take (i := 13) (oi := { dst := some 58, op := Op.pick (Operand.tmp 47) (Operand.const (Value.bool true)) (Operand.tmp 57), type := 4, pos := "ref.go:75", after := #[{ on := 2, ground := Ground.data }, { on := 12, ground := Ground.data }], guard := none }) (v := ?_) rfl (by kernel_rfl) (by kernel_rfl) (by kernel_rfl) (fun _ _ _ h => h) (Or.inl ⟨by rfl, ?_⟩) hHeld ?_
                      rotate_left
                      · intro w hSw; (try dsimp only at hSw); go_simp; (try with_reducible rfl)
                      simp only [Act.put, List.setIfInBounds_toArray, List.set_cons_zero, List.set_cons_succ]
                      refine wpAnyH_take (i := 14) (oi := { dst := some 59, op := Op.move (Operand.tmp 58), type := 4, pos := "ref.go:75", after := #[{ on := 13, ground := Ground.data }, { on := 11, ground := Ground.chain }], guard := none }) (v := ?_) rfl (by kernel_rfl) (by kernel_rfl) (by kernel_rfl) (fun _ _ _ h => h) (Or.inl ⟨by rfl, ?_⟩) hHeld ?_
                      rotate_left
                      · intro w hSw; (try dsimp only at hSw); go_simp; (try with_reducible rfl)
                      simp only [Act.put, List.setIfInBounds_toArray, List.set_cons_zero, List.set_cons_succ]
                      refine wpAnyH_take (i := 15) (oi := { dst := some 60, op := Op.fieldAddr 29 (Operand.tmp 6) 1, type := 0, pos := "ref.go:75", after := #[{ on := 14, ground := Ground.guard }], guard := some (14, false) }) (v := ?_) rfl (by kernel_rfl) (by kernel_rfl) (by kernel_rfl) (fun _ _ _ h => h) (Or.inl ⟨by rfl, ?_⟩) hHeld ?_
                      rotate_left
                      · intro w hSw; (try dsimp only at hSw); go_simp; (try with_reducible rfl)
                      simp only [Act.put, List.setIfInBounds_toArray, List.set_cons_zero, List.set_cons_succ]
                      refine wpAnyH_take (i := 16) (oi := { dst := some 61, op := Op.load 4 (Operand.tmp 60), type := 4, pos := "ref.go:75", after := #[{ on := 15, ground := Ground.data }, { on := 14, ground := Ground.guard }], guard := some (14, false) }) (v := ?_) rfl (by kernel_rfl) (by kernel_rfl) (by kernel_rfl) (fun _ _ _ h => h) (Or.inl ⟨by rfl, ?_⟩) hHeld ?_
                      rotate_left
                      · intro w hSw; (try dsimp only at hSw); go_simp; (try with_reducible rfl)
                      simp only [Act.put, List.setIfInBounds_toArray, List.set_cons_zero, List.set_cons_succ]
                      refine wpAnyH_take (i := 17) (oi := { dst := some 62, op := Op.move (Operand.tmp 61), type := 4, pos := "ref.go:75", after := #[{ on := 16, ground := Ground.data }, { on := 14, ground := Ground.chain }, { on := 14, ground := Ground.guard }], guard := some (14, false) }) (v := ?_) rfl (by kernel_rfl) (by kernel_rfl) (by kernel_rfl) (fun _ _ _ h => h) (Or.inl ⟨by rfl, ?_⟩) hHeld ?_
                      rotate_left
                      · intro w hSw; (try dsimp only at hSw); go_simp; (try with_reducible rfl)
                      simp only [Act.put, List.setIfInBounds_toArray, List.set_cons_zero, List.set_cons_succ]
                      refine wpAnyH_take (i := 18) (oi := { dst := some 63, op := Op.fieldAddr 25 (Operand.tmp 2) 0, type := 0, pos := "ref.go:75", after := #[{ on := 17, ground := Ground.guard }], guard := some (17, true) }) (v := ?_) rfl (by kernel_rfl) (by kernel_rfl) (by kernel_rfl) (fun _ _ _ h => h) (Or.inl ⟨by rfl, ?_⟩) hHeld ?_
                      rotate_left
                      · intro w hSw; (try dsimp only at hSw); go_simp; (try with_reducible rfl)
                      simp only [Act.put, List.setIfInBounds_toArray, List.set_cons_zero, List.set_cons_succ]
                      refine wpAnyH_take (i := 19) (oi := { dst := some 64, op := Op.load 22 (Operand.tmp 63), type := 22, pos := "ref.go:75", after := #[{ on := 18, ground := Ground.data }, { on := 17, ground := Ground.guard }], guard := some (17, true) }) (v := ?_) rfl (by kernel_rfl) (by kernel_rfl) (by kernel_rfl) (fun _ _ _ h => h) (Or.inl ⟨by rfl, ?_⟩) hHeld ?_
                      rotate_left
                      · intro w hSw; (try dsimp only at hSw); go_simp; (try with_reducible rfl)
                      simp only [Act.put, List.setIfInBounds_toArray, List.set_cons_zero, List.set_cons_succ]
                      refine wpAnyH_take (i := 20) (oi := { dst := some 65, op := Op.move (Operand.tmp 5), type := 3, pos := "ref.go:75", after := #[{ on := 17, ground := Ground.guard }], guard := some (17, true) }) (v := ?_) rfl (by kernel_rfl) (by kernel_rfl) (by kernel_rfl) (fun _ _ _ h => h) (Or.inl ⟨by rfl, ?_⟩) hHeld ?_
                      rotate_left
                      · intro w hSw; (try dsimp only at hSw); go_simp; (try with_reducible rfl)
                      simp only [Act.put, List.setIfInBounds_toArray, List.set_cons_zero, List.set_cons_succ]
                      refine wpAnyH_take (i := 21) (oi := { dst := some 66, op := Op.indexAddr 22 (Operand.tmp 64) (Operand.tmp 65), type := 0, pos := "ref.go:75", after := #[{ on := 19, ground := Ground.data }, { on := 20, ground := Ground.data }, { on := 17, ground := Ground.guard }], guard := some (17, true) }) (v := ?_) rfl (by kernel_rfl) (by kernel_rfl) (by kernel_rfl) (fun _ _ _ h => h) (Or.inl ⟨by rfl, ?_⟩) hHeld ?_
                      rotate_left
                      · intro w hSw; (try dsimp only at hSw); go_simp; (try with_reducible rfl)
                      simp only [Act.put, List.setIfInBounds_toArray, List.set_cons_zero, List.set_cons_succ]
                      refine wpAnyH_take (i := 22) (oi := { dst := some 67, op := Op.fieldAddr 29 (Operand.tmp 66) 1, type := 0, pos := "ref.go:75", after := #[{ on := 21, ground := Ground.data }, { on := 17, ground := Ground.guard }], guard := some (17, true) }) (v := ?_) rfl (by kernel_rfl) (by kernel_rfl) (by kernel_rfl) (fun _ _ _ h => h) (Or.inl ⟨by rfl, ?_⟩) hHeld ?_
                      rotate_left
                      · intro w hSw; (try dsimp only at hSw); go_simp; (try with_reducible rfl)
                      simp only [Act.put, List.setIfInBounds_toArray, List.set_cons_zero, List.set_cons_succ]
                      refine wpAnyH_take (i := 23) (oi := { dst := some 68, op := Op.load 4 (Operand.tmp 67), type := 4, pos := "ref.go:75", after := #[{ on := 22, ground := Ground.data }, { on := 17, ground := Ground.guard }], guard := some (17, true) }) (v := ?_) rfl (by kernel_rfl) (by kernel_rfl) (by kernel_rfl) (fun _ _ _ h => h) (Or.inl ⟨by rfl, ?_⟩) hHeld ?_
                      rotate_left
                      · intro w hSw; (try dsimp only at hSw); go_simp; (try with_reducible rfl)
                      simp only [Act.put, List.setIfInBounds_toArray, List.set_cons_zero, List.set_cons_succ]
                      refine wpAnyH_take (i := 24) (oi := { dst := some 69, op := Op.unOp UnOp.not 4 (Operand.tmp 68), type := 4, pos := "ref.go:75", after := #[{ on := 23, ground := Ground.data }, { on := 17, ground := Ground.guard }], guard := some (17, true) }) (v := ?_) rfl (by kernel_rfl) (by kernel_rfl) (by kernel_rfl) (fun _ _ _ h => h) (Or.inl ⟨by rfl, ?_⟩) hHeld ?_
                      rotate_left
                      · intro w hSw; (try dsimp only at hSw); go_simp; (try with_reducible rfl)
                      simp only [Act.put, List.setIfInBounds_toArray, List.set_cons_zero, List.set_cons_succ]
                      refine wpAnyH_take (i := 25) (oi := { dst := some 70, op := Op.pick (Operand.tmp 62) (Operand.tmp 69) (Operand.const (Value.bool false)), type := 4, pos := "ref.go:75", after := #[{ on := 17, ground := Ground.data }, { on := 24, ground := Ground.data }, { on := 14, ground := Ground.guard }], guard := some (14, false) }) (v := ?_) rfl (by kernel_rfl) (by kernel_rfl) (by kernel_rfl) (fun _ _ _ h => h) (Or.inl ⟨by rfl, ?_⟩) hHeld ?_
                      rotate_left
                      · intro w hSw; (try dsimp only at hSw); go_simp; (try with_reducible rfl)
                      simp only [Act.put, List.setIfInBounds_toArray, List.set_cons_zero, List.set_cons_succ]
                      refine wpAnyH_take (i := 26) (oi := { dst := some 71, op := Op.pick (Operand.tmp 59) (Operand.const (Value.bool true)) (Operand.tmp 70), type := 4, pos := "ref.go:75", after := #[{ on := 14, ground := Ground.data }, { on := 25, ground := Ground.data }], guard := none }) (v := ?_) rfl (by kernel_rfl) (by kernel_rfl) (by kernel_rfl) (fun _ _ _ h => h) (Or.inl ⟨by rfl, ?_⟩) hHeld ?_
                      rotate_left
                      · intro w hSw; (try dsimp only at hSw); go_simp; (try with_reducible rfl)
                      simp only [Act.put, List.setIfInBounds_toArray, List.set_cons_zero, List.set_cons_succ]
                      refine wpAnyH_done (by kernel_rfl) ?_ _
                      clear hHeld
                      go_wp2
                      exact ⟨⟨j + 1, by omega, by go_num, inA_step hm.out hjl HXE.out (by rw [HIO.out, HW.out]; rfl), BL.out _ Q1.out⟩, by simp [intOf]; omega⟩
            · obtain ⟨z1, hzz1⟩ : ∃ W, wr.drew.alloc (.cells #[.string ⟨#[]⟩, .bool false, .slice none 0 0] 29) = W := ⟨_, rfl⟩
              go_simp
              have hb : Below wr.drew.heap.size wr.drew z1 := by rw [← hzz1]; exact (gr_new _ _).below
              have PG1 : Hid (z1.heap[wr.heap.size]? = some (.cells #[.string ⟨#[]⟩, .bool false, .slice none 0 0] 29 (0, 0))) := by unfold Hid; rw [← hzz1]; exact new_at _ _
              have GZ : Hid (wr.heap.size ≤ wr.heap.size) := RB0.out.size
              have RB1 : Hid (Below wr.heap.size wr z1) := RB0.out.trans (hb.mono RB0.out.size)
              clear hb hzz1
              refine hK.out _ _ (KH.out _ RB1.out) (fun hHeld => ?_)
              clear RB0 hK
              refine wpAnyH_ready (rs := [7]) (by kernel_rfl) (by simp) ?_
              refine AllReadyH.cons (o := { dst := some 42, op := Op.call { callee := Callee.value (Operand.func 12), args := #[Operand.tmp 35, Operand.tmp 41], argTypes := #[25, 9] }, type := 30, pos := "ref.go:74", after := #[{ on := 0, ground := Ground.data }, { on := 6, ground := Ground.data }], guard := none }) rfl (fun K hK => ?_) AllReadyH.nil
              go_simp
              refine (KG.out _ RB1.out).mono ?_
              rintro e z2 ⟨⟨⟨yn, ys, yv⟩, ya, yc⟩, rfl, hyf, hoy, hb⟩
              have RB2 : Hid (Below wr.heap.size wr z2) := RB1.out.trans (hb.mono RB1.out.size)
              dsimp only at hyf
              have HYF := hid hyf
              have HO2 : Hid (AtAt z2 (.slice ya yv.length yc) yv) := hoy
              have PG2 := hid (bx_bel0 PG1.out hb)
              clear hyf hoy hb
              unfold fv
              clear PG1
              refine hK.out _ _ (KH.out _ RB2.out) (fun hHeld => ?_)
              clear RB1 hK
              refine wpAnyH_take (i := 8) (oi := { dst := some 34, op := Op.move (Operand.tmp 42), type := 30, pos := "ref.go:74", after := #[{ on := 7, ground := Ground.data }], guard := none }) (v := ?_) rfl (by kernel_rfl) (by kernel_rfl) (by kernel_rfl) (fun _ _ _ h => h) (Or.inl ⟨by rfl, ?_⟩) hHeld ?_
              rotate_left
              · intro w hSw; (try dsimp only at hSw); go_simp; (try with_reducible rfl)
              simp only [Act.put, List.setIfInBounds_toArray, List.set_cons_zero, List.set_cons_succ]
              refine wpAnyH_take (i := 9) (oi := { dst := some 43, op := Op.extract (Operand.tmp 34) 0, type := 29, pos := "ref.go:74", after := #[{ on := 8, ground := Ground.data }], guard := none }) (v := ?_) rfl (by kernel_rfl) (by kernel_rfl) (by kernel_rfl) (fun _ _ _ h => h) (Or.inl ⟨by rfl, ?_⟩) hHeld ?_
              rotate_left
              · intro w hSw; (try dsimp only at hSw); go_simp; (try with_reducible rfl)
              simp only [Act.put, List.setIfInBounds_toArray, List.set_cons_zero, List.set_cons_succ]
              refine wpAnyH_take (i := 10) (oi := { dst := some 44, op := Op.extract (Operand.tmp 34) 1, type := 4, pos := "ref.go:74", after := #[{ on := 8, ground := Ground.data }, { on := 12, ground := Ground.gcOnly Departure.lateStores }], guard := none }) (v := ?_) rfl (by kernel_rfl) (by kernel_rfl) (by kernel_rfl) (fun _ _ _ h => h) (Or.inl ⟨by rfl, ?_⟩) hHeld ?_
              rotate_left
              · intro w hSw; (try dsimp only at hSw); go_simp; (try with_reducible rfl)
              simp only [Act.put, List.setIfInBounds_toArray, List.set_cons_zero, List.set_cons_succ]
              refine wpAnyH_ready (rs := [12]) (by kernel_rfl) (by simp) ?_
              refine AllReadyH.cons (o := { dst := none, op := Op.store 29 (Operand.tmp 6) (Operand.tmp 43), type := 0, pos := "ref.go:74", after := #[{ on := 11, ground := Ground.data }, { on := 9, ground := Ground.data }, { on := 7, ground := Ground.chain }, { on := 0, ground := Ground.phase }, { on := 1, ground := Ground.phase }, { on := 2, ground := Ground.phase }, { on := 3, ground := Ground.phase }, { on := 4, ground := Ground.phase }, { on := 5, ground := Ground.phase }, { on := 6, ground := Ground.phase }, { on := 7, ground := Ground.phase }, { on := 8, ground := Ground.phase }, { on := 9, ground := Ground.phase }, { on := 10, ground := Ground.textOnly Departure.lateStores }, { on := 11, ground := Ground.phase }], guard := none }) rfl (fun K hK => ?_) AllReadyH.nil
              obtain ⟨e0, e1, e2, ef⟩ := cells3 PG2.out
              go_simp
              obtain ⟨z3, hzz3⟩ : ∃ W, (((z2.setCell ⟨wr.heap.size, 0, none⟩ (.string yn)).setCell ⟨wr.heap.size, 1, none⟩ (.bool ys)).setCell ⟨wr.heap.size, 2, none⟩ (.slice ya yv.length yc)) = W := ⟨_, rfl⟩
              have RB3 : Hid (Below wr.heap.size wr z3) := by unfold Hid; rw [← hzz3]; exact set3 RB2.out GZ.out _ _ _
              have HO3 : Hid (AtAt z3 (.slice ya yv.length yc) yv) := by unfold Hid; rw [← hzz3]; exact AtAt.set3n (p := 0) HO2.out e0 e1 e2 (noInt_s _) (noInt_b _) (noInt_v _ _ _)
              have PG3 : Hid (z3.heap[wr.heap.size]? = some (.cells #[.string yn, .bool ys, .slice ya yv.length yc] 29 (0, 0))) := by unfold Hid; rw [← hzz3]; exact box_set3 PG2.out _ _ _
              clear e0 e1 e2 ef PG2 HO2
              try rw [hzz3]
              clear hzz3
              refine hK.out _ _ (KH.out _ RB3.out) (fun hHeld => ?_)
              clear RB2 hK
              refine wpAnyH_take (i := 13) (oi := { dst := some 7, op := Op.assign (Operand.tmp 44), type := 4, pos := "ref.go:74", after := #[{ on := 10, ground := Ground.data }, { on := 12, ground := Ground.chain }, { on := 0, ground := Ground.phase }, { on := 1, ground := Ground.phase }, { on := 2, ground := Ground.phase }, { on := 3, ground := Ground.phase }, { on := 4, ground := Ground.phase }, { on := 5, ground := Ground.phase }, { on := 6, ground := Ground.phase }, { on := 7, ground := Ground.phase }, { on := 8, ground := Ground.phase }, { on := 9, ground := Ground.phase }, { on := 10, ground := Ground.phase }, { on := 11, ground := Ground.phase }, { on := 12, ground := Ground.phase }], guard := none }) (v := ?_) rfl (by kernel_rfl) (by kernel_rfl) (by kernel_rfl) (fun _ _ _ h => h) (Or.inl ⟨by rfl, ?_⟩) hHeld ?_
              rotate_left
              · intro w hSw; (try dsimp only at hSw); go_simp; (try with_reducible rfl)
              simp only [Act.put, List.setIfInBounds_toArray, List.set_cons_zero, List.set_cons_succ]
              refine wpAnyH_done (by kernel_rfl) ?_ _
              clear hHeld KG
              have RB := hid RB3.out
              have HO := hid HO3.out
              have PG := hid PG3.out
              clear RB3 HO3 PG3
              have hyl : yv.length ≤ 100000 := get_len0 HK2.out HYF.out
              have KW := hid (fun (W : World) (hb : Below z3.heap.size z3 W) => rwithin_any W (.slice xa xv.length xc) (.slice ya yv.length yc) xv yv (AtAt.bel HX.out (hBW.out.trans ((RB.out.trans (hb.mono RB.out.size)).mono hBW.out.size))) (AtAt.bel HO.out hb) hxl hyl)
              have BL : Hid (∀ W, Below z3.heap.size z3 W → Below w3.heap.size w3 W) := fun W hb => hbel.out.trans ((RB.out.trans (hb.mono RB.out.size)).mono hbel.out.size)
              have BW : Hid (∀ W, Below z3.heap.size z3 W → Below w.heap.size w W) := fun W hb => hBW.out.trans ((RB.out.trans (hb.mono RB.out.size)).mono hBW.out.size)
              cases hg : M.getF t.fs xn with
              | none =>
                have HG := hid hg
                clear hg
                simp only [Option.isSome_none]
                have K7 : Hid (∀ W, Below z3.heap.size z3 W → (W.cell? ⟨w.heap.size, 0, none⟩ = some (.slice (some ⟨bb, o, none⟩) R.length c) ∧ W.cell? ⟨w.heap.size, 1, none⟩ = some (.slice b sn d) ∧ W.cell? ⟨w.heap.size + 1, 0, none⟩ = some (.slice a' Q.length c') ∧ W.cell? ⟨w.heap.size + 1, 1, none⟩ = some (.slice b' tn d') ∧ W.cell? ⟨bb, o + j * 3, none⟩ = some (.string xn) ∧ W.cell? ⟨bb, o + j * 3 + 1, none⟩ = some (.bool xs) ∧ W.cell? ⟨bb, o + j * 3 + 2, none⟩ = some (.slice xa xv.length xc) ∧ W.cell? ⟨wr.heap.size, 0, none⟩ = some (.string yn) ∧ W.cell? ⟨wr.heap.size, 1, none⟩ = some (.bool ys) ∧ W.cell? ⟨wr.heap.size, 2, none⟩ = some (.slice ya yv.length yc))) := fun W hb => by
                  obtain ⟨s1, s2, s3, s4, s5, s6, s7⟩ := KH.out W (RB.out.trans (hb.mono RB.out.size))
                  obtain ⟨p1, p2, p3, _⟩ := cells3 (bx_bel0 PG.out hb)
                  exact ⟨s1, s2, s3, s4, s5, s6, s7, p1, p2, p3⟩
                obtain ⟨s1, s2, s3, s4, s5, s6, s7, p1, p2, p3⟩ := K7.out _ (Below.refl _ _)
                go_wp2_with fail
                clear s1 s2 s3 s4 s5 s6 s7 p1 p2 p3
                refine wp_region_held_drew (S := fun W => W.cell? ⟨w.heap.size, 0, none⟩ = some (.slice (some ⟨bb, o, none⟩) R.length c) ∧ W.cell? ⟨w.heap.size, 1, none⟩ = some (.slice b sn d) ∧ W.cell? ⟨w.heap.size + 1, 0, none⟩ = some (.slice a' Q.length c') ∧ W.cell? ⟨w.heap.size + 1, 1, none⟩ = some (.slice b' tn d') ∧ W.cell? ⟨bb, o + j * 3, none⟩ = some (.string xn) ∧ W.cell? ⟨bb, o + j * 3 + 1, none⟩ = some (.bool xs) ∧ W.cell? ⟨bb, o + j * 3 + 2, none⟩ = some (.slice xa xv.length xc) ∧ W.cell? ⟨wr.heap.size, 0, none⟩ = some (.string yn) ∧ W.cell? ⟨wr.heap.size, 1, none⟩ = some (.bool ys) ∧ W.cell? ⟨wr.heap.size, 2, none⟩ = some (.slice ya yv.length yc)) (by kernel_rfl) (K7.out _ (Below.refl _ _).drew) (fun hHeld => ?_)
                have Q0 : Hid (Below z3.heap.size z3 z3.drew) := (Gr.refl _).drew.below
                refine wpAnyH_take (i := 0) (oi := { dst := some 45, op := Op.move (Operand.tmp 7), type := 4, pos := "ref.go:75", after := #[], guard := none }) (v := ?_) rfl (by kernel_rfl) (by kernel_rfl) (by kernel_rfl) (fun _ _ _ h => h) (Or.inl ⟨by rfl, ?_⟩) hHeld ?_
                rotate_left
                · intro w hSw; (try dsimp only at hSw); go_simp; (try with_reducible rfl)
                simp only [Act.put, List.setIfInBounds_toArray, List.set_cons_zero, List.set_cons_succ]
                refine wpAnyH_take (i := 1) (oi := { dst := some 46, op := Op.unOp UnOp.not 4 (Operand.tmp 45), type := 4, pos := "ref.go:75", after := #[{ on := 0, ground := Ground.data }], guard := none }) (v := ?_) rfl (by kernel_rfl) (by kernel_rfl) (by kernel_rfl) (fun _ _ _ h => h) (Or.inl ⟨by rfl, ?_⟩) hHeld ?_
                rotate_left
                · intro w hSw; (try dsimp only at hSw); go_simp; (try with_reducible rfl)
                simp only [Act.put, List.setIfInBounds_toArray, List.set_cons_zero, List.set_cons_succ]
                refine wpAnyH_take (i := 2) (oi := { dst := some 47, op := Op.move (Operand.tmp 46), type := 4, pos := "ref.go:75", after := #[{ on := 1, ground := Ground.data }], guard := none }) (v := ?_) rfl (by kernel_rfl) (by kernel_rfl) (by kernel_rfl) (fun _ _ _ h => h) (Or.inl ⟨by rfl, ?_⟩) hHeld ?_
                rotate_left
                · intro w hSw; (try dsimp only at hSw); go_simp; (try with_reducible rfl)
                simp only [Act.put, List.setIfInBounds_toArray, List.set_cons_zero, List.set_cons_succ]
                refine wpAnyH_take (i := 3) (oi := { dst := some 48, op := Op.fieldAddr 25 (Operand.tmp 2) 0, type := 0, pos := "ref.go:75", after := #[{ on := 2, ground := Ground.guard }], guard := some (2, false) }) (v := undef) rfl (by kernel_rfl) (by kernel_rfl) (by kernel_rfl) (fun _ _ _ h => h) (Or.inr ⟨by rfl, rfl⟩) hHeld ?_
                simp only [Act.put, List.setIfInBounds_toArray, List.set_cons_zero, List.set_cons_succ]
                refine wpAnyH_take (i := 4) (oi := { dst := some 49, op := Op.load 22 (Operand.tmp 48), type := 22, pos := "ref.go:75", after := #[{ on := 3, ground := Ground.data }, { on := 2, ground := Ground.guard }], guard := some (2, false) }) (v := undef) rfl (by kernel_rfl) (by kernel_rfl) (by kernel_rfl) (fun _ _ _ h => h) (Or.inr ⟨by rfl, rfl⟩) hHeld ?_
                simp only [Act.put, List.setIfInBounds_toArray, List.set_cons_zero, List.set_cons_succ]
                refine wpAnyH_take (i := 5) (oi := { dst := some 50, op := Op.move (Operand.tmp 5), type := 3, pos := "ref.go:75", after := #[{ on := 2, ground := Ground.guard }], guard := some (2, false) }) (v := undef) rfl (by kernel_rfl) (by kernel_rfl) (by kernel_rfl) (fun _ _ _ h => h) (Or.inr ⟨by rfl, rfl⟩) hHeld ?_
                simp only [Act.put, List.setIfInBounds_toArray, List.set_cons_zero, List.set_cons_succ]
                refine wpAnyH_take (i := 6) (oi := { dst := some 51, op := Op.indexAddr 22 (Operand.tmp 49) (Operand.tmp 50), type := 0, pos := "ref.go:75", after := #[{ on := 4, ground := Ground.data }, { on := 5, ground := Ground.data }, { on := 2, ground := Ground.guard }], guard := some (2, false) }) (v := undef) rfl (by kernel_rfl) (by kernel_rfl) (by kernel_rfl) (fun _ _ _ h => h) (Or.inr ⟨by rfl, rfl⟩) hHeld ?_
                simp only [Act.put, List.setIfInBounds_toArray, List.set_cons_zero, List.set_cons_succ]
                refine wpAnyH_take (i := 7) (oi := { dst := some 52, op := Op.fieldAddr 29 (Operand.tmp 51) 2, type := 0, pos := "ref.go:75", after := #[{ on := 6, ground := Ground.data }, { on := 2, ground := Ground.guard }], guard := some (2, false) }) (v := undef) rfl (by kernel_rfl) (by kernel_rfl) (by kernel_rfl) (fun _ _ _ h => h) (Or.inr ⟨by rfl, rfl⟩) hHeld ?_
                simp only [Act.put, List.setIfInBounds_toArray, List.set_cons_zero, List.set_cons_succ]
                refine wpAnyH_take (i := 8) (oi := { dst := some 53, op := Op.load 23 (Operand.tmp 52), type := 23, pos := "ref.go:75", after := #[{ on := 7, ground := Ground.data }, { on := 2, ground := Ground.guard }], guard := some (2, false) }) (v := undef) rfl (by kernel_rfl) (by kernel_rfl) (by kernel_rfl) (fun _ _ _ h => h) (Or.inr ⟨by rfl, rfl⟩) hHeld ?_
                simp only [Act.put, List.setIfInBounds_toArray, List.set_cons_zero, List.set_cons_succ]
                refine wpAnyH_take (i := 9) (oi := { dst := some 54, op := Op.fieldAddr 29 (Operand.tmp 6) 2, type := 0, pos := "ref.go:75", after := #[{ on := 2, ground := Ground.guard }], guard := some (2, false) }) (v := undef) rfl (by kernel_rfl) (by kernel_rfl) (by kernel_rfl) (fun _ _ _ h => h) (Or.inr ⟨by rfl, rfl⟩) hHeld ?_
                simp only [Act.put, List.setIfInBounds_toArray, List.set_cons_zero, List.set_cons_succ]
                refine wpAnyH_take (i := 10) (oi := { dst := some 55, op := Op.load 23 (Operand.tmp 54), type := 23, pos := "ref.go:75", after := #[{ on := 9, ground := Ground.data }, { on := 2, ground := Ground.guard }], guard := some (2, false) }) (v := undef) rfl (by kernel_rfl) (by kernel_rfl) (by kernel_rfl) (fun _ _ _ h => h) (Or.inr ⟨by rfl, rfl⟩) hHeld ?_
                simp only [Act.put, List.setIfInBounds_toArray, List.set_cons_zero, List.set_cons_succ]
                refine wpAnyH_take (i := 11) (oi := { dst := some 56, op := Op.call { callee := Callee.value (Operand.func 40), args := #[Operand.tmp 53, Operand.tmp 55], argTypes := #[23, 23] }, type := 4, pos := "ref.go:75", after := #[{ on := 8, ground := Ground.data }, { on := 10, ground := Ground.data }, { on := 2, ground := Ground.chain }, { on := 2, ground := Ground.guard }], guard := some (2, false) }) (v := undef) rfl (by kernel_rfl) (by kernel_rfl) (by kernel_rfl) (fun _ _ _ h => h) (Or.inr ⟨by rfl, rfl⟩) hHeld ?_
                simp only [Act.put, List.setIfInBounds_toArray, List.set_cons_zero, List.set_cons_succ]
                refine wpAnyH_take (i := 12) (oi := { dst := some 57, op := Op.unOp UnOp.not 4 (Operand.tmp 56), type := 4, pos := "ref.go:75", after := #[{ on := 11, ground := Ground.data }, { on := 2, ground := Ground.guard }], guard := some (2, false) }) (v := undef) rfl (by kernel_rfl) (by kernel_rfl) (by kernel_rfl) (fun _ _ _ h => h) (Or.inr ⟨by rfl, rfl⟩) hHeld ?_
                simp only [Act.put, List.setIfInBounds_toArray, List.set_cons_zero, List.set_cons_succ]
                refine wpAnyH_take (i := 13) (oi := { dst := some 58, op := Op.pick (Operand.tmp 47) (Operand.const (Value.bool true)) (Operand.tmp 57), type := 4, pos := "ref.go:75", after := #[{ on := 2, ground := Ground.data }, { on := 12, ground := Ground.data }], guard := none }) (v := ?_) rfl (by kernel_rfl) (by kernel_rfl) (by kernel_rfl) (fun _ _ _ h => h) (Or.inl ⟨by rfl, ?_⟩) hHeld ?_
                rotate_left
                · intro w hSw; (try dsimp only at hSw); go_simp; (try with_reducible rfl)
                simp only [Act.put, List.setIfInBounds_toArray, List.set_cons_zero, List.set_cons_succ]
                refine wpAnyH_take (i := 14) (oi := { dst := some 59, op := Op.move (Operand.tmp 58), type := 4, pos := "ref.go:75", after := #[{ on := 13, ground := Ground.data }, { on := 11, ground := Ground.chain }], guard := none }) (v := ?_) rfl (by kernel_rfl) (by kernel_rfl) (by kernel_rfl) (fun _ _ _ h => h) (Or.inl ⟨by rfl, ?_⟩) hHeld ?_
                rotate_left
                · intro w hSw; (try dsimp only at hSw); go_simp; (try with_reducible rfl)
                simp only [Act.put, List.setIfInBounds_toArray, List.set_cons_zero, List.set_cons_succ]
                refine wpAnyH_take (i := 15) (oi := { dst := some 60, op := Op.fieldAddr 29 (Operand.tmp 6) 1, type := 0, pos := "ref.go:75", after := #[{ on := 14, ground := Ground.guard }], guard := some (14, false) }) (v := undef) rfl (by kernel_rfl) (by kernel_rfl) (by kernel_rfl) (fun _ _ _ h => h) (Or.inr ⟨by rfl, rfl⟩) hHeld ?_
                simp only [Act.put, List.setIfInBounds_toArray, List.set_cons_zero, List.set_cons_succ]
                refine wpAnyH_take (i := 16) (oi := { dst := some 61, op := Op.load 4 (Operand.tmp 60), type := 4, pos := "ref.go:75", after := #[{ on := 15, ground := Ground.data }, { on := 14, ground := Ground.guard }], guard := some (14, false) }) (v := undef) rfl (by kernel_rfl) (by kernel_rfl) (by kernel_rfl) (fun _ _ _ h => h) (Or.inr ⟨by rfl, rfl⟩) hHeld ?_
                simp only [Act.put, List.setIfInBounds_toArray, List.set_cons_zero, List.set_cons_succ]
                refine wpAnyH_take (i := 17) (oi := { dst := some 62, op := Op.move (Operand.tmp 61), type := 4, pos := "ref.go:75", after := #[{ on := 16, ground := Ground.data }, { on := 14, ground := Ground.chain }, { on := 14, ground := Ground.guard }], guard := some (14, false) }) (v := undef) rfl (by kernel_rfl) (by kernel_rfl) (by kernel_rfl) (fun _ _ _ h => h) (Or.inr ⟨by rfl, rfl⟩) hHeld ?_
                simp only [Act.put, List.setIfInBounds_toArray, List.set_cons_zero, List.set_cons_succ]
                refine wpAnyH_take (i := 18) (oi := { dst := some 63, op := Op.fieldAddr 25 (Operand.tmp 2) 0, type := 0, pos := "ref.go:75", after := #[{ on := 17, ground := Ground.guard }], guard := some (17, true) }) (v := undef) rfl (by kernel_rfl) (by kernel_rfl) (by kernel_rfl) (fun _ _ _ h => h) (Or.inr ⟨by rfl, rfl⟩) hHeld ?_
                simp only [Act.put, List.setIfInBounds_toArray, List.set_cons_zero, List.set_cons_succ]
                refine wpAnyH_take (i := 19) (oi := { dst := some 64, op := Op.load 22 (Operand.tmp 63), type := 22, pos := "ref.go:75", after := #[{ on := 18, ground := Ground.data }, { on := 17, ground := Ground.guard }], guard := some (17, true) }) (v := undef) rfl (by kernel_rfl) (by kernel_rfl) (by kernel_rfl) (fun _ _ _ h => h) (Or.inr ⟨by rfl, rfl⟩) hHeld ?_
                simp only [Act.put, List.setIfInBounds_toArray, List.set_cons_zero, List.set_cons_succ]
                refine wpAnyH_take (i := 20) (oi := { dst := some 65, op := Op.move (Operand.tmp 5), type := 3, pos := "ref.go:75", after := #[{ on := 17, ground := Ground.guard }], guard := some (17, true) }) (v := undef) rfl (by kernel_rfl) (by kernel_rfl) (by kernel_rfl) (fun _ _ _ h => h) (Or.inr ⟨by rfl, rfl⟩) hHeld ?_
                simp only [Act.put, List.setIfInBounds_toArray, List.set_cons_zero, List.set_cons_succ]
                refine wpAnyH_take (i := 21) (oi := { dst := some 66, op := Op.indexAddr 22 (Operand.tmp 64) (Operand.tmp 65), type := 0, pos := "ref.go:75", after := #[{ on := 19, ground := Ground.data }, { on := 20, ground := Ground.data }, { on := 17, ground := Ground.guard }], guard := some (17, true) }) (v := undef) rfl (by kernel_rfl) (by kernel_rfl) (by kernel_rfl) (fun _ _ _ h => h) (Or.inr ⟨by rfl, rfl⟩) hHeld ?_
                simp only [Act.put, List.setIfInBounds_toArray, List.set_cons_zero, List.set_cons_succ]
                refine wpAnyH_take (i := 22) (oi := { dst := some 67, op := Op.fieldAddr 29 (Operand.tmp 66) 1, type := 0, pos := "ref.go:75", after := #[{ on := 21, ground := Ground.data }, { on := 17, ground := Ground.guard }], guard := some (17, true) }) (v := undef) rfl (by kernel_rfl) (by kernel_rfl) (by kernel_rfl) (fun _ _ _ h => h) (Or.inr ⟨by rfl, rfl⟩) hHeld ?_
                simp only [Act.put, List.setIfInBounds_toArray, List.set_cons_zero, List.set_cons_succ]
                refine wpAnyH_take (i := 23) (oi := { dst := some 68, op := Op.load 4 (Operand.tmp 67), type := 4, pos := "ref.go:75", after := #[{ on := 22, ground := Ground.data }, { on := 17, ground := Ground.guard }], guard := some (17, true) }) (v := undef) rfl (by kernel_rfl) (by kernel_rfl) (by kernel_rfl) (fun _ _ _ h => h) (Or.inr ⟨by rfl, rfl⟩) hHeld ?_
                simp only [Act.put, List.setIfInBounds_toArray, List.set_cons_zero, List.set_cons_succ]
                refine wpAnyH_take (i := 24) (oi := { dst := some 69, op := Op.unOp UnOp.not 4 (Operand.tmp 68), type := 4, pos := "ref.go:75", after := #[{ on := 23, ground := Ground.data }, { on := 17, ground := Ground.guard }], guard := some (17, true) }) (v := undef) rfl (by kernel_rfl) (by kernel_rfl) (by kernel_rfl) (fun _ _ _ h => h) (Or.inr ⟨by rfl, rfl⟩) hHeld ?_
                simp only [Act.put, List.setIfInBounds_toArray, List.set_cons_zero, List.set_cons_succ]
                refine wpAnyH_take (i := 25) (oi := { dst := some 70, op := Op.pick (Operand.tmp 62) (Operand.tmp 69) (Operand.const (Value.bool false)), type := 4, pos := "ref.go:75", after := #[{ on := 17, ground := Ground.data }, { on := 24, ground := Ground.data }, { on := 14, ground := Ground.guard }], guard := some (14, false) }) (v := undef) rfl (by kernel_rfl) (by kernel_rfl) (by kernel_rfl) (fun _ _ _ h => h) (Or.inr ⟨by rfl, rfl⟩) hHeld ?_
                simp only [Act.put, List.setIfInBounds_toArray, List.set_cons_zero, List.set_cons_succ]
                refine wpAnyH_take (i := 26) (oi := { dst := some 71, op := Op.pick (Operand.tmp 59) (Operand.const (Value.bool true)) (Operand.tmp 70), type := 4, pos := "ref.go:75", after := #[{ on := 14, ground := Ground.data }, { on := 25, ground := Ground.data }], guard := none }) (v := ?_) rfl (by kernel_rfl) (by kernel_rfl) (by kernel_rfl) (fun _ _ _ h => h) (Or.inl ⟨by rfl, ?_⟩) hHeld ?_
                rotate_left
                · intro w hSw; (try dsimp only at hSw); go_simp; (try with_reducible rfl)
                simp only [Act.put, List.setIfInBounds_toArray, List.set_cons_zero, List.set_cons_succ]
                refine wpAnyH_done (by kernel_rfl) ?_ _
                clear hHeld
                go_wp2
                go_ret
                exact ⟨ret_bool (by rw [← HRES.out, MS.out, MT.out, HWS.out, MW.out, inA_no hjl HXE.out (by rw [← HF.out.2, HG.out]; rfl)]; rfl), BW.out _ Q0.out⟩
              | some q =>
                have hq : (⟨yn, ys, yv⟩ : M.Fld) = q := by rw [hg] at HYF; exact HYF.out
                subst hq
                have HIO : Hid (M.inO (some ⟨xn, xs, xv⟩) (M.getF (fldOf Q) xn) = (M.within xv yv && (!ys || xs))) := by unfold Hid; rw [← HF.out.2, hg]; rfl
                clear hg HYF
                simp only [Option.isSome_some]
                cases hw : M.within xv yv with
                | false =>
                  have HW := hid hw
                  clear hw
                  have K7 : Hid (∀ W, Below z3.heap.size z3 W → (W.cell? ⟨w.heap.size, 0, none⟩ = some (.slice (some ⟨bb, o, none⟩) R.length c) ∧ W.cell? ⟨w.heap.size, 1, none⟩ = some (.slice b sn d) ∧ W.cell? ⟨w.heap.size + 1, 0, none⟩ = some (.slice a' Q.length c') ∧ W.cell? ⟨w.heap.size + 1, 1, none⟩ = some (.slice b' tn d') ∧ W.cell? ⟨bb, o + j * 3, none⟩ = some (.string xn) ∧ W.cell? ⟨bb, o + j * 3 + 1, none⟩ = some (.bool xs) ∧ W.cell? ⟨bb, o + j * 3 + 2, none⟩ = some (.slice xa xv.length xc) ∧ W.cell? ⟨wr.heap.size, 0, none⟩ = some (.string yn) ∧ W.cell? ⟨wr.heap.size, 1, none⟩ = some (.bool ys) ∧ W.cell? ⟨wr.heap.size, 2, none⟩ = some (.slice ya yv.length yc))) := fun W hb => by
                    obtain ⟨s1, s2, s3, s4, s5, s6, s7⟩ := KH.out W (RB.out.trans (hb.mono RB.out.size))
                    obtain ⟨p1, p2, p3, _⟩ := cells3 (bx_bel0 PG.out hb)
                    exact ⟨s1, s2, s3, s4, s5, s6, s7, p1, p2, p3⟩
                  obtain ⟨s1, s2, s3, s4, s5, s6, s7, p1, p2, p3⟩ := K7.out _ (Below.refl _ _)
                  go_wp2_with fail
                  clear s1 s2 s3 s4 s5 s6 s7 p1 p2 p3
                  refine wp_region_held_drew (S := fun W => W.cell? ⟨w.heap.size, 0, none⟩ = some (.slice (some ⟨bb, o, none⟩) R.length c) ∧ W.cell? ⟨w.heap.size, 1, none⟩ = some (.slice b sn d) ∧ W.cell? ⟨w.heap.size + 1, 0, none⟩ = some (.slice a' Q.length c') ∧ W.cell? ⟨w.heap.size + 1, 1, none⟩ = some (.slice b' tn d') ∧ W.cell? ⟨bb, o + j * 3, none⟩ = some (.string xn) ∧ W.cell? ⟨bb, o + j * 3 + 1, none⟩ = some (.bool xs) ∧ W.cell? ⟨bb, o + j * 3 + 2, none⟩ = some (.slice xa xv.length xc) ∧ W.cell? ⟨wr.heap.size, 0, none⟩ = some (.string yn) ∧ W.cell? ⟨wr.heap.size, 1, none⟩ = some (.bool ys) ∧ W.cell? ⟨wr.heap.size, 2, none⟩ = some (.slice ya yv.length yc)) (by kernel_rfl) (K7.out _ (Below.refl _ _).drew) (fun hHeld => ?_)
                  have Q0 : Hid (Below z3.heap.size z3 z3.drew) := (Gr.refl _).drew.below
                  refine wpAnyH_take (i := 0) (oi := { dst := some 45, op := Op.move (Operand.tmp 7), type := 4, pos := "ref.go:75", after := #[], guard := none }) (v := ?_) rfl (by kernel_rfl) (by kernel_rfl) (by kernel_rfl) (fun _ _ _ h => h) (Or.inl ⟨by rfl, ?_⟩) hHeld ?_
                  rotate_left
                  · intro w hSw; (try dsimp only at hSw); go_simp; (try with_reducible rfl)
                  simp only [Act.put, List.setIfInBounds_toArray, List.set_cons_zero, List.set_cons_succ]
                  refine wpAnyH_take (i := 1) (oi := { dst := some 46, op := Op.unOp UnOp.not 4 (Operand.tmp 45), type := 4, pos := "ref.go:75", after := #[{ on := 0, ground := Ground.data }], guard := none }) (v := ?_) rfl (by kernel_rfl) (by kernel_rfl) (by kernel_rfl) (fun _ _ _ h => h) (Or.inl ⟨by rfl, ?_⟩) hHeld ?_
                  rotate_left
                  · intro w hSw; (try dsimp only at hSw); go_simp; (try with_reducible rfl)
                  simp only [Act.put, List.setIfInBounds_toArray, List.set_cons_zero, List.set_cons_succ]
                  refine wpAnyH_take (i := 2) (oi := { dst := some 47, op := Op.move (Operand.tmp 46), type := 4, pos := "ref.go:75", after := #[{ on := 1, ground := Ground.data }], guard := none }) (v := ?_) rfl (by kernel_rfl) (by kernel_rfl) (by kernel_rfl) (fun _ _ _ h => h) (Or.inl ⟨by rfl, ?_⟩) hHeld ?_
                  rotate_left
                  · intro w hSw; (try dsimp only at hSw); go_simp; (try with_reducible rfl)
                  simp only [Act.put, List.setIfInBounds_toArray, List.set_cons_zero, List.set_cons_succ]
                  refine wpAnyH_take (i := 3) (oi := { dst := some 48, op := Op.fieldAddr 25 (Operand.tmp 2) 0, type := 0, pos := "ref.go:75", after := #[{ on := 2, ground := Ground.guard }], guard := some (2, false) }) (v := ?_) rfl (by kernel_rfl) (by kernel_rfl) (by kernel_rfl) (fun _ _ _ h => h) (Or.inl ⟨by rfl, ?_⟩) hHeld ?_
                  rotate_left
                  · intro w hSw; (try dsimp only at hSw); go_simp; (try with_reducible rfl)
                  simp only [Act.put, List.setIfInBounds_toArray, List.set_cons_zero, List.set_cons_succ]
                  refine wpAnyH_take (i := 4) (oi := { dst := some 49, op := Op.load 22 (Operand.tmp 48), type := 22, pos := "ref.go:75", after := #[{ on := 3, ground := Ground.data }, { on := 2, ground := Ground.guard }], guard := some (2, false) }) (v := ?_) rfl (by kernel_rfl) (by kernel_rfl) (by kernel_rfl) (fun _ _ _ h => h) (Or.inl ⟨by rfl, ?_⟩) hHeld ?_
                  rotate_left
                  · intro w hSw; (try dsimp only at hSw); go_simp; (try with_reducible rfl)
                  simp only [Act.put, List.setIfInBounds_toArray, List.set_cons_zero, List.set_cons_succ]
                  refine wpAnyH_take (i := 5) (oi := { dst := some 50, op := Op.move (Operand.tmp 5), type := 3, pos := "ref.go:75", after := #[{ on := 2, ground := Ground.guard }], guard := some (2, false) }) (v := ?_) rfl (by kernel_rfl) (by kernel_rfl) (by kernel_rfl) (fun _ _ _ h => h) (Or.inl ⟨by rfl, ?_⟩) hHeld ?_
                  rotate_left
                  · intro w hSw; (try dsimp only at hSw); go_simp; (try with_reducible rfl)
                  simp only [Act.put, List.setIfInBounds_toArray, List.set_cons_zero, List.set_cons_succ]
                  refine wpAnyH_take (i := 6) (oi := { dst := some 51, op := Op.indexAddr 22 (Operand.tmp 49) (Operand.tmp 50), type := 0, pos := "ref.go:75", after := #[{ on := 4, ground := Ground.data }, { on := 5, ground := Ground.data }, { on := 2, ground := Ground.guard }], guard := some (2, false) }) (v := ?_) rfl (by kernel_rfl) (by kernel_rfl) (by kernel_rfl) (fun _ _ _ h => h) (Or.inl ⟨by rfl, ?_⟩) hHeld ?_
                  rotate_left
                  · intro w hSw; (try dsimp only at hSw); go_simp; (try with_reducible rfl)
                  simp only [Act.put, List.setIfInBounds_toArray, List.set_cons_zero, List.set_cons_succ]
                  refine wpAnyH_take (i := 7) (oi := { dst := some 52, op := Op.fieldAddr 29 (Operand.tmp 51) 2, type := 0, pos := "ref.go:75", after := #[{ on := 6, ground := Ground.data }, { on := 2, ground := Ground.guard }], guard := some (2, false) }) (v := ?_) rfl (by kernel_rfl) (by kernel_rfl) (by kernel_rfl) (fun _ _ _ h => h) (Or.inl ⟨by rfl, ?_⟩) hHeld ?_
                  rotate_left
                  · intro w hSw; (try dsimp only at hSw); go_simp; (try with_reducible rfl)
                  simp only [Act.put, List.setIfInBounds_toArray, List.set_cons_zero, List.set_cons_succ]
                  refine wpAnyH_take (i := 8) (oi := { dst := some 53, op := Op.load 23 (Operand.tmp 52), type := 23, pos := "ref.go:75", after := #[{ on := 7, ground := Ground.data }, { on := 2, ground := Ground.guard }], guard := some (2, false) }) (v := ?_) rfl (by kernel_rfl) (by kernel_rfl) (by kernel_rfl) (fun _ _ _ h => h) (Or.inl ⟨by rfl, ?_⟩) hHeld ?_
                  rotate_left
                  · intro w hSw; (try dsimp only at hSw); go_simp; (try with_reducible rfl)
                  simp only [Act.put, List.setIfInBounds_toArray, List.set_cons_zero, List.set_cons_succ]
                  refine wpAnyH_take (i := 9) (oi := { dst := some 54, op := Op.fieldAddr 29 (Operand.tmp 6) 2, type := 0, pos := "ref.go:75", after := #[{ on := 2, ground := Ground.guard }], guard := some (2, false) }) (v := ?_) rfl (by kernel_rfl) (by kernel_rfl) (by kernel_rfl) (fun _ _ _ h => h) (Or.inl ⟨by rfl, ?_⟩) hHeld ?_
                  rotate_left
                  · intro w hSw; (try dsimp only at hSw); go_simp; (try with_reducible rfl)
                  simp only [Act.put, List.setIfInBounds_toArray, List.set_cons_zero, List.set_cons_succ]
                  refine wpAnyH_take (i := 10) (oi := { dst := some 55, op := Op.load 23 (Operand.tmp 54), type := 23, pos := "ref.go:75", after := #[{ on := 9, ground := Ground.data }, { on := 2, ground := Ground.guard }], guard := some (2, false) }) (v := ?_) rfl (by kernel_rfl) (by kernel_rfl) (by kernel_rfl) (fun _ _ _ h => h) (Or.inl ⟨by rfl, ?_⟩) hHeld ?_
                  rotate_left
                  · intro w hSw; (try dsimp only at hSw); go_simp; (try with_reducible rfl)
                  simp only [Act.put, List.setIfInBounds_toArray, List.set_cons_zero, List.set_cons_succ]
                  refine wpAnyH_ready (rs := [11]) (by kernel_rfl) (by simp) ?_
                  refine AllReadyH.cons (o := { dst := some 56, op := Op.call { callee := Callee.value (Operand.func 40), args := #[Operand.tmp 53, Operand.tmp 55], argTypes := #[23, 23] }, type := 4, pos := "ref.go:75", after := #[{ on := 8, ground := Ground.data }, { on := 10, ground := Ground.data }, { on := 2, ground := Ground.chain }, { on := 2, ground := Ground.guard }], guard := some (2, false) }) rfl (fun K hK => ?_) AllReadyH.nil
                  go_simp
                  refine (KW.out _ Q0.out).mono ?_
                  rw [HW.out]
                  rintro e zz ⟨rfl, hb⟩
                  have Q1 : Hid (Below z3.heap.size z3 zz) := Q0.out.trans (hb.mono Q0.out.size)
                  clear hb Q0
                  refine hK.out _ _ (K7.out _ Q1.out) (fun hHeld => ?_)
                  clear hK
                  refine wpAnyH_take (i := 12) (oi := { dst := some 57, op := Op.unOp UnOp.not 4 (Operand.tmp 56), type := 4, pos := "ref.go:75", after := #[{ on := 11, ground := Ground.data }, { on := 2, ground := Ground.guard }], guard := some (2, false) }) (v := ?_) rfl (by kernel_rfl) (by kernel_rfl) (by kernel_rfl) (fun _ _ _ h => h) (Or.inl ⟨by rfl, ?_⟩) hHeld ?_
                  rotate_left
                  · intro w hSw; (try dsimp only at hSw); go_simp; (try with_reducible rfl)
                  simp only [Act.put, List.setIfInBounds_toArray, List.set_cons_zero, List.set_cons_succ]
                  refine wpAnyH_take (i := 13) (oi := { dst := some 58, op := Op.pick (Operand.tmp 47) (Operand.const (Value.bool true)) (Operand.tmp 57), type := 4, pos := "ref.go:75", after := #[{ on := 2, ground := Ground.data }, { on := 12, ground := Ground.data }], guard := none }) (v := ?_) rfl (by kernel_rfl) (by kernel_rfl) (by kernel_rfl) (fun _ _ _ h => h) (Or.inl ⟨by rfl, ?_⟩) hHeld ?_
                  rotate_left
                  · intro w hSw; (try dsimp only at hSw); go_simp; (try with_reducible rfl)
                  simp only [Act.put, List.setIfInBounds_toArray, List.set_cons_zero, List.set_cons_succ]
                  refine wpAnyH_take (i := 14) (oi := { dst := some 59, op := Op.move (Operand.tmp 58), type := 4, pos := "ref.go:75", after := #[{ on := 13, ground := Ground.data }, { on := 11, ground := Ground.chain }], guard := none }) (v := ?_) rfl (by kernel_rfl) (by kernel_rfl) (by kernel_rfl) (fun _ _ _ h => h) (Or.inl ⟨by rfl, ?_⟩) hHeld ?_
                  rotate_left
                  · intro w hSw; (try dsimp only at hSw); go_simp; (try with_reducible rfl)
                  simp only [Act.put, List.setIfInBounds_toArray, List.set_cons_zero, List.set_cons_succ]
                  refine wpAnyH_take (i := 15) (oi := { dst := some 60, op := Op.fieldAddr 29 (Operand.tmp 6) 1, type := 0, pos := "ref.go:75", after := #[{ on := 14, ground := Ground.guard }], guard := some (14, false) }) (v := undef) rfl (by kernel_rfl) (by kernel_rfl) (by kernel_rfl) (fun _ _ _ h => h) (Or.inr ⟨by rfl, rfl⟩) hHeld ?_
                  simp only [Act.put, List.setIfInBounds_toArray, List.set_cons_zero, List.set_cons_succ]
                  refine wpAnyH_take (i := 16) (oi := { dst := some 61, op := Op.load 4 (Operand.tmp 60), type := 4, pos := "ref.go:75", after := #[{ on := 15, ground := Ground.data }, { on := 14, ground := Ground.guard }], guard := some (14, false) }) (v := undef) rfl (by kernel_rfl) (by kernel_rfl) (by kernel_rfl) (fun _ _ _ h => h) (Or.inr ⟨by rfl, rfl⟩) hHeld ?_
                  simp only [Act.put, List.setIfInBounds_toArray, List.set_cons_zero, List.set_cons_succ]
                  refine wpAnyH_take (i := 17) (oi := { dst := some 62, op := Op.move (Operand.tmp 61), type := 4, pos := "ref.go:75", after := #[{ on := 16, ground := Ground.data }, { on := 14, ground := Ground.chain }, { on := 14, ground := Ground.guard }], guard := some (14, false) }) (v := undef) rfl (by kernel_rfl) (by kernel_rfl) (by kernel_rfl) (fun _ _ _ h => h) (Or.inr ⟨by rfl, rfl⟩) hHeld ?_
                  simp only [Act.put, List.setIfInBounds_toArray, List.set_cons_zero, List.set_cons_succ]
                  refine wpAnyH_take (i := 18) (oi := { dst := some 63, op := Op.fieldAddr 25 (Operand.tmp 2) 0, type := 0, pos := "ref.go:75", after := #[{ on := 17, ground := Ground.guard }], guard := some (17, true) }) (v := undef) rfl (by kernel_rfl) (by kernel_rfl) (by kernel_rfl) (fun _ _ _ h => h) (Or.inr ⟨by rfl, rfl⟩) hHeld ?_
                  simp only [Act.put, List.setIfInBounds_toArray, List.set_cons_zero, List.set_cons_succ]
                  refine wpAnyH_take (i := 19) (oi := { dst := some 64, op := Op.load 22 (Operand.tmp 63), type := 22, pos := "ref.go:75", after := #[{ on := 18, ground := Ground.data }, { on := 17, ground := Ground.guard }], guard := some (17, true) }) (v := undef) rfl (by kernel_rfl) (by kernel_rfl) (by kernel_rfl) (fun _ _ _ h => h) (Or.inr ⟨by rfl, rfl⟩) hHeld ?_
                  simp only [Act.put, List.setIfInBounds_toArray, List.set_cons_zero, List.set_cons_succ]
                  refine wpAnyH_take (i := 20) (oi := { dst := some 65, op := Op.move (Operand.tmp 5), type := 3, pos := "ref.go:75", after := #[{ on := 17, ground := Ground.guard }], guard := some (17, true) }) (v := undef) rfl (by kernel_rfl) (by kernel_rfl) (by kernel_rfl) (fun _ _ _ h => h) (Or.inr ⟨by rfl, rfl⟩) hHeld ?_
                  simp only [Act.put, List.setIfInBounds_toArray, List.set_cons_zero, List.set_cons_succ]
                  refine wpAnyH_take (i := 21) (oi := { dst := some 66, op := Op.indexAddr 22 (Operand.tmp 64) (Operand.tmp 65), type := 0, pos := "ref.go:75", after := #[{ on := 19, ground := Ground.data }, { on := 20, ground := Ground.data }, { on := 17, ground := Ground.guard }], guard := some (17, true) }) (v := undef) rfl (by kernel_rfl) (by kernel_rfl) (by kernel_rfl) (fun _ _ _ h => h) (Or.inr ⟨by rfl, rfl⟩) hHeld ?_
                  simp only [Act.put, List.setIfInBounds_toArray, List.set_cons_zero, List.set_cons_succ]
                  refine wpAnyH_take (i := 22) (oi := { dst := some 67, op := Op.fieldAddr 29 (Operand.tmp 66) 1, type := 0, pos := "ref.go:75", after := #[{ on := 21, ground := Ground.data }, { on := 17, ground := Ground.guard }], guard := some (17, true) }) (v := undef) rfl (by kernel_rfl) (by kernel_rfl) (by kernel_rfl) (fun _ _ _ h => h) (Or.inr ⟨by rfl, rfl⟩) hHeld ?_
                  simp only [Act.put, List.setIfInBounds_toArray, List.set_cons_zero, List.set_cons_succ]
                  refine wpAnyH_take (i := 23) (oi := { dst := some 68, op := Op.load 4 (Operand.tmp 67), type := 4, pos := "ref.go:75", after := #[{ on := 22, ground := Ground.data }, { on := 17, ground := Ground.guard }], guard := some (17, true) }) (v := undef) rfl (by kernel_rfl) (by kernel_rfl) (by kernel_rfl) (fun _ _ _ h => h) (Or.inr ⟨by rfl, rfl⟩) hHeld ?_
                  simp only [Act.put, List.setIfInBounds_toArray, List.set_cons_zero, List.set_cons_succ]
                  refine wpAnyH_take (i := 24) (oi := { dst := some 69, op := Op.unOp UnOp.not 4 (Operand.tmp 68), type := 4, pos := "ref.go:75", after := #[{ on := 23, ground := Ground.data }, { on := 17, ground := Ground.guard }], guard := some (17, true) }) (v := undef) rfl (by kernel_rfl) (by kernel_rfl) (by kernel_rfl) (fun _ _ _ h => h) (Or.inr ⟨by rfl, rfl⟩) hHeld ?_
                  simp only [Act.put, List.setIfInBounds_toArray, List.set_cons_zero, List.set_cons_succ]
                  refine wpAnyH_take (i := 25) (oi := { dst := some 70, op := Op.pick (Operand.tmp 62) (Operand.tmp 69) (Operand.const (Value.bool false)), type := 4, pos := "ref.go:75", after := #[{ on := 17, ground := Ground.data }, { on := 24, ground := Ground.data }, { on := 14, ground := Ground.guard }], guard := some (14, false) }) (v := undef) rfl (by kernel_rfl) (by kernel_rfl) (by kernel_rfl) (fun _ _ _ h => h) (Or.inr ⟨by rfl, rfl⟩) hHeld ?_
                  simp only [Act.put, List.setIfInBounds_toArray, List.set_cons_zero, List.set_cons_succ]
                  refine wpAnyH_take (i := 26) (oi := { dst := some 71, op := Op.pick (Operand.tmp 59) (Operand.const (Value.bool true)) (Operand.tmp 70), type := 4, pos := "ref.go:75", after := #[{ on := 14, ground := Ground.data }, { on := 25, ground := Ground.data }], guard := none }) (v := ?_) rfl (by kernel_rfl) (by kernel_rfl) (by kernel_rfl) (fun _ _ _ h => h) (Or.inl ⟨by rfl, ?_⟩) hHeld ?_
                  rotate_left
                  · intro w hSw; (try dsimp only at hSw); go_simp; (try with_reducible rfl)
                  simp only [Act.put, List.setIfInBounds_toArray, List.set_cons_zero, List.set_cons_succ]
                  refine wpAnyH_done (by kernel_rfl) ?_ _
                  clear hHeld
                  go_wp2
                  go_ret
                  exact ⟨ret_bool (by rw [← HRES.out, MS.out, MT.out, HWS.out, MW.out, inA_no hjl HXE.out (by rw [HIO.out, HW.out]; rfl)]; rfl), BW.out _ Q1.out⟩
                | true =>
                  have HW := hid hw
                  clear hw
                  rcases ys with _ | _
                  · have K7 : Hid (∀ W, Below z3.heap.size z3 W → (W.cell? ⟨w.heap.size, 0, none⟩ = some (.slice (some ⟨bb, o, none⟩) R.length c) ∧ W.cell? ⟨w.heap.size, 1, none⟩ = some (.slice b sn d) ∧ W.cell? ⟨w.heap.size + 1, 0, none⟩ = some (.slice a' Q.length c') ∧ W.cell? ⟨w.heap.size + 1, 1, none⟩ = some (.slice b' tn d') ∧ W.cell? ⟨bb, o + j * 3, none⟩ = some (.string xn) ∧ W.cell? ⟨bb, o + j * 3 + 1, none⟩ = some (.bool xs) ∧ W.cell? ⟨bb, o + j * 3 + 2, none⟩ = some (.slice xa xv.length xc) ∧ W.cell? ⟨wr.heap.size, 0, none⟩ = some (.string yn) ∧ W.cell? ⟨wr.heap.size, 1, none⟩ = some (.bool false) ∧ W.cell? ⟨wr.heap.size, 2, none⟩ = some (.slice ya yv.length yc))) := fun W hb => by
                      obtain ⟨s1, s2, s3, s4, s5, s6, s7⟩ := KH.out W (RB.out.trans (hb.mono RB.out.size))
                      obtain ⟨p1, p2, p3, _⟩ := cells3 (bx_bel0 PG.out hb)
                      exact ⟨s1, s2, s3, s4, s5, s6, s7, p1, p2, p3⟩
                    obtain ⟨s1, s2, s3, s4, s5, s6, s7, p1, p2, p3⟩ := K7.out _ (Below.refl _ _)
                    go_wp2_with fail
                    clear s1 s2 s3 s4 s5 s6 s7 p1 p2 p3
                    refine wp_region_held_drew (S := fun W => W.cell? ⟨w.heap.size, 0, none⟩ = some (.slice (some ⟨bb, o, none⟩) R.length c) ∧ W.cell? ⟨w.heap.size, 1, none⟩ = some (.slice b sn d) ∧ W.cell? ⟨w.heap.size + 1, 0, none⟩ = some (.slice a' Q.length c') ∧ W.cell? ⟨w.heap.size + 1, 1, none⟩ = some (.slice b' tn d') ∧ W.cell? ⟨bb, o + j * 3, none⟩ = some (.string xn) ∧ W.cell? ⟨bb, o + j * 3 + 1, none⟩ = some (.bool xs) ∧ W.cell? ⟨bb, o + j * 3 + 2, none⟩ = some (.slice xa xv.length xc) ∧ W.cell? ⟨wr.heap.size, 0, none⟩ = some (.string yn) ∧ W.cell? ⟨wr.heap.size, 1, none⟩ = some (.bool false) ∧ W.cell? ⟨wr.heap.size, 2, none⟩ = some (.slice ya yv.length yc)) (by kernel_rfl) (K7.out _ (Below.refl _ _).drew) (fun hHeld => ?_)
                    have Q0 : Hid (Below z3.heap.size z3 z3.drew) := (Gr.refl _).drew.below
                    refine wpAnyH_take (i := 0) (oi := { dst := some 45, op := Op.move (Operand.tmp 7), type := 4, pos := "ref.go:75", after := #[], guard := none }) (v := ?_) rfl (by kernel_rfl) (by kernel_rfl) (by kernel_rfl) (fun _ _ _ h => h) (Or.inl ⟨by rfl, ?_⟩) hHeld ?_
                    rotate_left
                    · intro w hSw; (try dsimp only at hSw); go_simp; (try with_reducible rfl)
                    simp only [Act.put, List.setIfInBounds_toArray, List.set_cons_zero, List.set_cons_succ]
                    refine wpAnyH_take (i := 1) (oi := { dst := some 46, op := Op.unOp UnOp.not 4 (Operand.tmp 45), type := 4, pos := "ref.go:75", after := #[{ on := 0, ground := Ground.data }], guard := none }) (v := ?_) rfl (by kernel_rfl) (by kernel_rfl) (by kernel_rfl) (fun _ _ _ h => h) (Or.inl ⟨by rfl, ?_⟩) hHeld ?_
                    rotate_left
                    · intro w hSw; (try dsimp only at hSw); go_simp; (try with_reducible rfl)
                    simp only [Act.put, List.setIfInBounds_toArray, List.set_cons_zero, List.set_cons_succ]
                    refine wpAnyH_take (i := 2) (oi := { dst := some 47, op := Op.move (Operand.tmp 46), type := 4, pos := "ref.go:75", after := #[{ on := 1, ground := Ground.data }], guard := none }) (v := ?_) rfl (by kernel_rfl) (by kernel_rfl) (by kernel_rfl) (fun _ _ _ h => h) (Or.inl ⟨by rfl, ?_⟩) hHeld ?_
                    rotate_left
                    · intro w hSw; (try dsimp only at hSw); go_simp; (try with_reducible rfl)
                    simp only [Act.put, List.setIfInBounds_toArray, List.set_cons_zero, List.set_cons_succ]
                    refine wpAnyH_take (i := 3) (oi := { dst := some 48, op := Op.fieldAddr 25 (Operand.tmp 2) 0, type := 0, pos := "ref.go:75", after := #[{ on := 2, ground := Ground.guard }], guard := some (2, false) }) (v := ?_) rfl (by kernel_rfl) (by kernel_rfl) (by kernel_rfl) (fun _ _ _ h => h) (Or.inl ⟨by rfl, ?_⟩) hHeld ?_
                    rotate_left
                    · intro w hSw; (try dsimp only at hSw); go_simp; (try with_reducible rfl)
                    simp only [Act.put, List.setIfInBounds_toArray, List.set_cons_zero, List.set_cons_succ]
                    refine wpAnyH_take (i := 4) (oi := { dst := some 49, op := Op.load 22 (Operand.tmp 48), type := 22, pos := "ref.go:75", after := #[{ on := 3, ground := Ground.data }, { on := 2, ground := Ground.guard }], guard := some (2, false) }) (v := ?_) rfl (by kernel_rfl) (by kernel_rfl) (by kernel_rfl) (fun _ _ _ h => h) (Or.inl ⟨by rfl, ?_⟩) hHeld ?_
                    rotate_left
                    · intro w hSw; (try dsimp only at hSw); go_simp; (try with_reducible rfl)
                    simp only [Act.put, List.setIfInBounds_toArray, List.set_cons_zero, List.set_cons_succ]
                    refine wpAnyH_take (i := 5) (oi := { dst := some 50, op := Op.move (Operand.tmp 5), type := 3, pos := "ref.go:75", after := #[{ on := 2, ground := Ground.guard }], guard := some (2, false) }) (v := ?_) rfl (by kernel_rfl) (by kernel_rfl) (by kernel_rfl) (fun _ _ _ h => h) (Or.inl ⟨by rfl, ?_⟩) hHeld ?_
                    rotate_left
                    · intro w hSw; (try dsimp only at hSw); go_simp; (try with_reducible rfl)
                    simp only [Act.put, List.setIfInBounds_toArray, List.set_cons_zero, List.set_cons_succ]
                    refine wpAnyH_take (i := 6) (oi := { dst := some 51, op := Op.indexAddr 22 (Operand.tmp 49) (Operand.tmp 50), type := 0, pos := "ref.go:75", after := #[{ on := 4, ground := Ground.data }, { on := 5, ground := Ground.data }, { on := 2, ground := Ground.guard }], guard := some (2, false) }) (v := ?_) rfl (by kernel_rfl) (by kernel_rfl) (by kernel_rfl) (fun _ _ _ h => h) (Or.inl ⟨by rfl, ?_⟩) hHeld ?_
                    rotate_left
                    · intro w hSw; (try dsimp only at hSw); go_simp; (try with_reducible rfl)
                    simp only [Act.put, List.setIfInBounds_toArray, List.set_cons_zero, List.set_cons_succ]
                    refine wpAnyH_take (i := 7) (oi := { dst := some 52, op := Op.fieldAddr 29 (Operand.tmp 51) 2, type := 0, pos := "ref.go:75", after := #[{ on := 6, ground := Ground.data }, { on := 2, ground := Ground.guard }], guard := some (2, false) }) (v := ?_) rfl (by kernel_rfl) (by kernel_rfl) (by kernel_rfl) (fun _ _ _ h => h) (Or.inl ⟨by rfl, ?_⟩) hHeld ?_
                    rotate_left
                    · intro w hSw; (try dsimp only at hSw); go_simp; (try with_reducible rfl)
                    simp only [Act.put, List.setIfInBounds_toArray, List.set_cons_zero, List.set_cons_succ]
                    refine wpAnyH_take (i := 8) (oi := { dst := some 53, op := Op.load 23 (Operand.tmp 52), type := 23, pos := "ref.go:75", after := #[{ on := 7, ground := Ground.data }, { on := 2, ground := Ground.guard }], guard := some (2, false) }) (v := ?_) rfl (by kernel_rfl) (by kernel_rfl) (by kernel_rfl) (fun _ _ _ h => h) (Or.inl ⟨by rfl, ?_⟩) hHeld ?_
                    rotate_left
                    · intro w hSw; (try dsimp only at hSw); go_simp; (try with_reducible rfl)
                    simp only [Act.put, List.setIfInBounds_toArray, List.set_cons_zero, List.set_cons_succ]
                    refine wpAnyH_take (i := 9) (oi := { dst := some 54, op := Op.fieldAddr 29 (Operand.tmp 6) 2, type := 0, pos := "ref.go:75", after := #[{ on := 2, ground := Ground.guard }], guard := some (2, false) }) (v := ?_) rfl (by kernel_rfl) (by kernel_rfl) (by kernel_rfl) (fun _ _ _ h => h) (Or.inl ⟨by rfl, ?_⟩) hHeld ?_
                    rotate_left
                    · intro w hSw; (try dsimp only at hSw); go_simp; (try with_reducible rfl)
                    simp only [Act.put, List.setIfInBounds_toArray, List.set_cons_zero, List.set_cons_succ]
                    refine wpAnyH_take (i := 10) (oi := { dst := some 55, op := Op.load 23 (Operand.tmp 54), type := 23, pos := "ref.go:75", after := #[{ on := 9, ground := Ground.data }, { on := 2, ground := Ground.guard }], guard := some (2, false) }) (v := ?_) rfl (by kernel_rfl) (by kernel_rfl) (by kernel_rfl) (fun _ _ _ h => h) (Or.inl ⟨by rfl, ?_⟩) hHeld ?_
                    rotate_left
                    · intro w hSw; (try dsimp only at hSw); go_simp; (try with_reducible rfl)
                    simp only [Act.put, List.setIfInBounds_toArray, List.set_cons_zero, List.set_cons_succ]
                    refine wpAnyH_ready (rs := [11]) (by kernel_rfl) (by simp) ?_
                    refine AllReadyH.cons (o := { dst := some 56, op := Op.call { callee := Callee.value (Operand.func 40), args := #[Operand.tmp 53, Operand.tmp 55], argTypes := #[23, 23] }, type := 4, pos := "ref.go:75", after := #[{ on := 8, ground := Ground.data }, { on := 10, ground := Ground.data }, { on := 2, ground := Ground.chain }, { on := 2, ground := Ground.guard }], guard := some (2, false) }) rfl (fun K hK => ?_) AllReadyH.nil
                    go_simp
                    refine (KW.out _ Q0.out).mono ?_
                    rw [HW.out]
                    rintro e zz ⟨rfl, hb⟩
                    have Q1 : Hid (Below z3.heap.size z3 zz) := Q0.out.trans (hb.mono Q0.out.size)
                    clear hb Q0
                    refine hK.out _ _ (K7.out _ Q1.out) (fun hHeld => ?_)
                    clear hK
                    refine wpAnyH_take (i := 12) (oi := { dst := some 57, op := Op.unOp UnOp.not 4 (Operand.tmp 56), type := 4, pos := "ref.go:75", after := #[{ on := 11, ground := Ground.data }, { on := 2, ground := Ground.guard }], guard := some (2, false) }) (v := ?_) rfl (by kernel_rfl) (by kernel_rfl) (by kernel_rfl) (fun _ _ _ h => h) (Or.inl ⟨by rfl, ?_⟩) hHeld ?_
                    rotate_left
                    · intro w hSw; (try dsimp only at hSw); go_simp; (try with_reducible rfl)
                    simp only [Act.put, List.setIfInBounds_toArray, List.set_cons_zero, List.set_cons_succ]
                    refine wpAnyH_take (i := 13) (oi := { dst := some 58, op := Op.pick (Operand.tmp 47) (Operand.const (Value.bool true)) (Operand.tmp 57), type := 4, pos := "ref.go:75", after := #[{ on := 2, ground := Ground.data }, { on := 12, ground := Ground.data }], guard := none }) (v := ?_) rfl (by kernel_rfl) (by kernel_rfl) (by kernel_rfl) (fun _ _ _ h => h) (Or.inl ⟨by rfl, ?_⟩) hHeld ?_
                    rotate_left
                    · intro w hSw; (try dsimp only at hSw); go_simp; (try with_reducible rfl)
                    simp only [Act.put, List.setIfInBounds_toArray, List.set_cons_zero, List.set_cons_succ]
                    refine wpAnyH_take (i := 14) (oi := { dst := some 59, op := Op.move (Operand.tmp 58), type := 4, pos := "ref.go:75", after := #[{ on := 13, ground := Ground.data }, { on := 11, ground := Ground.chain }], guard := none }) (v := ?_) rfl (by kernel_rfl) (by kernel_rfl) (by kernel_rfl) (fun _ _ _ h => h) (Or.inl ⟨by rfl, ?_⟩) hHeld ?_
                    rotate_left
                    · intro w hSw; (try dsimp only at hSw); go_simp; (try with_reducible rfl)
                    simp only [Act.put, List.setIfInBounds_toArray, List.set_cons_zero, List.set_cons_succ]
                    refine wpAnyH_take (i := 15) (oi := { dst := some 60, op := Op.fieldAddr 29 (Operand.tmp 6) 1, type := 0, pos := "ref.go:75", after := #[{ on := 14, ground := Ground.guard }], guard := some (14, false) }) (v := ?_) rfl (by kernel_rfl) (by kernel_rfl) (by kernel_rfl) (fun _ _ _ h => h) (Or.inl ⟨by rfl, ?_⟩) hHeld ?_
                    rotate_left
                    · intro w hSw; (try dsimp only at hSw); go_simp; (try with_reducible rfl)
                    simp only [Act.put, List.setIfInBounds_toArray, List.set_cons_zero, List.set_cons_succ]
                    refine wpAnyH_take (i := 16) (oi := { dst := some 61, op := Op.load 4 (Operand.tmp 60), type := 4, pos := "ref.go:75", after := #[{ on := 15, ground := Ground.data }, { on := 14, ground := Ground.guard }], guard := some (14, false) }) (v := ?_) rfl (by kernel_rfl) (by kernel_rfl) (by kernel_rfl) (fun _ _ _ h => h) (Or.inl ⟨by rfl, ?_⟩) hHeld ?_
                    rotate_left
                    · intro w hSw; (try dsimp only at hSw); go_simp; (try with_reducible rfl)
                    simp only [Act.put, List.setIfInBounds_toArray, List.set_cons_zero, List.set_cons_succ]
                    refine wpAnyH_take (i := 17) (oi := { dst := some 62, op := Op.move (Operand.tmp 61), type := 4, pos := "ref.go:75", after := #[{ on := 16, ground := Ground.data }, { on := 14, ground := Ground.chain }, { on := 14, ground := Ground.guard }], guard := some (14, false) }) (v := ?_) rfl (by kernel_rfl) (by kernel_rfl) (by kernel_rfl) (fun _ _ _ h => h) (Or.inl ⟨by rfl, ?_⟩) hHeld ?_
                    rotate_left
                    · intro w hSw; (try dsimp only at hSw); go_simp; (try with_reducible rfl)
                    simp only [Act.put, List.setIfInBounds_toArray, List.set_cons_zero, List.set_cons_succ]
                    refine wpAnyH_take (i := 18) (oi := { dst := some 63, op := Op.fieldAddr 25 (Operand.tmp 2) 0, type := 0, pos := "ref.go:75", after := #[{ on := 17, ground := Ground.guard }], guard := some (17, true) }) (v := undef) rfl (by kernel_rfl) (by kernel_rfl) (by kernel_rfl) (fun _ _ _ h => h) (Or.inr ⟨by rfl, rfl⟩) hHeld ?_
                    simp only [Act.put, List.setIfInBounds_toArray, List.set_cons_zero, List.set_cons_succ]
                    refine wpAnyH_take (i := 19) (oi := { dst := some 64, op := Op.load 22 (Operand.tmp 63), type := 22, pos := "ref.go:75", after := #[{ on := 18, ground := Ground.data }, { on := 17, ground := Ground.guard }], guard := some (17, true) }) (v := undef) rfl (by kernel_rfl) (by kernel_rfl) (by kernel_rfl) (fun _ _ _ h => h) (Or.inr ⟨by rfl, rfl⟩) hHeld ?_
                    simp only [Act.put, List.setIfInBounds_toArray, List.set_cons_zero, List.set_cons_succ]
                    refine wpAnyH_take (i := 20) (oi := { dst := some 65, op := Op.move (Operand.tmp 5), type := 3, pos := "ref.go:75", after := #[{ on := 17, ground := Ground.guard }], guard := some (17, true) }) (v := undef) rfl (by kernel_rfl) (by kernel_rfl) (by kernel_rfl) (fun _ _ _ h => h) (Or.inr ⟨by rfl, rfl⟩) hHeld ?_
                    simp only [Act.put, List.setIfInBounds_toArray, List.set_cons_zero, List.set_cons_succ]
                    refine wpAnyH_take (i := 21) (oi := { dst := some 66, op := Op.indexAddr 22 (Operand.tmp 64) (Operand.tmp 65), type := 0, pos := "ref.go:75", after := #[{ on := 19, ground := Ground.data }, { on := 20, ground := Ground.data }, { on := 17, ground := Ground.guard }], guard := some (17, true) }) (v := undef) rfl (by kernel_rfl) (by kernel_rfl) (by kernel_rfl) (fun _ _ _ h => h) (Or.inr ⟨by rfl, rfl⟩) hHeld ?_
                    simp only [Act.put, List.setIfInBounds_toArray, List.set_cons_zero, List.set_cons_succ]
                    refine wpAnyH_take (i := 22) (oi := { dst := some 67, op := Op.fieldAddr 29 (Operand.tmp 66) 1, type := 0, pos := "ref.go:75", after := #[{ on := 21, ground := Ground.data }, { on := 17, ground := Ground.guard }], guard := some (17, true) }) (v := undef) rfl (by kernel_rfl) (by kernel_rfl) (by kernel_rfl) (fun _ _ _ h => h) (Or.inr ⟨by rfl, rfl⟩) hHeld ?_
                    simp only [Act.put, List.setIfInBounds_toArray, List.set_cons_zero, List.set_cons_succ]
                    refine wpAnyH_take (i := 23) (oi := { dst := some 68, op := Op.load 4 (Operand.tmp 67), type := 4, pos := "ref.go:75", after := #[{ on := 22, ground := Ground.data }, { on := 17, ground := Ground.guard }], guard := some (17, true) }) (v := undef) rfl (by kernel_rfl) (by kernel_rfl) (by kernel_rfl) (fun _ _ _ h => h) (Or.inr ⟨by rfl, rfl⟩) hHeld ?_
                    simp only [Act.put, List.setIfInBounds_toArray, List.set_cons_zero, List.set_cons_succ]
                    refine wpAnyH_take (i := 24) (oi := { dst := some 69, op := Op.unOp UnOp.not 4 (Operand.tmp 68), type := 4, pos := "ref.go:75", after := #[{ on := 23, ground := Ground.data }, { on := 17, ground := Ground.guard }], guard := some (17, true) }) (v := undef) rfl (by kernel_rfl) (by kernel_rfl) (by kernel_rfl) (fun _ _ _ h => h) (Or.inr ⟨by rfl, rfl⟩) hHeld ?_
                    simp only [Act.put, List.setIfInBounds_toArray, List.set_cons_zero, List.set_cons_succ]
                    refine wpAnyH_take (i := 25) (oi := { dst := some 70, op := Op.pick (Operand.tmp 62) (Operand.tmp 69) (Operand.const (Value.bool false)), type := 4, pos := "ref.go:75", after := #[{ on := 17, ground := Ground.data }, { on := 24, ground := Ground.data }, { on := 14, ground := Ground.guard }], guard := some (14, false) }) (v := ?_) rfl (by kernel_rfl) (by kernel_rfl) (by kernel_rfl) (fun _ _ _ h => h) (Or.inl ⟨by rfl, ?_⟩) hHeld ?_
                    rotate_left
                    · intro w hSw; (try dsimp only at hSw); go_simp; (try with_reducible rfl)
                    simp only [Act.put, List.setIfInBounds_toArray, List.set_cons_zero, List.set_cons_succ]
                    refine wpAnyH_take (i := 26) (oi := { dst := some 71, op := Op.pick (Operand.tmp 59) (Operand.const (Value.bool true)) (Operand.tmp 70), type := 4, pos := "ref.go:75", after := #[{ on := 14, ground := Ground.data }, { on := 25, ground := Ground.data }], guard := none }) (v := ?_) rfl (by kernel_rfl) (by kernel_rfl) (by kernel_rfl) (fun _ _ _ h => h) (Or.inl ⟨by rfl, ?_⟩) hHeld ?_
                    rotate_left
                    · intro w hSw; (try dsimp only at hSw); go_simp; (try with_reducible rfl)
                    simp only [Act.put, List.setIfInBounds_toArray, List.set_cons_zero, List.set_cons_succ]
                    refine wpAnyH_done (by kernel_rfl) ?_ _
                    clear hHeld
                    go_wp2
                    exact ⟨⟨j + 1, by omega, by go_num, inA_step hm.out hjl HXE.out (by rw [HIO.out, HW.out]; rfl), BL.out _ Q1.out⟩, by simp [intOf]; omega⟩
                  · rcases xs with _ | _
                    · have K7 : Hid (∀ W, Below z3.heap.size z3 W → (W.cell? ⟨w.heap.size, 0, none⟩ = some (.slice (some ⟨bb, o, none⟩) R.length c) ∧ W.cell? ⟨w.heap.size, 1, none⟩ = some (.slice b sn d) ∧ W.cell? ⟨w.heap.size + 1, 0, none⟩ = some (.slice a' Q.length c') ∧ W.cell? ⟨w.heap.size + 1, 1, none⟩ = some (.slice b' tn d') ∧ W.cell? ⟨bb, o + j * 3, none⟩ = some (.string xn) ∧ W.cell? ⟨bb, o + j * 3 + 1, none⟩ = some (.bool false) ∧ W.cell? ⟨bb, o + j * 3 + 2, none⟩ = some (.slice xa xv.length xc) ∧ W.cell? ⟨wr.heap.size, 0, none⟩ = some (.string yn) ∧ W.cell? ⟨wr.heap.size, 1, none⟩ = some (.bool true) ∧ W.cell? ⟨wr.heap.size, 2, none⟩ = some (.slice ya yv.length yc))) := fun W hb => by
                        obtain ⟨s1, s2, s3, s4, s5, s6, s7⟩ := KH.out W (RB.out.trans (hb.mono RB.out.size))
                        obtain ⟨p1, p2, p3, _⟩ := cells3 (bx_bel0 PG.out hb)
                        exact ⟨s1, s2, s3, s4, s5, s6, s7, p1, p2, p3⟩
                      obtain ⟨s1, s2, s3, s4, s5, s6, s7, p1, p2, p3⟩ := K7.out _ (Below.refl _ _)
                      go_wp2_with fail
                      clear s1 s2 s3 s4 s5 s6 s7 p1 p2 p3
                      refine wp_region_held_drew (S := fun W => W.cell? ⟨w.heap.size, 0, none⟩ = some (.slice (some ⟨bb, o, none⟩) R.length c) ∧ W.cell? ⟨w.heap.size, 1, none⟩ = some (.slice b sn d) ∧ W.cell? ⟨w.heap.size + 1, 0, none⟩ = some (.slice a' Q.length c') ∧ W.cell? ⟨w.heap.size + 1, 1, none⟩ = some (.slice b' tn d') ∧ W.cell? ⟨bb, o + j * 3, none⟩ = some (.string xn) ∧ W.cell? ⟨bb, o + j * 3 + 1, none⟩ = some (.bool false) ∧ W.cell? ⟨bb, o + j * 3 + 2, none⟩ = some (.slice xa xv.length xc) ∧ W.cell? ⟨wr.heap.size, 0, none⟩ = some (.string yn) ∧ W.cell? ⟨wr.heap.size, 1, none⟩ = some (.bool true) ∧ W.cell? ⟨wr.heap.size, 2, none⟩ = some (.slice ya yv.length yc)) (by kernel_rfl) (K7.out _ (Below.refl _ _).drew) (fun hHeld => ?_)
                      have Q0 : Hid (Below z3.heap.size z3 z3.drew) := (Gr.refl _).drew.below
                      refine wpAnyH_take (i := 0) (oi := { dst := some 45, op := Op.move (Operand.tmp 7), type := 4, pos := "ref.go:75", after := #[], guard := none }) (v := ?_) rfl (by kernel_rfl) (by kernel_rfl) (by kernel_rfl) (fun _ _ _ h => h) (Or.inl ⟨by rfl, ?_⟩) hHeld ?_
                      rotate_left
                      · intro w hSw; (try dsimp only at hSw); go_simp; (try with_reducible rfl)
                      simp only [Act.put, List.setIfInBounds_toArray, List.set_cons_zero, List.set_cons_succ]
                      refine wpAnyH_take (i := 1) (oi := { dst := some 46, op := Op.unOp UnOp.not 4 (Operand.tmp 45), type := 4, pos := "ref.go:75", after := #[{ on := 0, ground := Ground.data }], guard := none }) (v := ?_) rfl (by kernel_rfl) (by kernel_rfl) (by kernel_rfl) (fun _ _ _ h => h) (Or.inl ⟨by rfl, ?_⟩) hHeld ?_
                      rotate_left
                      · intro w hSw; (try dsimp only at hSw); go_simp; (try with_reducible rfl)
                      simp only [Act.put, List.setIfInBounds_toArray, List.set_cons_zero, List.set_cons_succ]
                      refine wpAnyH_take (i := 2) (oi := { dst := some 47, op := Op.move (Operand.tmp 46), type := 4, pos := "ref.go:75", after := #[{ on := 1, ground := Ground.data }], guard := none }) (v := ?_) rfl (by kernel_rfl) (by kernel_rfl) (by kernel_rfl) (fun _ _ _ h => h) (Or.inl ⟨by rfl, ?_⟩) hHeld ?_
                      rotate_left
                      · intro w hSw; (try dsimp only at hSw); go_simp; (try with_reducible rfl)
                      simp only [Act.put, List.setIfInBounds_toArray, List.set_cons_zero, List.set_cons_succ]
                      refine wpAnyH_take (i := 3) (oi := { dst := some 48, op := Op.fieldAddr 25 (Operand.tmp 2) 0, type := 0, pos := "ref.go:75", after := #[{ on := 2, ground := Ground.guard }], guard := some (2, false) }) (v := ?_) rfl (by kernel_rfl) (by kernel_rfl) (by kernel_rfl) (fun _ _ _ h => h) (Or.inl ⟨by rfl, ?_⟩) hHeld ?_
                      rotate_left
                      · intro w hSw; (try dsimp only at hSw); go_simp; (try with_reducible rfl)
                      simp only [Act.put, List.setIfInBounds_toArray, List.set_cons_zero, List.set_cons_succ]
                      refine wpAnyH_take (i := 4) (oi := { dst := some 49, op := Op.load 22 (Operand.tmp 48), type := 22, pos := "ref.go:75", after := #[{ on := 3, ground := Ground.data }, { on := 2, ground := Ground.guard }], guard := some (2, false) }) (v := ?_) rfl (by kernel_rfl) (by kernel_rfl) (by kernel_rfl) (fun _ _ _ h => h) (Or.inl ⟨by rfl, ?_⟩) hHeld ?_
                      rotate_left
                      · intro w hSw; (try dsimp only at hSw); go_simp; (try with_reducible rfl)
                      simp only [Act.put, List.setIfInBounds_toArray, List.set_cons_zero, List.set_cons_succ]
                      refine wpAnyH_take (i := 5) (oi := { dst := some 50, op := Op.move (Operand.tmp 5), type := 3, pos := "ref.go:75", after := #[{ on := 2, ground := Ground.guard }], guard := some (2, false) }) (v := ?_) rfl (by kernel_rfl) (by kernel_rfl) (by kernel_rfl) (fun _ _ _ h => h) (Or.inl ⟨by rfl, ?_⟩) hHeld ?_
                      rotate_left
                      · intro w hSw; (try dsimp only at hSw); go_simp; (try with_reducible rfl)
                      simp only [Act.put, List.setIfInBounds_toArray, List.set_cons_zero, List.set_cons_succ]
                      refine wpAnyH_take (i := 6) (oi := { dst := some 51, op := Op.indexAddr 22 (Operand.tmp 49) (Operand.tmp 50), type := 0, pos := "ref.go:75", after := #[{ on := 4, ground := Ground.data }, { on := 5, ground := Ground.data }, { on := 2, ground := Ground.guard }], guard := some (2, false) }) (v := ?_) rfl (by kernel_rfl) (by kernel_rfl) (by kernel_rfl) (fun _ _ _ h => h) (Or.inl ⟨by rfl, ?_⟩) hHeld ?_
                      rotate_left
                      · intro w hSw; (try dsimp only at hSw); go_simp; (try with_reducible rfl)
                      simp only [Act.put, List.setIfInBounds_toArray, List.set_cons_zero, List.set_cons_succ]
                      refine wpAnyH_take (i := 7) (oi := { dst := some 52, op := Op.fieldAddr 29 (Operand.tmp 51) 2, type := 0, pos := "ref.go:75", after := #[{ on := 6, ground := Ground.data }, { on := 2, ground := Ground.guard }], guard := some (2, false) }) (v := ?_) rfl (by kernel_rfl) (by kernel_rfl) (by kernel_rfl) (fun _ _ _ h => h) (Or.inl ⟨by rfl, ?_⟩) hHeld ?_
                      rotate_left
                      · intro w hSw; (try dsimp only at hSw); go_simp; (try with_reducible rfl)
                      simp only [Act.put, List.setIfInBounds_toArray, List.set_cons_zero, List.set_cons_succ]
                      refine wpAnyH_take (i := 8) (oi := { dst := some 53, op := Op.load 23 (Operand.tmp 52), type := 23, pos := "ref.go:75", after := #[{ on := 7, ground := Ground.data }, { on := 2, ground := Ground.guard }], guard := some (2, false) }) (v := ?_) rfl (by kernel_rfl) (by kernel_rfl) (by kernel_rfl) (fun _ _ _ h => h) (Or.inl ⟨by rfl, ?_⟩) hHeld ?_
                      rotate_left
                      · intro w hSw; (try dsimp only at hSw); go_simp; (try with_reducible rfl)
                      simp only [Act.put, List.setIfInBounds_toArray, List.set_cons_zero, List.set_cons_succ]
                      refine wpAnyH_take (i := 9) (oi := { dst := some 54, op := Op.fieldAddr 29 (Operand.tmp 6) 2, type := 0, pos := "ref.go:75", after := #[{ on := 2, ground := Ground.guard }], guard := some (2, false) }) (v := ?_) rfl (by kernel_rfl) (by kernel_rfl) (by kernel_rfl) (fun _ _ _ h => h) (Or.inl ⟨by rfl, ?_⟩) hHeld ?_
                      rotate_left
                      · intro w hSw; (try dsimp only at hSw); go_simp; (try with_reducible rfl)
                      simp only [Act.put, List.setIfInBounds_toArray, List.set_cons_zero, List.set_cons_succ]
                      refine wpAnyH_take (i := 10) (oi := { dst := some 55, op := Op.load 23 (Operand.tmp 54), type := 23, pos := "ref.go:75", after := #[{ on := 9, ground := Ground.data }, { on := 2, ground := Ground.guard }], guard := some (2, false) }) (v := ?_) rfl (by kernel_rfl) (by kernel_rfl) (by kernel_rfl) (fun _ _ _ h => h) (Or.inl ⟨by rfl, ?_⟩) hHeld ?_
                      rotate_left
                      · intro w hSw; (try dsimp only at hSw); go_simp; (try with_reducible rfl)
                      simp only [Act.put, List.setIfInBounds_toArray, List.set_cons_zero, List.set_cons_succ]
                      refine wpAnyH_ready (rs := [11]) (by kernel_rfl) (by simp) ?_
                      refine AllReadyH.cons (o := { dst := some 56, op := Op.call { callee := Callee.value (Operand.func 40), args := #[Operand.tmp 53, Operand.tmp 55], argTypes := #[23, 23] }, type := 4, pos := "ref.go:75", after := #[{ on := 8, ground := Ground.data }, { on := 10, ground := Ground.data }, { on := 2, ground := Ground.chain }, { on := 2, ground := Ground.guard }], guard := some (2, false) }) rfl (fun K hK => ?_) AllReadyH.nil
                      go_simp
                      refine (KW.out _ Q0.out).mono ?_
                      rw [HW.out]
                      rintro e zz ⟨rfl, hb⟩
                      have Q1 : Hid (Below z3.heap.size z3 zz) := Q0.out.trans (hb.mono Q0.out.size)
                      clear hb Q0
                      refine hK.out _ _ (K7.out _ Q1.out) (fun hHeld => ?_)
                      clear hK
                      refine wpAnyH_take (i := 12) (oi := { dst := some 57, op := Op.unOp UnOp.not 4 (Operand.tmp 56), type := 4, pos := "ref.go:75", after := #[{ on := 11, ground := Ground.data }, { on := 2, ground := Ground.guard }], guard := some (2, false) }) (v := ?_) rfl (by kernel_rfl) (by kernel_rfl) (by kernel_rfl) (fun _ _ _ h => h) (Or.inl ⟨by rfl, ?_⟩) hHeld ?_
                      rotate_left
                      · intro w hSw; (try dsimp only at hSw); go_simp; (try with_reducible rfl)
                      simp only [Act.put, List.setIfInBounds_toArray, List.set_cons_zero, List.set_cons_succ]
                      refine wpAnyH_take (i := 13) (oi := { dst := some 58, op := Op.pick (Operand.tmp 47) (Operand.const (Value.bool true)) (Operand.tmp 57), type := 4, pos := "ref.go:75", after := #[{ on := 2, ground := Ground.data }, { on := 12, ground := Ground.data }], guard := none }) (v := ?_) rfl (by kernel_rfl) (by kernel_rfl) (by kernel_rfl) (fun _ _ _ h => h) (Or.inl ⟨by rfl, ?_⟩) hHeld ?_
                      rotate_left
                      · intro w hSw; (try dsimp only at hSw); go_simp; (try with_reducible rfl)
                      simp only [Act.put, List.setIfInBounds_toArray, List.set_cons_zero, List.set_cons_succ]
                      refine wpAnyH_take (i := 14) (oi := { dst := some 59, op := Op.move (Operand.tmp 58), type := 4, pos := "ref.go:75", after := #[{ on := 13, ground := Ground.data }, { on := 11, ground := Ground.chain }], guard := none }) (v := ?_) rfl (by kernel_rfl) (by kernel_rfl) (by kernel_rfl) (fun _ _ _ h => h) (Or.inl ⟨by rfl, ?_⟩) hHeld ?_
                      rotate_left
                      · intro w hSw; (try dsimp only at hSw); go_simp; (try with_reducible rfl)
                      simp only [Act.put, List.setIfInBounds_toArray, List.set_cons_zero, List.set_cons_succ]
                      refine wpAnyH_take (i := 15) (oi := { dst := some 60, op := Op.fieldAddr 29 (Operand.tmp 6) 1, type := 0, pos := "ref.go:75", after := #[{ on := 14, ground := Ground.guard }], guard := some (14, false) }) (v := ?_) rfl (by kernel_rfl) (by kernel_rfl) (by kernel_rfl) (fun _ _ _ h => h) (Or.inl ⟨by rfl, ?_⟩) hHeld ?_
                      rotate_left
                      · intro w hSw; (try dsimp only at hSw); go_simp; (try with_reducible rfl)
                      simp only [Act.put, List.setIfInBounds_toArray, List.set_cons_zero, List.set_cons_succ]
                      refine wpAnyH_take (i := 16) (oi := { dst := some 61, op := Op.load 4 (Operand.tmp 60), type := 4, pos := "ref.go:75", after := #[{ on := 15, ground := Ground.data }, { on := 14, ground := Ground.guard }], guard := some (14, false) }) (v := ?_) rfl (by kernel_rfl) (by kernel_rfl) (by kernel_rfl) (fun _ _ _ h => h) (Or.inl ⟨by rfl, ?_⟩) hHeld ?_
                      rotate_left
                      · intro w hSw; (try dsimp only at hSw); go_simp; (try with_reducible rfl)
                      simp only [Act.put, List.setIfInBounds_toArray, List.set_cons_zero, List.set_cons_succ]
                      refine wpAnyH_take (i := 17) (oi := { dst := some 62, op := Op.move (Operand.tmp 61), type := 4, pos := "ref.go:75", after := #[{ on := 16, ground := Ground.data }, { on := 14, ground := Ground.chain }, { on := 14, ground := Ground.guard }], guard := some (14, false) }) (v := ?_) rfl (by kernel_rfl) (by kernel_rfl) (by kernel_rfl) (fun _ _ _ h => h) (Or.inl ⟨by rfl, ?_⟩) hHeld ?_
                      rotate_left
                      · intro w hSw; (try dsimp only at hSw); go_simp; (try with_reducible rfl)
                      simp only [Act.put, List.setIfInBounds_toArray, List.set_cons_zero, List.set_cons_succ]
                      refine wpAnyH_take (i := 18) (oi := { dst := some 63, op := Op.fieldAddr 25 (Operand.tmp 2) 0, type := 0, pos := "ref.go:75", after := #[{ on := 17, ground := Ground.guard }], guard := some (17, true) }) (v := ?_) rfl (by kernel_rfl) (by kernel_rfl) (by kernel_rfl) (fun _ _ _ h => h) (Or.inl ⟨by rfl, ?_⟩) hHeld ?_
                      rotate_left
                      · intro w hSw; (try dsimp only at hSw); go_simp; (try with_reducible rfl)
                      simp only [Act.put, List.setIfInBounds_toArray, List.set_cons_zero, List.set_cons_succ]
                      refine wpAnyH_take (i := 19) (oi := { dst := some 64, op := Op.load 22 (Operand.tmp 63), type := 22, pos := "ref.go:75", after := #[{ on := 18, ground := Ground.data }, { on := 17, ground := Ground.guard }], guard := some (17, true) }) (v := ?_) rfl (by kernel_rfl) (by kernel_rfl) (by kernel_rfl) (fun _ _ _ h => h) (Or.inl ⟨by rfl, ?_⟩) hHeld ?_
                      rotate_left
                      · intro w hSw; (try dsimp only at hSw); go_simp; (try with_reducible rfl)
                      simp only [Act.put, List.setIfInBounds_toArray, List.set_cons_zero, List.set_cons_succ]
                      refine wpAnyH_take (i := 20) (oi := { dst := some 65, op := Op.move (Operand.tmp 5), type := 3, pos := "ref.go:75", after := #[{ on := 17, ground := Ground.guard }], guard := some (17, true) }) (v := ?_) rfl (by kernel_rfl) (by kernel_rfl) (by kernel_rfl) (fun _ _ _ h => h) (Or.inl ⟨by rfl, ?_⟩) hHeld ?_
                      rotate_left
                      · intro w hSw; (try dsimp only at hSw); go_simp; (try with_reducible rfl)
                      simp only [Act.put, List.setIfInBounds_toArray, List.set_cons_zero, List.set_cons_succ]
                      refine wpAnyH_take (i := 21) (oi := { dst := some 66, op := Op.indexAddr 22 (Operand.tmp 64) (Operand.tmp 65), type := 0, pos := "ref.go:75", after := #[{ on := 19, ground := Ground.data }, { on := 20, ground := Ground.data }, { on := 17, ground := Ground.guard }], guard := some (17, true) }) (v := ?_) rfl (by kernel_rfl) (by kernel_rfl) (by kernel_rfl) (fun _ _ _ h => h) (Or.inl ⟨by rfl, ?_⟩) hHeld ?_
                      rotate_left
                      · intro w hSw; (try dsimp only at hSw); go_simp; (try with_reducible rfl)
                      simp only [Act.put, List.setIfInBounds_toArray, List.set_cons_zero, List.set_cons_succ]
                      refine wpAnyH_take (i := 22) (oi := { dst := some 67, op := Op.fieldAddr 29 (Operand.tmp 66) 1, type := 0, pos := "ref.go:75", after := #[{ on := 21, ground := Ground.data }, { on := 17, ground := Ground.guard }], guard := some (17, true) }) (v := ?_) rfl (by kernel_rfl) (by kernel_rfl) (by kernel_rfl) (fun _ _ _ h => h) (Or.inl ⟨by rfl, ?_⟩) hHeld ?_
                      rotate_left
                      · intro w hSw; (try dsimp only at hSw); go_simp; (try with_reducible rfl)
                      simp only [Act.put, List.setIfInBounds_toArray, List.set_cons_zero, List.set_cons_succ]
                      refine wpAnyH_take (i := 23) (oi := { dst := some 68, op := Op.load 4 (Operand.tmp 67), type := 4, pos := "ref.go:75", after := #[{ on := 22, ground := Ground.data }, { on := 17, ground := Ground.guard }], guard := some (17, true) }) (v := ?_) rfl (by kernel_rfl) (by kernel_rfl) (by kernel_rfl) (fun _ _ _ h => h) (Or.inl ⟨by rfl, ?_⟩) hHeld ?_
                      rotate_left
                      · intro w hSw; (try dsimp only at hSw); go_simp; (try with_reducible rfl)
                      simp only [Act.put, List.setIfInBounds_toArray, List.set_cons_zero, List.set_cons_succ]
                      refine wpAnyH_take (i := 24) (oi := { dst := some 69, op := Op.unOp UnOp.not 4 (Operand.tmp 68), type := 4, pos := "ref.go:75", after := #[{ on := 23, ground := Ground.data }, { on := 17, ground := Ground.guard }], guard := some (17, true) }) (v := ?_) rfl (by kernel_rfl) (by kernel_rfl) (by kernel_rfl) (fun _ _ _ h => h) (Or.inl ⟨by rfl, ?_⟩) hHeld ?_
                      rotate_left
                      · intro w hSw; (try dsimp only at hSw); go_simp; (try with_reducible rfl)
                      simp only [Act.put, List.setIfInBounds_toArray, List.set_cons_zero, List.set_cons_succ]
                      refine wpAnyH_take (i := 25) (oi := { dst := some 70, op := Op.pick (Operand.tmp 62) (Operand.tmp 69) (Operand.const (Value.bool false)), type := 4, pos := "ref.go:75", after := #[{ on := 17, ground := Ground.data }, { on := 24, ground := Ground.data }, { on := 14, ground := Ground.guard }], guard := some (14, false) }) (v := ?_) rfl (by kernel_rfl) (by kernel_rfl) (by kernel_rfl) (fun _ _ _ h => h) (Or.inl ⟨by rfl, ?_⟩) hHeld ?_
                      rotate_left
                      · intro w hSw; (try dsimp only at hSw); go_simp; (try with_reducible rfl)
                      simp only [Act.put, List.setIfInBounds_toArray, List.set_cons_zero, List.set_cons_succ]
                      refine wpAnyH_take (i := 26) (oi := { dst := some 71, op := Op.pick (Operand.tmp 59) (Operand.const (Value.bool true)) (Operand.tmp 70), type := 4, pos := "ref.go:75", after := #[{ on := 14, ground := Ground.data }, { on := 25, ground := Ground.data }], guard := none }) (v := ?_) rfl (by kernel_rfl) (by kernel_rfl) (by kernel_rfl) (fun _ _ _ h => h) (Or.inl ⟨by rfl, ?_⟩) hHeld ?_
                      rotate_left
                      · intro w hSw; (try dsimp only at hSw); go_simp; (try with_reducible rfl)
                      simp only [Act.put, List.setIfInBounds_toArray, List.set_cons_zero, List.set_cons_succ]
                      refine wpAnyH_done (by kernel_rfl) ?_ _
                      clear hHeld
                      go_wp2
                      go_ret
                      exact ⟨ret_bool (by rw [← HRES.out, MS.out, MT.out, HWS.out, MW.out, inA_no hjl HXE.out (by rw [HIO.out, HW.out]; rfl)]; rfl), BW.out _ Q1.out⟩
                    · have K7 : Hid (∀ W, Below z3.heap.size z3 W → (W.cell? ⟨w.heap.size, 0, none⟩ = some (.slice (some ⟨bb, o, none⟩) R.length c) ∧ W.cell? ⟨w.heap.size, 1, none⟩ = some (.slice b sn d) ∧ W.cell? ⟨w.heap.size + 1, 0, none⟩ = some (.slice a' Q.length c') ∧ W.cell? ⟨w.heap.size + 1, 1, none⟩ = some (.slice b' tn d') ∧ W.cell? ⟨bb, o + j * 3, none⟩ = some (.string xn) ∧ W.cell? ⟨bb, o + j * 3 + 1, none⟩ = some (.bool true) ∧ W.cell? ⟨bb, o + j * 3 + 2, none⟩ = some (.slice xa xv.length xc) ∧ W.cell? ⟨wr.heap.size, 0, none⟩ = some (.string yn) ∧ W.cell? ⟨wr.heap.size, 1, none⟩ = some (.bool true) ∧ W.cell? ⟨wr.heap.size, 2, none⟩ = some (.slice ya yv.length yc))) := fun W hb => by
                        obtain ⟨s1, s2, s3, s4, s5, s6, s7⟩ := KH.out W (RB.out.trans (hb.mono RB.out.size))
                        obtain ⟨p1, p2, p3, _⟩ := cells3 (bx_bel0 PG.out hb)
                        exact ⟨s1, s2, s3, s4, s5, s6, s7, p1, p2, p3⟩
                      obtain ⟨s1, s2, s3, s4, s5, s6, s7, p1, p2, p3⟩ := K7.out _ (Below.refl _ _)
                      go_wp2_with fail
                      clear s1 s2 s3 s4 s5 s6 s7 p1 p2 p3
                      refine wp_region_held_drew (S := fun W => W.cell? ⟨w.heap.size, 0, none⟩ = some (.slice (some ⟨bb, o, none⟩) R.length c) ∧ W.cell? ⟨w.heap.size, 1, none⟩ = some (.slice b sn d) ∧ W.cell? ⟨w.heap.size + 1, 0, none⟩ = some (.slice a' Q.length c') ∧ W.cell? ⟨w.heap.size + 1, 1, none⟩ = some (.slice b' tn d') ∧ W.cell? ⟨bb, o + j * 3, none⟩ = some (.string xn) ∧ W.cell? ⟨bb, o + j * 3 + 1, none⟩ = some (.bool true) ∧ W.cell? ⟨bb, o + j * 3 + 2, none⟩ = some (.slice xa xv.length xc) ∧ W.cell? ⟨wr.heap.size, 0, none⟩ = some (.string yn) ∧ W.cell? ⟨wr.heap.size, 1, none⟩ = some (.bool true) ∧ W.cell? ⟨wr.heap.size, 2, none⟩ = some (.slice ya yv.length yc)) (by kernel_rfl) (K7.out _ (Below.refl _ _).drew) (fun hHeld => ?_)
                      have Q0 : Hid (Below z3.heap.size z3 z3.drew) := (Gr.refl _).drew.below
                      refine wpAnyH_take (i := 0) (oi := { dst := some 45, op := Op.move (Operand.tmp 7), type := 4, pos := "ref.go:75", after := #[], guard := none }) (v := ?_) rfl (by kernel_rfl) (by kernel_rfl) (by kernel_rfl) (fun _ _ _ h => h) (Or.inl ⟨by rfl, ?_⟩) hHeld ?_
                      rotate_left
                      · intro w hSw; (try dsimp only at hSw); go_simp; (try with_reducible rfl)
                      simp only [Act.put, List.setIfInBounds_toArray, List.set_cons_zero, List.set_cons_succ]
                      refine wpAnyH_take (i := 1) (oi := { dst := some 46, op := Op.unOp UnOp.not 4 (Operand.tmp 45), type := 4, pos := "ref.go:75", after := #[{ on := 0, ground := Ground.data }], guard := none }) (v := ?_) rfl (by kernel_rfl) (by kernel_rfl) (by kernel_rfl) (fun _ _ _ h => h) (Or.inl ⟨by rfl, ?_⟩) hHeld ?_
                      rotate_left
                      · intro w hSw; (try dsimp only at hSw); go_simp; (try with_reducible rfl)
                      simp only [Act.put, List.setIfInBounds_toArray, List.set_cons_zero, List.set_cons_succ]
                      refine wpAnyH_take (i := 2) (oi := { dst := some 47, op := Op.move (Operand.tmp 46), type := 4, pos := "ref.go:75", after := #[{ on := 1, ground := Ground.data }], guard := none }) (v := ?_) rfl (by kernel_rfl) (by kernel_rfl) (by kernel_rfl) (fun _ _ _ h => h) (Or.inl ⟨by rfl, ?_⟩) hHeld ?_
                      rotate_left
                      · intro w hSw; (try dsimp only at hSw); go_simp; (try with_reducible rfl)
                      simp only [Act.put, List.setIfInBounds_toArray, List.set_cons_zero, List.set_cons_succ]
                      refine wpAnyH_take (i := 3) (oi := { dst := some 48, op := Op.fieldAddr 25 (Operand.tmp 2) 0, type := 0, pos := "ref.go:75", after := #[{ on := 2, ground := Ground.guard }], guard := some (2, false) }) (v := ?_) rfl (by kernel_rfl) (by kernel_rfl) (by kernel_rfl) (fun _ _ _ h => h) (Or.inl ⟨by rfl, ?_⟩) hHeld ?_
                      rotate_left
                      · intro w hSw; (try dsimp only at hSw); go_simp; (try with_reducible rfl)
                      simp only [Act.put, List.setIfInBounds_toArray, List.set_cons_zero, List.set_cons_succ]
                      refine wpAnyH_take (i := 4) (oi := { dst := some 49, op := Op.load 22 (Operand.tmp 48), type := 22, pos := "ref.go:75", after := #[{ on := 3, ground := Ground.data }, { on := 2, ground := Ground.guard }], guard := some (2, false) }) (v := ?_) rfl (by kernel_rfl) (by kernel_rfl) (by kernel_rfl) (fun _ _ _ h => h) (Or.inl ⟨by rfl, ?_⟩) hHeld ?_
                      rotate_left
                      · intro w hSw; (try dsimp only at hSw); go_simp; (try with_reducible rfl)
                      simp only [Act.put, List.setIfInBounds_toArray, List.set_cons_zero, List.set_cons_succ]
                      refine wpAnyH_take (i := 5) (oi := { dst := some 50, op := Op.move (Operand.tmp 5), type := 3, pos := "ref.go:75", after := #[{ on := 2, ground := Ground.guard }], guard := some (2, false) }) (v := ?_) rfl (by kernel_rfl) (by kernel_rfl) (by kernel_rfl) (fun _ _ _ h => h) (Or.inl ⟨by rfl, ?_⟩) hHeld ?_
                      rotate_left
                      · intro w hSw; (try dsimp only at hSw); go_simp; (try with_reducible rfl)
                      simp only [Act.put, List.setIfInBounds_toArray, List.set_cons_zero, List.set_cons_succ]
                      refine wpAnyH_take (i := 6) (oi := { dst := some 51, op := Op.indexAddr 22 (Operand.tmp 49) (Operand.tmp 50), type := 0, pos := "ref.go:75", after := #[{ on := 4, ground := Ground.data }, { on := 5, ground := Ground.data }, { on := 2, ground := Ground.guard }], guard := some (2, false) }) (v := ?_) rfl (by kernel_rfl) (by kernel_rfl) (by kernel_rfl) (fun _ _ _ h => h) (Or.inl ⟨by rfl, ?_⟩) hHeld ?_
                      rotate_left
                      · intro w hSw; (try dsimp only at hSw); go_simp; (try with_reducible rfl)
                      simp only [Act.put, List.setIfInBounds_toArray, List.set_cons_zero, List.set_cons_succ]
                      refine wpAnyH_take (i := 7) (oi := { dst := some 52, op := Op.fieldAddr 29 (Operand.tmp 51) 2, type := 0, pos := "ref.go:75", after := #[{ on := 6, ground := Ground.data }, { on := 2, ground := Ground.guard }], guard := some (2, false) }) (v := ?_) rfl (by kernel_rfl) (by kernel_rfl) (by kernel_rfl) (fun _ _ _ h => h) (Or.inl ⟨by rfl, ?_⟩) hHeld ?_
                      rotate_left
                      · intro w hSw; (try dsimp only at hSw); go_simp; (try with_reducible rfl)
                      simp only [Act.put, List.setIfInBounds_toArray, List.set_cons_zero, List.set_cons_succ]
                      refine wpAnyH_take (i := 8) (oi := { dst := some 53, op := Op.load 23 (Operand.tmp 52), type := 23, pos := "ref.go:75", after := #[{ on := 7, ground := Ground.data }, { on := 2, ground := Ground.guard }], guard := some (2, false) }) (v := ?_) rfl (by kernel_rfl) (by kernel_rfl) (by kernel_rfl) (fun _ _ _ h => h) (Or.inl ⟨by rfl, ?_⟩) hHeld ?_
                      rotate_left
                      · intro w hSw; (try dsimp only at hSw); go_simp; (try with_reducible rfl)
                      simp only [Act.put, List.setIfInBounds_toArray, List.set_cons_zero, List.set_cons_succ]
                      refine wpAnyH_take (i := 9) (oi := { dst := some 54, op := Op.fieldAddr 29 (Operand.tmp 6) 2, type := 0, pos := "ref.go:75", after := #[{ on := 2, ground := Ground.guard }], guard := some (2, false) }) (v := ?_) rfl (by kernel_rfl) (by kernel_rfl) (by kernel_rfl) (fun _ _ _ h => h) (Or.inl ⟨by rfl, ?_⟩) hHeld ?_
                      rotate_left
                      · intro w hSw; (try dsimp only at hSw); go_simp; (try with_reducible rfl)
                      simp only [Act.put, List.setIfInBounds_toArray, List.set_cons_zero, List.set_cons_succ]
                      refine wpAnyH_take (i := 10) (oi := { dst := some 55, op := Op.load 23 (Operand.tmp 54), type := 23, pos := "ref.go:75", after := #[{ on := 9, ground := Ground.data }, { on := 2, ground := Ground.guard }], guard := some (2, false) }) (v := ?_) rfl (by kernel_rfl) (by kernel_rfl) (by kernel_rfl) (fun _ _ _ h => h) (Or.inl ⟨by rfl, ?_⟩) hHeld ?_
                      rotate_left
                      · intro w hSw; (try dsimp only at hSw); go_simp; (try with_reducible rfl)
                      simp only [Act.put, List.setIfInBounds_toArray, List.set_cons_zero, List.set_cons_succ]
                      refine wpAnyH_ready (rs := [11]) (by kernel_rfl) (by simp) ?_
                      refine AllReadyH.cons (o := { dst := some 56, op := Op.call { callee := Callee.value (Operand.func 40), args := #[Operand.tmp 53, Operand.tmp 55], argTypes := #[23, 23] }, type := 4, pos := "ref.go:75", after := #[{ on := 8, ground := Ground.data }, { on := 10, ground := Ground.data }, { on := 2, ground := Ground.chain }, { on := 2, ground := Ground.guard }], guard := some (2, false) }) rfl (fun K hK => ?_) AllReadyH.nil
                      go_simp
                      refine (KW.out _ Q0.out).mono ?_
                      rw [HW.out]
                      rintro e zz ⟨rfl, hb⟩
                      have Q1 : Hid (Below z3.heap.size z3 zz) := Q0.out.trans (hb.mono Q0.out.size)
                      clear hb Q0
                      refine hK.out _ _ (K7.out _ Q1.out) (fun hHeld => ?_)
                      clear hK
                      refine wpAnyH_take (i := 12) (oi := { dst := some 57, op := Op.unOp UnOp.not 4 (Operand.tmp 56), type := 4, pos := "ref.go:75", after := #[{ on := 11, ground := Ground.data }, { on := 2, ground := Ground.guard }], guard := some (2, false) }) (v := ?_) rfl (by kernel_rfl) (by kernel_rfl) (by kernel_rfl) (fun _ _ _ h => h) (Or.inl ⟨by rfl, ?_⟩) hHeld ?_
                      rotate_left
                      · intro w hSw; (try dsimp only at hSw); go_simp; (try with_reducible rfl)
                      simp only [Act.put, List.setIfInBounds_toArray, List.set_cons_zero, List.set_cons_succ]
                      refine wpAnyH_take (i := 13) (oi := { dst := some 58, op := Op.pick (Operand.tmp 47) (Operand.const (Value.bool true)) (Operand.tmp 57), type := 4, pos := "ref.go:75", after := #[{ on := 2, ground := Ground.data }, { on := 12, ground := Ground.data }], guard := none }) (v := ?_) rfl (by kernel_rfl) (by kernel_rfl) (by kernel_rfl) (fun _ _ _ h => h) (Or.inl ⟨by rfl, ?_⟩) hHeld ?_
                      rotate_left
                      · intro w hSw; (try dsimp only at hSw); go_simp; (try with_reducible rfl)
                      simp only [Act.put, List.setIfInBounds_toArray, List.set_cons_zero, List.set_cons_succ]
                      refine wpAnyH_take (i := 14) (oi := { dst := some 59, op := Op.move (Operand.tmp 58), type := 4, pos := "ref.go:75", after := #[{ on := 13, ground := Ground.data }, { on := 11, ground := Ground.chain }], guard := none }) (v := ?_) rfl (by kernel_rfl) (by kernel_rfl) (by kernel_rfl) (fun _ _ _ h => h) (Or.inl ⟨by rfl, ?_⟩) hHeld ?_
                      rotate_left
                      · intro w hSw; (try dsimp only at hSw); go_simp; (try with_reducible rfl)
                      simp only [Act.put, List.setIfInBounds_toArray, List.set_cons_zero, List.set_cons_succ]
                      refine wpAnyH_take (i := 15) (oi := { dst := some 60, op := Op.fieldAddr 29 (Operand.tmp 6) 1, type := 0, pos := "ref.go:75", after := #[{ on := 14, ground := Ground.guard }], guard := some (14, false) }) (v := ?_) rfl (by kernel_rfl) (by kernel_rfl) (by kernel_rfl) (fun _ _ _ h => h) (Or.inl ⟨by rfl, ?_⟩) hHeld ?_
                      rotate_left
                      · intro w hSw; (try dsimp only at hSw); go_simp; (try with_reducible rfl)
                      simp only [Act.put, List.setIfInBounds_toArray, List.set_cons_zero, List.set_cons_succ]
                      refine wpAnyH_take (i := 16) (oi := { dst := some 61, op := Op.load 4 (Operand.tmp 60), type := 4, pos := "ref.go:75", after := #[{ on := 15, ground := Ground.data }, { on := 14, ground := Ground.guard }], guard := some (14, false) }) (v := ?_) rfl (by kernel_rfl) (by kernel_rfl) (by kernel_rfl) (fun _ _ _ h => h) (Or.inl ⟨by rfl, ?_⟩) hHeld ?_
                      rotate_left
                      · intro w hSw; (try dsimp only at hSw); go_simp; (try with_reducible rfl)
                      simp only [Act.put, List.setIfInBounds_toArray, List.set_cons_zero, List.set_cons_succ]
                      refine wpAnyH_take (i := 17) (oi := { dst := some 62, op := Op.move (Operand.tmp 61), type := 4, pos := "ref.go:75", after := #[{ on := 16, ground := Ground.data }, { on := 14, ground := Ground.chain }, { on := 14, ground := Ground.guard }], guard := some (14, false) }) (v := ?_) rfl (by kernel_rfl) (by kernel_rfl) (by kernel_rfl) (fun _ _ _ h => h) (Or.inl ⟨by rfl, ?_⟩) hHeld ?_
                      rotate_left
                      · intro w hSw; (try dsimp only at hSw); go_simp; (try with_reducible rfl)
                      simp only [Act.put, List.setIfInBounds_toArray, List.set_cons_zero, List.set_cons_succ]
                      refine wpAnyH_take (i := 18) (oi := { dst := some 63, op := Op.fieldAddr 25 (Operand.tmp 2) 0, type := 0, pos := "ref.go:75", after := #[{ on := 17, ground := Ground.guard }], guard := some (17, true) }) (v := ?_) rfl (by kernel_rfl) (by kernel_rfl) (by kernel_rfl) (fun _ _ _ h => h) (Or.inl ⟨by rfl, ?_⟩) hHeld ?_
                      rotate_left
                      · intro w hSw; (try dsimp only at hSw); go_simp; (try with_reducible rfl)
                      simp only [Act.put, List.setIfInBounds_toArray, List.set_cons_zero, List.set_cons_succ]
                      refine wpAnyH_take (i := 19) (oi := { dst := some 64, op := Op.load 22 (Operand.tmp 63), type := 22, pos := "ref.go:75", after := #[{ on := 18, ground := Ground.data }, { on := 17, ground := Ground.guard }], guard := some (17, true) }) (v := ?_) rfl (by kernel_rfl) (by kernel_rfl) (by kernel_rfl) (fun _ _ _ h => h) (Or.inl ⟨by rfl, ?_⟩) hHeld ?_
                      rotate_left
                      · intro w hSw; (try dsimp only at hSw); go_simp; (try with_reducible rfl)
                      simp only [Act.put, List.setIfInBounds_toArray, List.set_cons_zero, List.set_cons_succ]
                      refine wpAnyH_take (i := 20) (oi := { dst := some 65, op := Op.move (Operand.tmp 5), type := 3, pos := "ref.go:75", after := #[{ on := 17, ground := Ground.guard }], guard := some (17, true) }) (v := ?_) rfl (by kernel_rfl) (by kernel_rfl) (by kernel_rfl) (fun _ _ _ h => h) (Or.inl ⟨by rfl, ?_⟩) hHeld ?_
                      rotate_left
                      · intro w hSw; (try dsimp only at hSw); go_simp; (try with_reducible rfl)
                      simp only [Act.put, List.setIfInBounds_toArray, List.set_cons_zero, List.set_cons_succ]
                      refine wpAnyH_take (i := 21) (oi := { dst := some 66, op := Op.indexAddr 22 (Operand.tmp 64) (Operand.tmp 65), type := 0, pos := "ref.go:75", after := #[{ on := 19, ground := Ground.data }, { on := 20, ground := Ground.data }, { on := 17, ground := Ground.guard }], guard := some (17, true) }) (v := ?_) rfl (by kernel_rfl) (by kernel_rfl) (by kernel_rfl) (fun _ _ _ h => h) (Or.inl ⟨by rfl, ?_⟩) hHeld ?_
                      rotate_left
                      · intro w hSw; (try dsimp only at hSw); go_simp; (try with_reducible rfl)
                      simp only [Act.put, List.setIfInBounds_toArray, List.set_cons_zero, List.set_cons_succ]
                      refine wpAnyH_take (i := 22) (oi := { dst := some 67, op := Op.fieldAddr 29 (Operand.tmp 66) 1, type := 0, pos := "ref.go:75", after := #[{ on := 21, ground := Ground.data }, { on := 17, ground := Ground.guard }], guard := some (17, true) }) (v := ?_) rfl (by kernel_rfl) (by kernel_rfl) (by kernel_rfl) (fun _ _ _ h => h) (Or.inl ⟨by rfl, ?_⟩) hHeld ?_
                      rotate_left
                      · intro w hSw; (try dsimp only at hSw); go_simp; (try with_reducible rfl)
                      simp only [Act.put, List.setIfInBounds_toArray, List.set_cons_zero, List.set_cons_succ]
                      refine wpAnyH_take (i := 23) (oi := { dst := some 68, op := Op.load 4 (Operand.tmp 67), type := 4, pos := "ref.go:75", after := #[{ on := 22, ground := Ground.data }, { on := 17, ground := Ground.guard }], guard := some (17, true) }) (v := ?_) rfl (by kernel_rfl) (by kernel_rfl) (by kernel_rfl) (fun _ _ _ h => h) (Or.inl ⟨by rfl, ?_⟩) hHeld ?_
                      rotate_left
                      · intro w hSw; (try dsimp only at hSw); go_simp; (try with_reducible rfl)
                      simp only [Act.put, List.setIfInBounds_toArray, List.set_cons_zero, List.set_cons_succ]
                      refine wpAnyH_take (i := 24) (oi := { dst := some 69, op := Op.unOp UnOp.not 4 (Operand.tmp 68), type := 4, pos := "ref.go:75", after := #[{ on := 23, ground := Ground.data }, { on := 17, ground := Ground.guard }], guard := some (17, true) }) (v := ?_) rfl (by kernel_rfl) (by kernel_rfl) (by kernel_rfl) (fun _ _ _ h => h) (Or.inl ⟨by rfl, ?_⟩) hHeld ?_
                      rotate_left
                      · intro w hSw; (try dsimp only at hSw); go_simp; (try with_reducible rfl)
                      simp only [Act.put, List.setIfInBounds_toArray, List.set_cons_zero, List.set_cons_succ]
                      refine wpAnyH_take (i := 25) (oi := { dst := some 70, op := Op.pick (Operand.tmp 62) (Operand.tmp 69) (Operand.const (Value.bool false)), type := 4, pos := "ref.go:75", after := #[{ on := 17, ground := Ground.data }, { on := 24, ground := Ground.data }, { on := 14, ground := Ground.guard }], guard := some (14, false) }) (v := ?_) rfl (by kernel_rfl) (by kernel_rfl) (by kernel_rfl) (fun _ _ _ h => h) (Or.inl ⟨by rfl, ?_⟩) hHeld ?_
                      rotate_left
                      · intro w hSw; (try dsimp only at hSw); go_simp; (try with_reducible rfl)
                      simp only [Act.put, List.setIfInBounds_toArray, List.set_cons_zero, List.set_cons_succ]
                      refine wpAnyH_take (i := 26) (oi := { dst := some 71, op := Op.pick (Operand.tmp 59) (Operand.const (Value.bool true)) (Operand.tmp 70), type := 4, pos := "ref.go:75", after := #[{ on := 14, ground := Ground.data }, { on := 25, ground := Ground.data }], guard := none }) (v := ?_) rfl (by kernel_rfl) (by kernel_rfl) (by kernel_rfl) (fun _ _ _ h => h) (Or.inl ⟨by rfl, ?_⟩) hHeld ?_
                      rotate_left
                      · intro w hSw; (try dsimp only at hSw); go_simp; (try with_reducible rfl)
                      simp only [Act.put, List.setIfInBounds_toArray, List.set_cons_zero, List.set_cons_succ]
                      refine wpAnyH_done (by kernel_rfl) ?_ _
                      clear hHeld
                      go_wp2
                      exact ⟨⟨j + 1, by omega, by go_num, inA_step hm.out hjl HXE.out (by rw [HIO.out, HW.out]; rfl), BL.out _ Q1.out⟩, by simp [intOf]; omega⟩
          · have HA1 := hm
            have BA := hbel
            go_wp2
            clear hbel hBW x1 x2 y1 y2 hwr
            go_loopw [8] (fun i w' => ∃ j : Nat, j ≤ Q.length ∧ i = .int .i64 j ∧ Hid (InB R Q j) ∧ Hid (Below w3.heap.size w3 w')) (fun i _ => Q.length - (intOf i).toNat)
            case atStart => exact ⟨0, Nat.zero_le _, rfl, (fun _ _ h => absurd h (Nat.not_lt_zero _)), BA⟩
            case round =>
              obtain ⟨k, hk, rfl, hm2, hbel⟩ := hrel
              have hBW : Hid (Below w.heap.size w wr) := B3.out.trans (hbel.out.mono B3.out.size)
              obtain ⟨x1, x2⟩ := two_bel ⟨(cells2 V1.out).1, (cells2 V1.out).2.1⟩ (by omega) hbel.out
              obtain ⟨y1, y2⟩ := two_bel ⟨(cells2 V2.out).1, (cells2 V2.out).2.1⟩ hz3 hbel.out
              have hwr : w.heap.size + 1 < wr.heap.size := Nat.lt_of_lt_of_le hz3 hbel.out.size
              by_cases hkl : k < Q.length
              · obtain ⟨bb, o, rfl, hlt, hc⟩ := Rs_some HQ.out hkl
                obtain ⟨c1, c2, c3⟩ := (hc k hkl).bel hlt hBW.out
                have HX := hid (HQ.out.1 _ (List.getElem_mem hkl))
                have hxl := HV2.out _ (List.getElem_mem hkl)
                obtain ⟨⟨⟨xn, xs, xv⟩, xa, xc⟩, hx⟩ : ∃ x, Q[k] = x := ⟨_, rfl⟩
                rw [hx] at c1 c2 c3 HX hxl
                dsimp only at c1 c2 c3 hxl
                have HXE := hid hx
                have hlw : bb < wr.heap.size := Nat.lt_of_lt_of_le hlt hBW.out.size
                clear hx hc
                have KG := hid (fun (W : World) (hb : Below wr.heap.size wr W) => rget_any W _ s xn (T1.out.bel (hBW.out.trans (hb.mono hBW.out.size))) HK1.out)
                have KH : Hid (∀ W, Below wr.heap.size wr W → (W.cell? ⟨w.heap.size, 0, none⟩ = some (.slice a R.length c) ∧ W.cell? ⟨w.heap.size, 1, none⟩ = some (.slice b sn d) ∧ W.cell? ⟨w.heap.size + 1, 0, none⟩ = some (.slice (some ⟨bb, o, none⟩) Q.length c') ∧ W.cell? ⟨w.heap.size + 1, 1, none⟩ = some (.slice b' tn d') ∧ W.cell? ⟨bb, o + k * 3, none⟩ = some (.string xn) ∧ W.cell? ⟨bb, o + k * 3 + 1, none⟩ = some (.bool xs) ∧ W.cell? ⟨bb, o + k * 3 + 2, none⟩ = some (.slice xa xv.length xc))) := fun W hb => by
                  obtain ⟨e1, e2⟩ := two_bel ⟨x1, x2⟩ (by omega) hb
                  obtain ⟨e3, e4⟩ := two_bel ⟨y1, y2⟩ hwr hb
                  exact ⟨e1, e2, e3, e4, by rw [hb.cell (p := ⟨bb, o + k * 3, none⟩) hlw]; exact c1, by rw [hb.cell (p := ⟨bb, o + k * 3 + 1, none⟩) hlw]; exact c2, by rw [hb.cell (p := ⟨bb, o + k * 3 + 2, none⟩) hlw]; exact c3⟩
                go_wp2_with fail
                clear x1 x2 y1 y2 c1 c2 c3
                refine wp_region_held_drew (S := fun W => W.cell? ⟨w.heap.size, 0, none⟩ = some (.slice a R.length c) ∧ W.cell? ⟨w.heap.size, 1, none⟩ = some (.slice b sn d) ∧ W.cell? ⟨w.heap.size + 1, 0, none⟩ = some (.slice (some ⟨bb, o, none⟩) Q.length c') ∧ W.cell? ⟨w.heap.size + 1, 1, none⟩ = some (.slice b' tn d') ∧ W.cell? ⟨bb, o + k * 3, none⟩ = some (.string xn) ∧ W.cell? ⟨bb, o + k * 3 + 1, none⟩ = some (.bool xs) ∧ W.cell? ⟨bb, o + k * 3 + 2, none⟩ = some (.slice xa xv.length xc)) (by kernel_rfl) (KH.out _ (Below.refl _ _).drew) (fun hHeld => ?_)
                have RB0 : Hid (Below wr.heap.size wr wr.drew) := (Gr.refl _).drew.below
                refine wpAnyH_take (i := 0) (oi := { dst := some 80, op := Op.load 25 (Operand.tmp 2), type := 25, pos := "ref.go:80", after := #[], guard := none }) (v := ?_) rfl (by kernel_rfl) (by kernel_rfl) (by kernel_rfl) (fun _ _ _ h => h) (Or.inl ⟨by rfl, ?_⟩) hHeld ?_
                rotate_left
                · intro w hSw; (try dsimp only at hSw); go_simp; (try with_reducible rfl)
                simp only [Act.put, List.setIfInBounds_toArray, List.set_cons_zero, List.set_cons_succ]
                refine wpAnyH_take (i := 1) (oi := { dst := some 81, op := Op.fieldAddr 25 (Operand.tmp 3) 0, type := 0, pos := "ref.go:80", after := #[], guard := none }) (v := ?_) rfl (by kernel_rfl) (by kernel_rfl) (by kernel_rfl) (fun _ _ _ h => h) (Or.inl ⟨by rfl, ?_⟩) hHeld ?_
                rotate_left
                · intro w hSw; (try dsimp only at hSw); go_simp; (try with_reducible rfl)
                simp only [Act.put, List.setIfInBounds_toArray, List.set_cons_zero, List.set_cons_succ]
                refine wpAnyH_take (i := 2) (oi := { dst := some 82, op := Op.load 22 (Operand.tmp 81), type := 22, pos := "ref.go:80", after := #[{ on := 1, ground := Ground.data }], guard := none }) (v := ?_) rfl (by kernel_rfl) (by kernel_rfl) (by kernel_rfl) (fun _ _ _ h => h) (Or.inl ⟨by rfl, ?_⟩) hHeld ?_
                rotate_left
                · intro w hSw; (try dsimp only at hSw); go_simp; (try with_reducible rfl)
                simp only [Act.put, List.setIfInBounds_toArray, List.set_cons_zero, List.set_cons_succ]
                refine wpAnyH_take (i := 3) (oi := { dst := some 83, op := Op.move (Operand.tmp 8), type := 3, pos := "ref.go:80", after := #[], guard := none }) (v := ?_) rfl (by kernel_rfl) (by kernel_rfl) (by kernel_rfl) (fun _ _ _ h => h) (Or.inl ⟨by rfl, ?_⟩) hHeld ?_
                rotate_left
                · intro w hSw; (try dsimp only at hSw); go_simp; (try with_reducible rfl)
                simp only [Act.put, List.setIfInBounds_toArray, List.set_cons_zero, List.set_cons_succ]
                refine wpAnyH_take (i := 4) (oi := { dst := some 84, op := Op.indexAddr 22 (Operand.tmp 82) (Operand.tmp 83), type := 0, pos := "ref.go:80", after := #[{ on := 2, ground := Ground.data }, { on := 3, ground := Ground.data }], guard := none }) (v := ?_) rfl (by kernel_rfl) (by kernel_rfl) (by kernel_rfl) (fun _ _ _ h => h) (Or.inl ⟨by rfl, ?_⟩) hHeld ?_
                rotate_left
                · intro w hSw; (try dsimp only at hSw); go_simp; (try with_reducible rfl)
                simp only [Act.put, List.setIfInBounds_toArray, List.set_cons_zero, List.set_cons_succ]
                refine wpAnyH_take (i := 5) (oi := { dst := some 85, op := Op.fieldAddr 29 (Operand.tmp 84) 0, type := 0, pos := "ref.go:80", after := #[{ on := 4, ground := Ground.data }], guard := none }) (v := ?_) rfl (by kernel_rfl) (by kernel_rfl) (by kernel_rfl) (fun _ _ _ h => h) (Or.inl ⟨by rfl, ?_⟩) hHeld ?_
                rotate_left
                · intro w hSw; (try dsimp only at hSw); go_simp; (try with_reducible rfl)
                simp only [Act.put, List.setIfInBounds_toArray, List.set_cons_zero, List.set_cons_succ]
                refine wpAnyH_take (i := 6) (oi := { dst := some 86, op := Op.load 9 (Operand.tmp 85), type := 9, pos := "ref.go:80", after := #[{ on := 5, ground := Ground.data }], guard := none }) (v := ?_) rfl (by kernel_rfl) (by kernel_rfl) (by kernel_rfl) (fun _ _ _ h => h) (Or.inl ⟨by rfl, ?_⟩) hHeld ?_
                rotate_left
                · intro w hSw; (try dsimp only at hSw); go_simp; (try with_reducible rfl)
                simp only [Act.put, List.setIfInBounds_toArray, List.set_cons_zero, List.set_cons_succ]
                refine wpAnyH_ready (rs := [7, 11]) (by kernel_rfl) (by simp) ?_
                refine AllReadyH.cons (o := { dst := some 87, op := Op.call { callee := Callee.value (Operand.func 12), args := #[Operand.tmp 80, Operand.tmp 86], argTypes := #[25, 9] }, type := 30, pos := "ref.go:80", after := #[{ on := 0, ground := Ground.data }, { on := 6, ground := Ground.data }], guard := none }) rfl (fun K hK => ?_) (AllReadyH.cons (o := { dst := some 9, op := Op.alloc 29, type := 0, pos := "ref.go:80", after := #[], guard := none }) rfl (fun K hK => ?_) AllReadyH.nil)
                · go_simp
                  refine (KG.out _ RB0.out).mono ?_
                  rintro e z1 ⟨⟨⟨yn, ys, yv⟩, ya, yc⟩, rfl, hyf, hoy, hb⟩
                  have RB1 : Hid (Below wr.heap.size wr z1) := RB0.out.trans (hb.mono RB0.out.size)
                  dsimp only at hyf
                  have HYF := hid hyf
                  have HO1 : Hid (AtAt z1 (.slice ya yv.length yc) yv) := hoy
                  clear hyf hoy hb
                  unfold fv
                  refine hK.out _ _ (KH.out _ RB1.out) (fun hHeld => ?_)
                  clear RB0 hK
                  refine wpAnyH_take (i := 8) (oi := { dst := some 79, op := Op.move (Operand.tmp 87), type := 30, pos := "ref.go:80", after := #[{ on := 7, ground := Ground.data }], guard := none }) (v := ?_) rfl (by kernel_rfl) (by kernel_rfl) (by kernel_rfl) (fun _ _ _ h => h) (Or.inl ⟨by rfl, ?_⟩) hHeld ?_
                  rotate_left
                  · intro w hSw; (try dsimp only at hSw); go_simp; (try with_reducible rfl)
                  simp only [Act.put, List.setIfInBounds_toArray, List.set_cons_zero, List.set_cons_succ]
                  refine wpAnyH_take (i := 9) (oi := { dst := some 88, op := Op.extract (Operand.tmp 79) 0, type := 29, pos := "ref.go:80", after := #[{ on := 8, ground := Ground.data }], guard := none }) (v := ?_) rfl (by kernel_rfl) (by kernel_rfl) (by kernel_rfl) (fun _ _ _ h => h) (Or.inl ⟨by rfl, ?_⟩) hHeld ?_
                  rotate_left
                  · intro w hSw; (try dsimp only at hSw); go_simp; (try with_reducible rfl)
                  simp only [Act.put, List.setIfInBounds_toArray, List.set_cons_zero, List.set_cons_succ]
                  refine wpAnyH_take (i := 10) (oi := { dst := some 89, op := Op.extract (Operand.tmp 79) 1, type := 4, pos := "ref.go:80", after := #[{ on := 8, ground := Ground.data }, { on := 12, ground := Ground.gcOnly Departure.lateStores }], guard := none }) (v := ?_) rfl (by kernel_rfl) (by kernel_rfl) (by kernel_rfl) (fun _ _ _ h => h) (Or.inl ⟨by rfl, ?_⟩) hHeld ?_
                  rotate_left
                  · intro w hSw; (try dsimp only at hSw); go_simp; (try with_reducible rfl)
                  simp only [Act.put, List.setIfInBounds_toArray, List.set_cons_zero, List.set_cons_succ]
                  refine wpAnyH_ready (rs := [11]) (by kernel_rfl) (by simp) ?_
                  refine AllReadyH.cons (o := { dst := some 9, op := Op.alloc 29, type := 0, pos := "ref.go:80", after := #[], guard := none }) rfl (fun K hK => ?_) AllReadyH.nil
                  obtain ⟨z2, hzz2⟩ : ∃ W, z1.alloc (.cells #[.string ⟨#[]⟩, .bool false, .slice none 0 0] 29) = W := ⟨_, rfl⟩
                  go_simp
                  have hb : Below z1.heap.size z1 z2 := by rw [← hzz2]; exact (gr_new _ _).below
                  have PG2 : Hid (z2.heap[z1.heap.size]? = some (.cells #[.string ⟨#[]⟩, .bool false, .slice none 0 0] 29 (0, 0))) := by unfold Hid; rw [← hzz2]; exact new_at _ _
                  have GZ : Hid (wr.heap.size ≤ z1.heap.size) := RB1.out.size
                  have RB2 : Hid (Below wr.heap.size wr z2) := RB1.out.trans (hb.mono RB1.out.size)
                  have HO2 := hid (AtAt.bel HO1.out hb)
                  clear HO1
                  clear hb hzz2
                  refine hK.out _ _ (KH.out _ RB2.out) (fun hHeld => ?_)
                  clear RB1 hK
                  refine wpAnyH_ready (rs := [12]) (by kernel_rfl) (by simp) ?_
                  refine AllReadyH.cons (o := { dst := none, op := Op.store 29 (Operand.tmp 9) (Operand.tmp 88), type := 0, pos := "ref.go:80", after := #[{ on := 11, ground := Ground.data }, { on := 9, ground := Ground.data }, { on := 7, ground := Ground.chain }, { on := 0, ground := Ground.phase }, { on := 1, ground := Ground.phase }, { on := 2, ground := Ground.phase }, { on := 3, ground := Ground.phase }, { on := 4, ground := Ground.phase }, { on := 5, ground := Ground.phase }, { on := 6, ground := Ground.phase }, { on := 7, ground := Ground.phase }, { on := 8, ground := Ground.phase }, { on := 9, ground := Ground.phase }, { on := 10, ground := Ground.textOnly Departure.lateStores }, { on := 11, ground := Ground.phase }], guard := none }) rfl (fun K hK => ?_) AllReadyH.nil
                  obtain ⟨e0, e1, e2, ef⟩ := cells3 PG2.out
                  go_simp
                  obtain ⟨z3, hzz3⟩ : ∃ W, (((z2.setCell ⟨z1.heap.size, 0, none⟩ (.string yn)).setCell ⟨z1.heap.size, 1, none⟩ (.bool ys)).setCell ⟨z1.heap.size, 2, none⟩ (.slice ya yv.length yc)) = W := ⟨_, rfl⟩
                  have RB3 : Hid (Below wr.heap.size wr z3) := by unfold Hid; rw [← hzz3]; exact set3 RB2.out GZ.out _ _ _
                  have HO3 : Hid (AtAt z3 (.slice ya yv.length yc) yv) := by unfold Hid; rw [← hzz3]; exact AtAt.set3n (p := 0) HO2.out e0 e1 e2 (noInt_s _) (noInt_b _) (noInt_v _ _ _)
                  have PG3 : Hid (z3.heap[z1.heap.size]? = some (.cells #[.string yn, .bool ys, .slice ya yv.length yc] 29 (0, 0))) := by unfold Hid; rw [← hzz3]; exact box_set3 PG2.out _ _ _
                  clear e0 e1 e2 ef PG2 HO2
                  try rw [hzz3]
                  clear hzz3
                  refine hK.out _ _ (KH.out _ RB3.out) (fun hHeld => ?_)
                  clear RB2 hK
                  refine wpAnyH_take (i := 13) (oi := { dst := some 10, op := Op.assign (Operand.tmp 89), type := 4, pos := "ref.go:80", after := #[{ on := 10, ground := Ground.data }, { on := 12, ground := Ground.chain }, { on := 0, ground := Ground.phase }, { on := 1, ground := Ground.phase }, { on := 2, ground := Ground.phase }, { on := 3, ground := Ground.phase }, { on := 4, ground := Ground.phase }, { on := 5, ground := Ground.phase }, { on := 6, ground := Ground.phase }, { on := 7, ground := Ground.phase }, { on := 8, ground := Ground.phase }, { on := 9, ground := Ground.phase }, { on := 10, ground := Ground.phase }, { on := 11, ground := Ground.phase }, { on := 12, ground := Ground.phase }], guard := none }) (v := ?_) rfl (by kernel_rfl) (by kernel_rfl) (by kernel_rfl) (fun _ _ _ h => h) (Or.inl ⟨by rfl, ?_⟩) hHeld ?_
                  rotate_left
                  · intro w hSw; (try dsimp only at hSw); go_simp; (try with_reducible rfl)
                  simp only [Act.put, List.setIfInBounds_toArray, List.set_cons_zero, List.set_cons_succ]
                  refine wpAnyH_done (by kernel_rfl) ?_ _
                  clear hHeld KG
                  have RB := hid RB3.out
                  have HO := hid HO3.out
                  have PG := hid PG3.out
                  clear RB3 HO3 PG3
                  have BZ : Hid (Below w.heap.size w z3) := hBW.out.trans (RB.out.mono hBW.out.size)
                  clear HO PG HYF
                  obtain ⟨x1, x2, y1, y2, c1, c2, c3⟩ := KH.out _ RB.out
                  clear KH
                  have BL := hid (hbel.out.trans (RB.out.mono hbel.out.size))
                  rcases xs with _ | _
                  · go_wp2
                    exact ⟨⟨k + 1, by omega, by go_num, inB_step hm2.out hkl HXE.out (by rfl), BL.out⟩, by simp [intOf]; omega⟩
                  · cases hg : (M.getF s.fs xn).isSome with
                    | true =>
                      have HG := hid hg
                      clear hg
                      go_wp2
                      exact ⟨⟨k + 1, by omega, by go_num, inB_step hm2.out hkl HXE.out (by rw [← HF.out.1, HG.out]; rfl), BL.out⟩, by simp [intOf]; omega⟩
                    | false =>
                      have HG := hid hg
                      clear hg
                      go_wp2
                      go_ret
                      exact ⟨ret_bool (by rw [← HRES.out, MS.out, MT.out, HWS.out, MW.out, inB_no hkl HXE.out (by rw [← HF.out.1, HG.out]; rfl)]; rfl), BZ.out⟩
                · obtain ⟨z1, hzz1⟩ : ∃ W, wr.drew.alloc (.cells #[.string ⟨#[]⟩, .bool false, .slice none 0 0] 29) = W := ⟨_, rfl⟩
                  go_simp
                  have hb : Below wr.drew.heap.size wr.drew z1 := by rw [← hzz1]; exact (gr_new _ _).below
                  have PG1 : Hid (z1.heap[wr.heap.size]? = some (.cells #[.string ⟨#[]⟩, .bool false, .slice none 0 0] 29 (0, 0))) := by unfold Hid; rw [← hzz1]; exact new_at _ _
                  have GZ : Hid (wr.heap.size ≤ wr.heap.size) := RB0.out.size
                  have RB1 : Hid (Below wr.heap.size wr z1) := RB0.out.trans (hb.mono RB0.out.size)
                  clear hb hzz1
                  refine hK.out _ _ (KH.out _ RB1.out) (fun hHeld => ?_)
                  clear RB0 hK
                  refine wpAnyH_ready (rs := [7]) (by kernel_rfl) (by simp) ?_
                  refine AllReadyH.cons (o := { dst := some 87, op := Op.call { callee := Callee.value (Operand.func 12), args := #[Operand.tmp 80, Operand.tmp 86], argTypes := #[25, 9] }, type := 30, pos := "ref.go:80", after := #[{ on := 0, ground := Ground.data }, { on := 6, ground := Ground.data }], guard := none }) rfl (fun K hK => ?_) AllReadyH.nil
                  go_simp
                  refine (KG.out _ RB1.out).mono ?_
                  rintro e z2 ⟨⟨⟨yn, ys, yv⟩, ya, yc⟩, rfl, hyf, hoy, hb⟩
                  have RB2 : Hid (Below wr.heap.size wr z2) := RB1.out.trans (hb.mono RB1.out.size)
                  dsimp only at hyf
                  have HYF := hid hyf
                  have HO2 : Hid (AtAt z2 (.slice ya yv.length yc) yv) := hoy
                  have PG2 := hid (bx_bel0 PG1.out hb)
                  clear hyf hoy hb
                  unfold fv
                  clear PG1
                  refine hK.out _ _ (KH.out _ RB2.out) (fun hHeld => ?_)
                  clear RB1 hK
                  refine wpAnyH_take (i := 8) (oi := { dst := some 79, op := Op.move (Operand.tmp 87), type := 30, pos := "ref.go:80", after := #[{ on := 7, ground := Ground.data }], guard := none }) (v := ?_) rfl (by kernel_rfl) (by kernel_rfl) (by kernel_rfl) (fun _ _ _ h => h) (Or.inl ⟨by rfl, ?_⟩) hHeld ?_
                  rotate_left
                  · intro w hSw; (try dsimp only at hSw); go_simp; (try with_reducible rfl)
                  simp only [Act.put, List.setIfInBounds_toArray, List.set_cons_zero, List.set_cons_succ]
                  refine wpAnyH_take (i := 9) (oi := { dst := some 88, op := Op.extract (Operand.tmp 79) 0, type := 29, pos := "ref.go:80", after := #[{ on := 8, ground := Ground.data }], guard := none }) (v := ?_) rfl (by kernel_rfl) (by kernel_rfl) (by kernel_rfl) (fun _ _ _ h => h) (Or.inl ⟨by rfl, ?_⟩) hHeld ?_
                  rotate_left
                  · intro w hSw; (try dsimp only at hSw); go_simp; (try with_reducible rfl)
                  simp only [Act.put, List.setIfInBounds_toArray, List.set_cons_zero, List.set_cons_succ]
                  refine wpAnyH_take (i := 10) (oi := { dst := some 89, op := Op.extract (Operand.tmp 79) 1, type := 4, pos := "ref.go:80", after := #[{ on := 8, ground := Ground.data }, { on := 12, ground := Ground.gcOnly Departure.lateStores }], guard := none }) (v := ?_) rfl (by kernel_rfl) (by kernel_rfl) (by kernel_rfl) (fun _ _ _ h => h) (Or.inl ⟨by rfl, ?_⟩) hHeld ?_
                  rotate_left
                  · intro w hSw; (try dsimp only at hSw); go_simp; (try with_reducible rfl)
                  simp only [Act.put, List.setIfInBounds_toArray, List.set_cons_zero, List.set_cons_succ]
                  refine wpAnyH_ready (rs := [12]) (by kernel_rfl) (by simp) ?_
                  refine AllReadyH.cons (o := { dst := none, op := Op.store 29 (Operand.tmp 9) (Operand.tmp 88), type := 0, pos := "ref.go:80", after := #[{ on := 11, ground := Ground.data }, { on := 9, ground := Ground.data }, { on := 7, ground := Ground.chain }, { on := 0, ground := Ground.phase }, { on := 1, ground := Ground.phase }, { on := 2, ground := Ground.phase }, { on := 3, ground := Ground.phase }, { on := 4, ground := Ground.phase }, { on := 5, ground := Ground.phase }, { on := 6, ground := Ground.phase }, { on := 7, ground := Ground.phase }, { on := 8, ground := Ground.phase }, { on := 9, ground := Ground.phase }, { on := 10, ground := Ground.textOnly Departure.lateStores }, { on := 11, ground := Ground.phase }], guard := none }) rfl (fun K hK => ?_) AllReadyH.nil
                  obtain ⟨e0, e1, e2, ef⟩ := cells3 PG2.out
                  go_simp
                  obtain ⟨z3, hzz3⟩ : ∃ W, (((z2.setCell ⟨wr.heap.size, 0, none⟩ (.string yn)).setCell ⟨wr.heap.size, 1, none⟩ (.bool ys)).setCell ⟨wr.heap.size, 2, none⟩ (.slice ya yv.length yc)) = W := ⟨_, rfl⟩
                  have RB3 : Hid (Below wr.heap.size wr z3) := by unfold Hid; rw [← hzz3]; exact set3 RB2.out GZ.out _ _ _
                  have HO3 : Hid (AtAt z3 (.slice ya yv.length yc) yv) := by unfold Hid; rw [← hzz3]; exact AtAt.set3n (p := 0) HO2.out e0 e1 e2 (noInt_s _) (noInt_b _) (noInt_v _ _ _)
                  have PG3 : Hid (z3.heap[wr.heap.size]? = some (.cells #[.string yn, .bool ys, .slice ya yv.length yc] 29 (0, 0))) := by unfold Hid; rw [← hzz3]; exact box_set3 PG2.out _ _ _
                  clear e0 e1 e2 ef PG2 HO2
                  try rw [hzz3]
                  clear hzz3
                  refine hK.out _ _ (KH.out _ RB3.out) (fun hHeld => ?_)
                  clear RB2 hK
                  refine wpAnyH_take (i := 13) (oi := { dst := some 10, op := Op.assign (Operand.tmp 89), type := 4, pos := "ref.go:80", after := #[{ on := 10, ground := Ground.data }, { on := 12, ground := Ground.chain }, { on := 0, ground := Ground.phase }, { on := 1, ground := Ground.phase }, { on := 2, ground := Ground.phase }, { on := 3, ground := Ground.phase }, { on := 4, ground := Ground.phase }, { on := 5, ground := Ground.phase }, { on := 6, ground := Ground.phase }, { on := 7, ground := Ground.phase }, { on := 8, ground := Ground.phase }, { on := 9, ground := Ground.phase }, { on := 10, ground := Ground.phase }, { on := 11, ground := Ground.phase }, { on := 12, ground := Ground.phase }], guard := none }) (v := ?_) rfl (by kernel_rfl) (by kernel_rfl) (by kernel_rfl) (fun _ _ _ h => h) (Or.inl ⟨by rfl, ?_⟩) hHeld ?_
                  rotate_left
                  · intro w hSw; (try dsimp only at hSw); go_simp; (try with_reducible rfl)
                  simp only [Act.put, List.setIfInBounds_toArray, List.set_cons_zero, List.set_cons_succ]
                  refine wpAnyH_done (by kernel_rfl) ?_ _
                  clear hHeld KG
                  have RB := hid RB3.out
                  have HO := hid HO3.out
                  have PG := hid PG3.out
                  clear RB3 HO3 PG3
                  have BZ : Hid (Below w.heap.size w z3) := hBW.out.trans (RB.out.mono hBW.out.size)
                  clear HO PG HYF
                  obtain ⟨x1, x2, y1, y2, c1, c2, c3⟩ := KH.out _ RB.out
                  clear KH
                  have BL := hid (hbel.out.trans (RB.out.mono hbel.out.size))
                  rcases xs with _ | _
                  · go_wp2
                    exact ⟨⟨k + 1, by omega, by go_num, inB_step hm2.out hkl HXE.out (by rfl), BL.out⟩, by simp [intOf]; omega⟩
                  · cases hg : (M.getF s.fs xn).isSome with
                    | true =>
                      have HG := hid hg
                      clear hg
                      go_wp2
                      exact ⟨⟨k + 1, by omega, by go_num, inB_step hm2.out hkl HXE.out (by rw [← HF.out.1, HG.out]; rfl), BL.out⟩, by simp [intOf]; omega⟩
                    | false =>
                      have HG := hid hg
                      clear hg
                      go_wp2
                      go_ret
                      exact ⟨ret_bool (by rw [← HRES.out, MS.out, MT.out, HWS.out, MW.out, inB_no hkl HXE.out (by rw [← HF.out.1, HG.out]; rfl)]; rfl), BZ.out⟩
              · go_wp2
                go_ret
                exact ⟨ret_bool (by rw [← HRES.out, MS.out, MT.out, HWS.out, MW.out, in_end HA1.out hm2.out (by omega) (by omega)]; rfl), hBW.out⟩
end Go.Proofs.Ytnllcfagdcepfaa
