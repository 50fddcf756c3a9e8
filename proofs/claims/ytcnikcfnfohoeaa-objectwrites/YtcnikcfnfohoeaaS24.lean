/-
  The walk of the document's With. Conditions: a shape of at most 100000 fields of as many atoms, whose fields rise.
-/
import Derived.Test.YtcnikcfnfohoeaaS24m
set_option linter.unusedVariables false
set_option linter.unusedSimpArgs false
namespace Go.Proofs.Ytcnikcfnfohoeaa
open Go.RowKit Go.Sort

theorem leq_name {a b : ByteArray} (h : M.ltN b a = false) : (Op.bytesLess a.toList b.toList || a.toList == b.toList) = true := by
  rw [less_ltN, same_name]
  cases h2 : M.ltN a b with
  | true => rfl
  | false => rw [M.ltN_tri h2 h]; simp
set_option maxHeartbeats 8000000 in
set_option maxRecDepth 100000 in
theorem rwith_any (w : World) (va : Value) (s : M.Shp) (fn : ByteArray) (fs : Bool) (fvv : List M.Atm) (fa : Option Addr) (fcp : Nat) (h1 : ShAt w va s) (h2 : OneAt w ⟨⟨fn, fs, fvv⟩, fa, fcp⟩) (K1 : M.Sm 100000 s) (hr : M.RisF s.fs) :
    Calls Try.prog 37 #[va, .agg #[.string fn, .bool fs, .slice fa fvv.length fcp]] w fun e w' => ∃ v, e = .returned v ∧ ShAt w' v ⟨M.withF ⟨fn, fs, fvv⟩ s.fs, s.pr⟩ ∧ Below w.heap.size w w' := by
  obtain ⟨R, a, c, b, d, hs, rfl, hR, hP⟩ := h1.open
  have mixed := mixedP
  obtain ⟨i0, hi, hz0, hz1, hz2⟩ := info_parts infoField
  obtain ⟨hn, hvs, hpn⟩ := sm_fs K1 hs
  have HF : Hid (s.fs = fldOf R) := by rw [hs]; rfl
  have HRIS := hid hr
  have HFO := hid h2
  have HR := hid hR
  have HP := hid hP
  obtain ⟨sn, hsn⟩ : ∃ n, s.pr.length = n := ⟨_, rfl⟩
  rw [hsn] at HP ⊢
  clear h1 h2 hr hs hR hP K1 hvs hpn hsn
  have B0 := hid (Below.refl w.heap.size w)
  obtain ⟨V1, hV1⟩ : ∃ W, w.alloc (.cells #[.slice a R.length c, .slice b sn d] 25) = W := ⟨_, rfl⟩
  have hbx : Below w.heap.size w V1 := by rw [← hV1]; exact (gr_new _ _).below
  have Nbs : Hid (V1.heap[w.heap.size]? = some (.cells #[.slice a R.length c, .slice b sn d] 25 (0, 0))) := by unfold Hid; rw [← hV1]; exact new_at _ _
  have B2 := hid (B0.out.trans (hbx.mono B0.out.size))
  clear B0
  clear hbx
  obtain ⟨V3, hV3⟩ : ∃ W, V1.alloc (.cells #[.string fn, .bool fs, .slice fa fvv.length fcp] 29) = W := ⟨_, rfl⟩
  have hbx : Below V1.heap.size V1 V3 := by rw [← hV3]; exact (gr_new _ _).below
  have Nbf : Hid (V3.heap[V1.heap.size]? = some (.cells #[.string fn, .bool fs, .slice fa fvv.length fcp] 29 (0, 0))) := by unfold Hid; rw [← hV3]; exact new_at _ _
  have B4 := hid (B2.out.trans (hbx.mono B2.out.size))
  have Fbs4 := hid (bx_bel0 Nbs.out hbx)
  clear B2 Nbs
  clear hbx
  obtain ⟨V5, hV5⟩ : ∃ W, V3.alloc (.cells #[.slice none 0 0, .slice none 0 0] 25) = W := ⟨_, rfl⟩
  have hbx : Below V3.heap.size V3 V5 := by rw [← hV5]; exact (gr_new _ _).below
  have Nbr : Hid (V5.heap[V3.heap.size]? = some (.cells #[.slice none 0 0, .slice none 0 0] 25 (0, 0))) := by unfold Hid; rw [← hV5]; exact new_at _ _
  have B6 := hid (B4.out.trans (hbx.mono B4.out.size))
  have Fbs6 := hid (bx_bel0 Fbs4.out hbx)
  have Fbf6 := hid (bx_bel0 Nbf.out hbx)
  clear B4 Fbs4 Nbf
  clear hbx
  obtain ⟨xbs0, xbs1, _⟩ := cells2 Fbs6.out
  obtain ⟨xbf0, xbf1, xbf2, _⟩ := cells3 Fbf6.out
  obtain ⟨xbr0, xbr1, _⟩ := cells2 Nbr.out
  obtain ⟨V7, hV7⟩ : ∃ W, V5.alloc (.cells #[.slice none 0 0, .slice b sn d] 25) = W := ⟨_, rfl⟩
  have hbx : Below V5.heap.size V5 V7 := by rw [← hV7]; exact (gr_new _ _).below
  have Nbo : Hid (V7.heap[V5.heap.size]? = some (.cells #[.slice none 0 0, .slice b sn d] 25 (0, 0))) := by unfold Hid; rw [← hV7]; exact new_at _ _
  have B8 := hid (B6.out.trans (hbx.mono B6.out.size))
  have Fbs8 := hid (bx_bel0 Fbs6.out hbx)
  have Fbf8 := hid (bx_bel0 Fbf6.out hbx)
  have Fbr8 := hid (bx_bel0 Nbr.out hbx)
  clear B6 Fbs6 Fbf6 Nbr
  clear hbx
  have SD0 : Hid (Side w w.heap.size (V1.heap.size) (V3.heap.size) (V5.heap.size) V7.heap.size) := by
    have h1 : V1.heap.size = w.heap.size + 1 := by rw [← hV1]; simp
    have h2 : V3.heap.size = V1.heap.size + 1 := by rw [← hV3]; simp
    have h3 : V5.heap.size = V3.heap.size + 1 := by rw [← hV5]; simp
    have h4 : V7.heap.size = V5.heap.size + 1 := by rw [← hV7]; simp
    exact ⟨by omega, by omega, by omega, by omega, by omega, by omega⟩
  have L0 : Hid (LaidW w V7 w.heap.size (V1.heap.size) (V3.heap.size) (V5.heap.size) V7.heap.size (.cells #[.slice a R.length c, .slice b sn d] 25 (0, 0)) (.cells #[.string fn, .bool fs, .slice fa fvv.length fcp] 29 (0, 0)) (.cells #[.slice none 0 0, .slice none 0 0] 25 (0, 0)) (.slice none 0 0) (.slice b sn d)) := ⟨B8.out, Nat.le_refl _, Fbs8.out, Fbf8.out, Fbr8.out, Nbo.out⟩
  clear B8 Fbs8 Fbf8 Fbr8 Nbo
  go_enter Try.func37, Try.ntmps37
  go_wp2
  clear xbs0 xbs1 xbf0 xbf1 xbf2 xbr0 xbr1 hV1 hV3 hV5 hV7
  have R0 := hid (RowF.nil V7 V7.heap.size)
  generalize hg1 : V1.heap.size = g1 at SD0 L0 ⊢
  generalize hg2 : V3.heap.size = g2 at SD0 L0 ⊢
  generalize hg3 : V5.heap.size = g3 at SD0 L0 ⊢
  generalize hgb : V7.heap.size = base at SD0 L0 R0
  clear hg1 hg2 hg3 hgb
  have SD := SD0
  go_loopw [6, 7] (fun l i w' => ∃ (j : Nat) (laid : Bool) (acc0 : List Cel) (q0 : Option Addr) (m0 : Nat), j ≤ R.length ∧ l = .bool laid ∧ i = .int .i64 j ∧ Hid (LaidW w w' w.heap.size g1 g2 g3 base (.cells #[.slice a R.length c, .slice b sn d] 25 (0, 0)) (.cells #[.string fn, .bool fs, .slice fa fvv.length fcp] 29 (0, 0)) (.cells #[.slice none 0 0, .slice none 0 0] 25 (0, 0)) (.slice q0 acc0.length m0) (.slice b sn d)) ∧ Hid (RowF base w' (.slice q0 acc0.length m0) acc0) ∧ Hid (acc0.length ≤ j + laid.toNat) ∧ Hid (∀ x ∈ acc0, OneAt w x) ∧ Hid (M.wloop ⟨fn, fs, fvv⟩ laid (fldOf acc0) ((fldOf R).drop j) = M.wloop ⟨fn, fs, fvv⟩ false [] (fldOf R))) (fun _ i _ => R.length - (intOf i).toNat)
  case atStart => exact ⟨0, false, [], none, 0, Nat.zero_le _, rfl, rfl, L0, R0, Nat.zero_le _, (fun x hx => by cases hx), rfl⟩
  case round =>
    clear L0 R0 SD0
    obtain ⟨j, laid, acc0, q0, m0, hj, rfl, rfl, hl, hrow, HLEN, hall, HW⟩ := hrel
    by_cases hjl : j < R.length
    · obtain ⟨bb, o, rfl, hlt, hc⟩ := Rs_some HR.out hjl
      have HT0 := hc j hjl
      have HX0 := HR.out.1 _ (List.getElem_mem hjl)
      have hdrop : (fldOf R).drop j = R[j].f :: (fldOf R).drop (j + 1) := by
        rw [List.drop_eq_getElem_cons (by rw [fldOf_len]; exact hjl), fldOf_get R j hjl]
      obtain ⟨⟨⟨xn, xs, xv⟩, xa, xc⟩, hx⟩ : ∃ x, R[j] = x := ⟨_, rfl⟩
      rw [hx] at HT0 HX0 hdrop
      dsimp only at hdrop
      have HT := hid HT0
      have HX : Hid (OneAt w ⟨⟨xn, xs, xv⟩, xa, xc⟩) := HX0
      have HW0 : Hid (M.wloop ⟨fn, fs, fvv⟩ laid (fldOf acc0) (⟨xn, xs, xv⟩ :: (fldOf R).drop (j + 1)) = M.wloop ⟨fn, fs, fvv⟩ false [] (fldOf R)) := by unfold Hid; rw [← hdrop]; exact HW.out
      clear HT0 HX0 hdrop hx hc HW
      have HW := HW0
      clear HW0
      have KH : Hid (∀ (W : World) (vo : Value), LaidW w W w.heap.size g1 g2 g3 base (.cells #[.slice (some ⟨bb, o, none⟩) R.length c, .slice b sn d] 25 (0, 0)) (.cells #[.string fn, .bool fs, .slice fa fvv.length fcp] 29 (0, 0)) (.cells #[.slice none 0 0, .slice none 0 0] 25 (0, 0)) vo (.slice b sn d) → (W.cell? ⟨w.heap.size, 0, none⟩ = some (.slice (some ⟨bb, o, none⟩) R.length c) ∧ W.cell? ⟨w.heap.size, 1, none⟩ = some (.slice b sn d) ∧ W.cell? ⟨g1, 0, none⟩ = some (.string fn) ∧ W.cell? ⟨g1, 1, none⟩ = some (.bool fs) ∧ W.cell? ⟨g1, 2, none⟩ = some (.slice fa fvv.length fcp) ∧ W.cell? ⟨bb, o + j * 3, none⟩ = some (.string xn) ∧ W.cell? ⟨bb, o + j * 3 + 1, none⟩ = some (.bool xs) ∧ W.cell? ⟨bb, o + j * 3 + 2, none⟩ = some (.slice xa xv.length xc))) := fun W vo h => by
        obtain ⟨s0, s1, _⟩ := cells2 h.a1
        obtain ⟨f0, f1, f2, _⟩ := cells3 h.a2
        obtain ⟨c1, c2, c3⟩ := HT.out.bel hlt h.bel
        exact ⟨s0, s1, f0, f1, f2, c1, c2, c3⟩
      rcases laid with _ | _
      · have HLEN : Hid (acc0.length ≤ j + 0) := HLEN
        cases hlt2 : M.ltN xn fn with
        | true =>
          have HLT := hid hlt2
          have hb1 : Op.bytesLess fn.toList xn.toList = false := by rw [less_ltN]; exact M.ltN_asymm HLT.out
          have hb2 : (fn.toList == xn.toList) = false := by rw [same_name]; exact decide_eq_false fun e => M.ltN_ne HLT.out e.symm
          obtain ⟨s0, s1, _⟩ := cells2 hl.out.a1
          obtain ⟨f0, f1, f2, _⟩ := cells3 hl.out.a2
          obtain ⟨c1, c2, c3⟩ := HT.out.bel hlt hl.out.bel
          obtain ⟨o0, o1, _⟩ := cells2 hl.out.out
          go_wp2_with fail
          clear s0 s1 f0 f1 f2 c1 c2 c3 o0 o1
          have L1 : Hid (LaidW w wr.drew w.heap.size g1 g2 g3 base (.cells #[.slice (some ⟨bb, o, none⟩) R.length c, .slice b sn d] 25 (0, 0)) (.cells #[.string fn, .bool fs, .slice fa fvv.length fcp] 29 (0, 0)) (.cells #[.slice none 0 0, .slice none 0 0] 25 (0, 0)) (.slice q0 acc0.length m0) (.slice b sn d)) := hl.out.low SD.out (low_of_new hl.out.sz (Gr.refl _).drew.below)
          have R1 := hid (hrow.out.keep ((Gr.refl wr).drew.below))
          refine wp_region_held_drew (S := fun W => W.cell? ⟨w.heap.size, 0, none⟩ = some (.slice (some ⟨bb, o, none⟩) R.length c) ∧ W.cell? ⟨w.heap.size, 1, none⟩ = some (.slice b sn d) ∧ W.cell? ⟨g1, 0, none⟩ = some (.string fn) ∧ W.cell? ⟨g1, 1, none⟩ = some (.bool fs) ∧ W.cell? ⟨g1, 2, none⟩ = some (.slice fa fvv.length fcp) ∧ W.cell? ⟨bb, o + j * 3, none⟩ = some (.string xn) ∧ W.cell? ⟨bb, o + j * 3 + 1, none⟩ = some (.bool xs) ∧ W.cell? ⟨bb, o + j * 3 + 2, none⟩ = some (.slice xa xv.length xc)) (by kernel_rfl) (KH.out _ _ L1.out) (fun hHeld => ?_)
          refine wpAnyH_take (i := 0) (oi := { dst := some 18, op := Op.move (Operand.tmp 6), type := 4, pos := "ref.go:34", after := #[], guard := none }) (v := ?_) rfl (by kernel_rfl) (by kernel_rfl) (by kernel_rfl) (fun _ _ _ h => h) (Or.inl ⟨by rfl, ?_⟩) hHeld ?_
          rotate_left
          · intro w hSw; (try dsimp only at hSw); go_simp; (try with_reducible rfl)
          simp only [Act.put, List.setIfInBounds_toArray, List.set_cons_zero, List.set_cons_succ]
          refine wpAnyH_take (i := 1) (oi := { dst := some 19, op := Op.unOp UnOp.not 4 (Operand.tmp 18), type := 4, pos := "ref.go:34", after := #[{ on := 0, ground := Ground.data }], guard := none }) (v := ?_) rfl (by kernel_rfl) (by kernel_rfl) (by kernel_rfl) (fun _ _ _ h => h) (Or.inl ⟨by rfl, ?_⟩) hHeld ?_
          rotate_left
          · intro w hSw; (try dsimp only at hSw); go_simp; (try with_reducible rfl)
          simp only [Act.put, List.setIfInBounds_toArray, List.set_cons_zero, List.set_cons_succ]
          refine wpAnyH_take (i := 2) (oi := { dst := some 20, op := Op.move (Operand.tmp 19), type := 4, pos := "ref.go:34", after := #[{ on := 1, ground := Ground.data }], guard := none }) (v := ?_) rfl (by kernel_rfl) (by kernel_rfl) (by kernel_rfl) (fun _ _ _ h => h) (Or.inl ⟨by rfl, ?_⟩) hHeld ?_
          rotate_left
          · intro w hSw; (try dsimp only at hSw); go_simp; (try with_reducible rfl)
          simp only [Act.put, List.setIfInBounds_toArray, List.set_cons_zero, List.set_cons_succ]
          refine wpAnyH_take (i := 3) (oi := { dst := some 21, op := Op.fieldAddr 29 (Operand.tmp 3) 0, type := 0, pos := "ref.go:34", after := #[{ on := 2, ground := Ground.guard }], guard := some (2, true) }) (v := ?_) rfl (by kernel_rfl) (by kernel_rfl) (by kernel_rfl) (fun _ _ _ h => h) (Or.inl ⟨by rfl, ?_⟩) hHeld ?_
          rotate_left
          · intro w hSw; (try dsimp only at hSw); go_simp; (try with_reducible rfl)
          simp only [Act.put, List.setIfInBounds_toArray, List.set_cons_zero, List.set_cons_succ]
          refine wpAnyH_take (i := 4) (oi := { dst := some 22, op := Op.load 9 (Operand.tmp 21), type := 9, pos := "ref.go:34", after := #[{ on := 3, ground := Ground.data }, { on := 2, ground := Ground.guard }], guard := some (2, true) }) (v := ?_) rfl (by kernel_rfl) (by kernel_rfl) (by kernel_rfl) (fun _ _ _ h => h) (Or.inl ⟨by rfl, ?_⟩) hHeld ?_
          rotate_left
          · intro w hSw; (try dsimp only at hSw); go_simp; (try with_reducible rfl)
          simp only [Act.put, List.setIfInBounds_toArray, List.set_cons_zero, List.set_cons_succ]
          refine wpAnyH_take (i := 5) (oi := { dst := some 23, op := Op.fieldAddr 25 (Operand.tmp 2) 0, type := 0, pos := "ref.go:34", after := #[{ on := 2, ground := Ground.guard }], guard := some (2, true) }) (v := ?_) rfl (by kernel_rfl) (by kernel_rfl) (by kernel_rfl) (fun _ _ _ h => h) (Or.inl ⟨by rfl, ?_⟩) hHeld ?_
          rotate_left
          · intro w hSw; (try dsimp only at hSw); go_simp; (try with_reducible rfl)
          simp only [Act.put, List.setIfInBounds_toArray, List.set_cons_zero, List.set_cons_succ]
          refine wpAnyH_take (i := 6) (oi := { dst := some 24, op := Op.load 22 (Operand.tmp 23), type := 22, pos := "ref.go:34", after := #[{ on := 5, ground := Ground.data }, { on := 2, ground := Ground.guard }], guard := some (2, true) }) (v := ?_) rfl (by kernel_rfl) (by kernel_rfl) (by kernel_rfl) (fun _ _ _ h => h) (Or.inl ⟨by rfl, ?_⟩) hHeld ?_
          rotate_left
          · intro w hSw; (try dsimp only at hSw); go_simp; (try with_reducible rfl)
          simp only [Act.put, List.setIfInBounds_toArray, List.set_cons_zero, List.set_cons_succ]
          refine wpAnyH_take (i := 7) (oi := { dst := some 25, op := Op.move (Operand.tmp 7), type := 3, pos := "ref.go:34", after := #[{ on := 2, ground := Ground.guard }], guard := some (2, true) }) (v := ?_) rfl (by kernel_rfl) (by kernel_rfl) (by kernel_rfl) (fun _ _ _ h => h) (Or.inl ⟨by rfl, ?_⟩) hHeld ?_
          rotate_left
          · intro w hSw; (try dsimp only at hSw); go_simp; (try with_reducible rfl)
          simp only [Act.put, List.setIfInBounds_toArray, List.set_cons_zero, List.set_cons_succ]
          refine wpAnyH_take (i := 8) (oi := { dst := some 26, op := Op.indexAddr 22 (Operand.tmp 24) (Operand.tmp 25), type := 0, pos := "ref.go:34", after := #[{ on := 6, ground := Ground.data }, { on := 7, ground := Ground.data }, { on := 2, ground := Ground.guard }], guard := some (2, true) }) (v := ?_) rfl (by kernel_rfl) (by kernel_rfl) (by kernel_rfl) (fun _ _ _ h => h) (Or.inl ⟨by rfl, ?_⟩) hHeld ?_
          rotate_left
          · intro w hSw; (try dsimp only at hSw); go_simp; (try with_reducible rfl)
          simp only [Act.put, List.setIfInBounds_toArray, List.set_cons_zero, List.set_cons_succ]
          refine wpAnyH_take (i := 9) (oi := { dst := some 27, op := Op.fieldAddr 29 (Operand.tmp 26) 0, type := 0, pos := "ref.go:34", after := #[{ on := 8, ground := Ground.data }, { on := 2, ground := Ground.guard }], guard := some (2, true) }) (v := ?_) rfl (by kernel_rfl) (by kernel_rfl) (by kernel_rfl) (fun _ _ _ h => h) (Or.inl ⟨by rfl, ?_⟩) hHeld ?_
          rotate_left
          · intro w hSw; (try dsimp only at hSw); go_simp; (try with_reducible rfl)
          simp only [Act.put, List.setIfInBounds_toArray, List.set_cons_zero, List.set_cons_succ]
          refine wpAnyH_take (i := 10) (oi := { dst := some 28, op := Op.load 9 (Operand.tmp 27), type := 9, pos := "ref.go:34", after := #[{ on := 9, ground := Ground.data }, { on := 2, ground := Ground.guard }], guard := some (2, true) }) (v := ?_) rfl (by kernel_rfl) (by kernel_rfl) (by kernel_rfl) (fun _ _ _ h => h) (Or.inl ⟨by rfl, ?_⟩) hHeld ?_
          rotate_left
          · intro w hSw; (try dsimp only at hSw); go_simp; (try with_reducible rfl)
          simp only [Act.put, List.setIfInBounds_toArray, List.set_cons_zero, List.set_cons_succ]
          refine wpAnyH_take (i := 11) (oi := { dst := some 29, op := Op.binOp BinOp.leq 9 (Operand.tmp 22) (Operand.tmp 28) 9, type := 4, pos := "ref.go:34", after := #[{ on := 4, ground := Ground.data }, { on := 10, ground := Ground.data }, { on := 2, ground := Ground.guard }], guard := some (2, true) }) (v := ?_) rfl (by kernel_rfl) (by kernel_rfl) (by kernel_rfl) (fun _ _ _ h => h) (Or.inl ⟨by rfl, ?_⟩) hHeld ?_
          rotate_left
          · intro w hSw; (try dsimp only at hSw); go_simp; (try with_reducible rfl)
          simp only [Act.put, List.setIfInBounds_toArray, List.set_cons_zero, List.set_cons_succ]
          refine wpAnyH_take (i := 12) (oi := { dst := some 30, op := Op.pick (Operand.tmp 20) (Operand.tmp 29) (Operand.const (Value.bool false)), type := 4, pos := "ref.go:34", after := #[{ on := 2, ground := Ground.data }, { on := 11, ground := Ground.data }], guard := none }) (v := ?_) rfl (by kernel_rfl) (by kernel_rfl) (by kernel_rfl) (fun _ _ _ h => h) (Or.inl ⟨by rfl, ?_⟩) hHeld ?_
          rotate_left
          · intro w hSw; (try dsimp only at hSw); go_simp; (try with_reducible rfl)
          simp only [Act.put, List.setIfInBounds_toArray, List.set_cons_zero, List.set_cons_succ]
          refine wpAnyH_done (by kernel_rfl) ?_ _
          clear hHeld
          clear hl hrow
          generalize hw1 : wr.drew = W1 at L1 R1 ⊢
          clear hw1
          clear hb1 hb2
          have he : xn ≠ fn := M.ltN_ne HLT.out
          have hd : (xn.toList == fn.toList) = false := by rw [same_name]; exact decide_eq_false he
          clear he hlt2
          obtain ⟨s0, s1, _⟩ := cells2 L1.out.a1
          obtain ⟨f0, f1, f2, _⟩ := cells3 L1.out.a2
          obtain ⟨c1, c2, c3⟩ := HT.out.bel hlt L1.out.bel
          obtain ⟨o0, o1, _⟩ := cells2 L1.out.out
          go_wp2_with fail
          clear s0 s1 f0 f1 f2 c1 c2 c3 o0 o1
          have L2 : Hid (LaidW w W1.drew w.heap.size g1 g2 g3 base (.cells #[.slice (some ⟨bb, o, none⟩) R.length c, .slice b sn d] 25 (0, 0)) (.cells #[.string fn, .bool fs, .slice fa fvv.length fcp] 29 (0, 0)) (.cells #[.slice none 0 0, .slice none 0 0] 25 (0, 0)) (.slice q0 acc0.length m0) (.slice b sn d)) := L1.out.low SD.out (low_of_new L1.out.sz (Gr.refl _).drew.below)
          have R2 := hid (R1.out.keep ((Gr.refl W1).drew.below))
          refine wp_region_held_drew (S := fun W => W.cell? ⟨w.heap.size, 0, none⟩ = some (.slice (some ⟨bb, o, none⟩) R.length c) ∧ W.cell? ⟨w.heap.size, 1, none⟩ = some (.slice b sn d) ∧ W.cell? ⟨g1, 0, none⟩ = some (.string fn) ∧ W.cell? ⟨g1, 1, none⟩ = some (.bool fs) ∧ W.cell? ⟨g1, 2, none⟩ = some (.slice fa fvv.length fcp) ∧ W.cell? ⟨bb, o + j * 3, none⟩ = some (.string xn) ∧ W.cell? ⟨bb, o + j * 3 + 1, none⟩ = some (.bool xs) ∧ W.cell? ⟨bb, o + j * 3 + 2, none⟩ = some (.slice xa xv.length xc)) (by kernel_rfl) (KH.out _ _ L2.out) (fun hHeld => ?_)
          refine wpAnyH_take (i := 0) (oi := { dst := some 37, op := Op.fieldAddr 25 (Operand.tmp 2) 0, type := 0, pos := "ref.go:38", after := #[], guard := none }) (v := ?_) rfl (by kernel_rfl) (by kernel_rfl) (by kernel_rfl) (fun _ _ _ h => h) (Or.inl ⟨by rfl, ?_⟩) hHeld ?_
          rotate_left
          · intro w hSw; (try dsimp only at hSw); go_simp; (try with_reducible rfl)
          simp only [Act.put, List.setIfInBounds_toArray, List.set_cons_zero, List.set_cons_succ]
          refine wpAnyH_take (i := 1) (oi := { dst := some 38, op := Op.load 22 (Operand.tmp 37), type := 22, pos := "ref.go:38", after := #[{ on := 0, ground := Ground.data }], guard := none }) (v := ?_) rfl (by kernel_rfl) (by kernel_rfl) (by kernel_rfl) (fun _ _ _ h => h) (Or.inl ⟨by rfl, ?_⟩) hHeld ?_
          rotate_left
          · intro w hSw; (try dsimp only at hSw); go_simp; (try with_reducible rfl)
          simp only [Act.put, List.setIfInBounds_toArray, List.set_cons_zero, List.set_cons_succ]
          refine wpAnyH_take (i := 2) (oi := { dst := some 39, op := Op.move (Operand.tmp 7), type := 3, pos := "ref.go:38", after := #[], guard := none }) (v := ?_) rfl (by kernel_rfl) (by kernel_rfl) (by kernel_rfl) (fun _ _ _ h => h) (Or.inl ⟨by rfl, ?_⟩) hHeld ?_
          rotate_left
          · intro w hSw; (try dsimp only at hSw); go_simp; (try with_reducible rfl)
          simp only [Act.put, List.setIfInBounds_toArray, List.set_cons_zero, List.set_cons_succ]
          refine wpAnyH_take (i := 3) (oi := { dst := some 40, op := Op.indexAddr 22 (Operand.tmp 38) (Operand.tmp 39), type := 0, pos := "ref.go:38", after := #[{ on := 1, ground := Ground.data }, { on := 2, ground := Ground.data }], guard := none }) (v := ?_) rfl (by kernel_rfl) (by kernel_rfl) (by kernel_rfl) (fun _ _ _ h => h) (Or.inl ⟨by rfl, ?_⟩) hHeld ?_
          rotate_left
          · intro w hSw; (try dsimp only at hSw); go_simp; (try with_reducible rfl)
          simp only [Act.put, List.setIfInBounds_toArray, List.set_cons_zero, List.set_cons_succ]
          refine wpAnyH_take (i := 4) (oi := { dst := some 41, op := Op.fieldAddr 29 (Operand.tmp 40) 0, type := 0, pos := "ref.go:38", after := #[{ on := 3, ground := Ground.data }], guard := none }) (v := ?_) rfl (by kernel_rfl) (by kernel_rfl) (by kernel_rfl) (fun _ _ _ h => h) (Or.inl ⟨by rfl, ?_⟩) hHeld ?_
          rotate_left
          · intro w hSw; (try dsimp only at hSw); go_simp; (try with_reducible rfl)
          simp only [Act.put, List.setIfInBounds_toArray, List.set_cons_zero, List.set_cons_succ]
          refine wpAnyH_take (i := 5) (oi := { dst := some 42, op := Op.load 9 (Operand.tmp 41), type := 9, pos := "ref.go:38", after := #[{ on := 4, ground := Ground.data }], guard := none }) (v := ?_) rfl (by kernel_rfl) (by kernel_rfl) (by kernel_rfl) (fun _ _ _ h => h) (Or.inl ⟨by rfl, ?_⟩) hHeld ?_
          rotate_left
          · intro w hSw; (try dsimp only at hSw); go_simp; (try with_reducible rfl)
          simp only [Act.put, List.setIfInBounds_toArray, List.set_cons_zero, List.set_cons_succ]
          refine wpAnyH_take (i := 6) (oi := { dst := some 43, op := Op.fieldAddr 29 (Operand.tmp 3) 0, type := 0, pos := "ref.go:38", after := #[], guard := none }) (v := ?_) rfl (by kernel_rfl) (by kernel_rfl) (by kernel_rfl) (fun _ _ _ h => h) (Or.inl ⟨by rfl, ?_⟩) hHeld ?_
          rotate_left
          · intro w hSw; (try dsimp only at hSw); go_simp; (try with_reducible rfl)
          simp only [Act.put, List.setIfInBounds_toArray, List.set_cons_zero, List.set_cons_succ]
          refine wpAnyH_take (i := 7) (oi := { dst := some 44, op := Op.load 9 (Operand.tmp 43), type := 9, pos := "ref.go:38", after := #[{ on := 6, ground := Ground.data }], guard := none }) (v := ?_) rfl (by kernel_rfl) (by kernel_rfl) (by kernel_rfl) (fun _ _ _ h => h) (Or.inl ⟨by rfl, ?_⟩) hHeld ?_
          rotate_left
          · intro w hSw; (try dsimp only at hSw); go_simp; (try with_reducible rfl)
          simp only [Act.put, List.setIfInBounds_toArray, List.set_cons_zero, List.set_cons_succ]
          refine wpAnyH_take (i := 8) (oi := { dst := some 45, op := Op.binOp BinOp.neq 9 (Operand.tmp 42) (Operand.tmp 44) 9, type := 4, pos := "ref.go:38", after := #[{ on := 5, ground := Ground.data }, { on := 7, ground := Ground.data }], guard := none }) (v := ?_) rfl (by kernel_rfl) (by kernel_rfl) (by kernel_rfl) (fun _ _ _ h => h) (Or.inl ⟨by rfl, ?_⟩) hHeld ?_
          rotate_left
          · intro w hSw; (try dsimp only at hSw); go_simp; (try with_reducible rfl)
          simp only [Act.put, List.setIfInBounds_toArray, List.set_cons_zero, List.set_cons_succ]
          refine wpAnyH_done (by kernel_rfl) ?_ _
          clear hHeld
          clear L1 R1
          generalize hw2 : W1.drew = W2 at L2 R2 ⊢
          clear hw2
          obtain ⟨s0, s1, _⟩ := cells2 L2.out.a1
          obtain ⟨f0, f1, f2, _⟩ := cells3 L2.out.a2
          obtain ⟨c1, c2, c3⟩ := HT.out.bel hlt L2.out.bel
          obtain ⟨o0, o1, _⟩ := cells2 L2.out.out
          go_wp2_with fail
          clear s0 s1 f0 f1 f2 c1 c2 c3 o0 o1
          have L3 : Hid (LaidW w W2.drew w.heap.size g1 g2 g3 base (.cells #[.slice (some ⟨bb, o, none⟩) R.length c, .slice b sn d] 25 (0, 0)) (.cells #[.string fn, .bool fs, .slice fa fvv.length fcp] 29 (0, 0)) (.cells #[.slice none 0 0, .slice none 0 0] 25 (0, 0)) (.slice q0 acc0.length m0) (.slice b sn d)) := L2.out.low SD.out (low_of_new L2.out.sz (Gr.refl _).drew.below)
          have R3 := hid (R2.out.keep ((Gr.refl W2).drew.below))
          have hlen : acc0.length ≤ 100001 := (by have := HLEN.out; omega)
          have HLN := hid hlen
          clear hlen
          refine wp_region_held_drew (S := fun W => W.cell? ⟨w.heap.size, 0, none⟩ = some (.slice (some ⟨bb, o, none⟩) R.length c) ∧ W.cell? ⟨w.heap.size, 1, none⟩ = some (.slice b sn d) ∧ W.cell? ⟨g1, 0, none⟩ = some (.string fn) ∧ W.cell? ⟨g1, 1, none⟩ = some (.bool fs) ∧ W.cell? ⟨g1, 2, none⟩ = some (.slice fa fvv.length fcp) ∧ W.cell? ⟨bb, o + j * 3, none⟩ = some (.string xn) ∧ W.cell? ⟨bb, o + j * 3 + 1, none⟩ = some (.bool xs) ∧ W.cell? ⟨bb, o + j * 3 + 2, none⟩ = some (.slice xa xv.length xc)) (by kernel_rfl) (KH.out _ _ L3.out) (fun hHeld => ?_)
          clear L2 R2
          refine wpAnyH_take (i := 0) (oi := { dst := some 46, op := Op.fieldAddr 25 (Operand.tmp 5) 0, type := 0, pos := "ref.go:39", after := #[], guard := none }) (v := ?_) rfl (by kernel_rfl) (by kernel_rfl) (by kernel_rfl) (fun _ _ _ h => h) (Or.inl ⟨by rfl, ?_⟩) hHeld ?_
          rotate_left
          · intro w hSw; (try dsimp only at hSw); go_simp; (try with_reducible rfl)
          simp only [Act.put, List.setIfInBounds_toArray, List.set_cons_zero, List.set_cons_succ]
          refine wpAnyH_take (i := 2) (oi := { dst := some 48, op := Op.fieldAddr 25 (Operand.tmp 2) 0, type := 0, pos := "ref.go:39", after := #[], guard := none }) (v := ?_) rfl (by kernel_rfl) (by kernel_rfl) (by kernel_rfl) (fun _ _ _ h => h) (Or.inl ⟨by rfl, ?_⟩) hHeld ?_
          rotate_left
          · intro w hSw; (try dsimp only at hSw); go_simp; (try with_reducible rfl)
          simp only [Act.put, List.setIfInBounds_toArray, List.set_cons_zero, List.set_cons_succ]
          refine wpAnyH_take (i := 3) (oi := { dst := some 49, op := Op.load 22 (Operand.tmp 48), type := 22, pos := "ref.go:39", after := #[{ on := 2, ground := Ground.data }], guard := none }) (v := ?_) rfl (by kernel_rfl) (by kernel_rfl) (by kernel_rfl) (fun _ _ _ h => h) (Or.inl ⟨by rfl, ?_⟩) hHeld ?_
          rotate_left
          · intro w hSw; (try dsimp only at hSw); go_simp; (try with_reducible rfl)
          simp only [Act.put, List.setIfInBounds_toArray, List.set_cons_zero, List.set_cons_succ]
          refine wpAnyH_take (i := 4) (oi := { dst := some 50, op := Op.move (Operand.tmp 7), type := 3, pos := "ref.go:39", after := #[], guard := none }) (v := ?_) rfl (by kernel_rfl) (by kernel_rfl) (by kernel_rfl) (fun _ _ _ h => h) (Or.inl ⟨by rfl, ?_⟩) hHeld ?_
          rotate_left
          · intro w hSw; (try dsimp only at hSw); go_simp; (try with_reducible rfl)
          simp only [Act.put, List.setIfInBounds_toArray, List.set_cons_zero, List.set_cons_succ]
          refine wpAnyH_take (i := 5) (oi := { dst := some 51, op := Op.indexAddr 22 (Operand.tmp 49) (Operand.tmp 50), type := 0, pos := "ref.go:39", after := #[{ on := 3, ground := Ground.data }, { on := 4, ground := Ground.data }], guard := none }) (v := ?_) rfl (by kernel_rfl) (by kernel_rfl) (by kernel_rfl) (fun _ _ _ h => h) (Or.inl ⟨by rfl, ?_⟩) hHeld ?_
          rotate_left
          · intro w hSw; (try dsimp only at hSw); go_simp; (try with_reducible rfl)
          simp only [Act.put, List.setIfInBounds_toArray, List.set_cons_zero, List.set_cons_succ]
          refine wpAnyH_take (i := 6) (oi := { dst := some 52, op := Op.load 29 (Operand.tmp 51), type := 29, pos := "ref.go:39", after := #[{ on := 5, ground := Ground.data }], guard := none }) (v := ?_) rfl (by kernel_rfl) (by kernel_rfl) (by kernel_rfl) (fun _ _ _ h => h) (Or.inl ⟨by rfl, ?_⟩) hHeld ?_
          rotate_left
          · intro w hSw; (try dsimp only at hSw); go_simp; (try with_reducible rfl)
          simp only [Act.put, List.setIfInBounds_toArray, List.set_cons_zero, List.set_cons_succ]
          refine wpAnyH_ready (rs := [1, 7]) (by kernel_rfl) (by simp) ?_
          refine AllReadyH.cons (o := { dst := some 47, op := Op.load 22 (Operand.tmp 46), type := 22, pos := "ref.go:39", after := #[{ on := 0, ground := Ground.data }], guard := none }) rfl (fun K hK => ?_) (AllReadyH.cons (o := { dst := some 53, op := Op.buildSlice 22 1 #[(0, Operand.tmp 52)], type := 22, pos := "ref.go:39", after := #[{ on := 6, ground := Ground.data }], guard := none }) rfl (fun K hK => ?_) AllReadyH.nil)
          · obtain ⟨o0, o1, _⟩ := cells2 L3.out.out
            go_simp
            clear o0 o1
            refine hK.out _ _ (KH.out _ _ L3.out) (fun hHeld => ?_)
            clear hK
            refine wpAnyH_ready (rs := [7]) (by kernel_rfl) (by simp) ?_
            refine AllReadyH.cons (o := { dst := some 53, op := Op.buildSlice 22 1 #[(0, Operand.tmp 52)], type := 22, pos := "ref.go:39", after := #[{ on := 6, ground := Ground.data }], guard := none }) rfl (fun K hK => ?_) AllReadyH.nil
            obtain ⟨z5, hz5⟩ : ∃ W, W2.drew.alloc (.cells #[.string xn, .bool xs, .slice xa xv.length xc] 29) = W := ⟨_, rfl⟩
            go_simp
            have hb : Below W2.drew.heap.size W2.drew z5 := by rw [← hz5]; exact (gr_new _ _).below
            have NF : Hid (∀ i u, (fc ⟨⟨xn, xs, xv⟩, xa, xc⟩)[i]? = some u → z5.cell? ((⟨W2.heap.size, 0, none⟩ : Addr).add i) = some u) := by unfold Hid; rw [← hz5]; exact new_fc _ _ _
            have L5 : Hid (LaidW w z5 w.heap.size g1 g2 g3 base (.cells #[.slice (some ⟨bb, o, none⟩) R.length c, .slice b sn d] 25 (0, 0)) (.cells #[.string fn, .bool fs, .slice fa fvv.length fcp] 29 (0, 0)) (.cells #[.slice none 0 0, .slice none 0 0] 25 (0, 0)) (.slice q0 acc0.length m0) (.slice b sn d)) := L3.out.low SD.out (low_of_new L3.out.sz hb)
            have R5 := hid (R3.out.keep hb)
            clear hb hz5 L3 R3
            refine hK.out _ _ (KH.out _ _ L5.out) (fun hHeld => ?_)
            clear hK
            refine wpAnyH_ready (rs := [8]) (by kernel_rfl) (by simp) ?_
            refine AllReadyH.cons (o := { dst := some 54, op := Op.call { callee := Callee.builtin Builtin.append, args := #[Operand.tmp 47, Operand.tmp 53], argTypes := #[22, 22] }, type := 22, pos := "ref.go:39", after := #[{ on := 1, ground := Ground.data }, { on := 7, ground := Ground.data }], guard := none }) rfl (fun K hK => ?_) AllReadyH.nil
            refine step_append_own (by rfl) _ _ (by rfl) base (.slice q0 acc0.length m0) acc0 (by rfl) R5.out ⟨W2.heap.size, 0, none⟩ 1 ⟨⟨xn, xs, xv⟩, xa, xc⟩ (by rfl) NF.out (by have := HLN.out; omega) L5.out.sz ?_
            intro q6 m6 z6 hrow hg
            have L6 : Hid (LaidW w z6 w.heap.size g1 g2 g3 base (.cells #[.slice (some ⟨bb, o, none⟩) R.length c, .slice b sn d] 25 (0, 0)) (.cells #[.string fn, .bool fs, .slice fa fvv.length fcp] 29 (0, 0)) (.cells #[.slice none 0 0, .slice none 0 0] 25 (0, 0)) (.slice q0 acc0.length m0) (.slice b sn d)) := L5.out.low SD.out (low_of_grown L5.out.sz R5.out hg)
            obtain ⟨acc6, hacc6⟩ : ∃ l, acc0 ++ [(⟨⟨xn, xs, xv⟩, xa, xc⟩ : Cel)] = l := ⟨_, rfl⟩
            rw [hacc6] at hrow ⊢
            have R6 := hid hrow
            have HL6 : Hid (acc6.length = acc0.length + 1) := by unfold Hid; rw [← hacc6, List.length_append]; rfl
            have HA6 : Hid (∀ x ∈ acc6, OneAt w x) := by unfold Hid; rw [← hacc6]; exact all_snoc hall.out HX.out
            have HW6 : Hid (M.wloop ⟨fn, fs, fvv⟩ false (fldOf acc6) ((fldOf R).drop (j + 1)) = M.wloop ⟨fn, fs, fvv⟩ false [] (fldOf R)) := by unfold Hid; rw [← hacc6, fldOf_snoc]; exact wl_less HW.out HLT.out
            clear hrow hg hacc6 NF L5 R5
            refine hK.out _ _ (KH.out _ _ L6.out) (fun hHeld => ?_)
            clear hK
            refine wpAnyH_take (i := 9) (oi := { dst := some 55, op := Op.fieldAddr 25 (Operand.tmp 5) 0, type := 0, pos := "ref.go:39", after := #[{ on := 0, ground := Ground.phase }, { on := 1, ground := Ground.phase }, { on := 2, ground := Ground.phase }, { on := 3, ground := Ground.phase }, { on := 4, ground := Ground.phase }, { on := 5, ground := Ground.phase }, { on := 6, ground := Ground.phase }, { on := 7, ground := Ground.phase }, { on := 8, ground := Ground.phase }], guard := none }) (v := ?_) rfl (by kernel_rfl) (by kernel_rfl) (by kernel_rfl) (fun _ _ _ h => h) (Or.inl ⟨by rfl, ?_⟩) hHeld ?_
            rotate_left
            · intro w hSw; (try dsimp only at hSw); go_simp; (try with_reducible rfl)
            simp only [Act.put, List.setIfInBounds_toArray, List.set_cons_zero, List.set_cons_succ]
            refine wpAnyH_ready (rs := [10]) (by kernel_rfl) (by simp) ?_
            refine AllReadyH.cons (o := { dst := none, op := Op.store 22 (Operand.tmp 55) (Operand.tmp 54), type := 0, pos := "ref.go:39", after := #[{ on := 9, ground := Ground.data }, { on := 8, ground := Ground.data }, { on := 8, ground := Ground.chain }, { on := 0, ground := Ground.phase }, { on := 1, ground := Ground.phase }, { on := 2, ground := Ground.phase }, { on := 3, ground := Ground.phase }, { on := 4, ground := Ground.phase }, { on := 5, ground := Ground.phase }, { on := 6, ground := Ground.phase }, { on := 7, ground := Ground.phase }, { on := 8, ground := Ground.phase }], guard := none }) rfl (fun K hK => ?_) AllReadyH.nil
            obtain ⟨o0, o1, _⟩ := cells2 L6.out.out
            go_simp
            clear o0 o1
            have L7 : Hid (LaidW w (z6.setCell ⟨g3, 0, none⟩ (.slice q6 acc6.length m6)) w.heap.size g1 g2 g3 base (.cells #[.slice (some ⟨bb, o, none⟩) R.length c, .slice b sn d] 25 (0, 0)) (.cells #[.string fn, .bool fs, .slice fa fvv.length fcp] 29 (0, 0)) (.cells #[.slice none 0 0, .slice none 0 0] 25 (0, 0)) (.slice q6 acc6.length m6) (.slice b sn d)) := L6.out.put SD.out _
            have R7 := hid (RowF.other (p := 0) (u := .slice q6 acc6.length m6) R6.out SD.out.n3)
            clear L6 R6
            refine hK.out _ _ (KH.out _ _ L7.out) (fun hHeld => ?_)
            clear hK
            refine wpAnyH_done (by kernel_rfl) ?_ _
            clear hHeld
            go_wp2
            exact ⟨⟨j + 1, false, acc6, q6, m6, by omega, rfl, by go_num, L7, R7, (by show _ ≤ j + 1 + 0; rw [HL6.out]; have := HLEN.out; omega), HA6, HW6⟩, by simp [intOf]; omega⟩
          · obtain ⟨z8, hz8⟩ : ∃ W, W2.drew.alloc (.cells #[.string xn, .bool xs, .slice xa xv.length xc] 29) = W := ⟨_, rfl⟩
            go_simp
            have hb : Below W2.drew.heap.size W2.drew z8 := by rw [← hz8]; exact (gr_new _ _).below
            have NF : Hid (∀ i u, (fc ⟨⟨xn, xs, xv⟩, xa, xc⟩)[i]? = some u → z8.cell? ((⟨W2.heap.size, 0, none⟩ : Addr).add i) = some u) := by unfold Hid; rw [← hz8]; exact new_fc _ _ _
            have L8 : Hid (LaidW w z8 w.heap.size g1 g2 g3 base (.cells #[.slice (some ⟨bb, o, none⟩) R.length c, .slice b sn d] 25 (0, 0)) (.cells #[.string fn, .bool fs, .slice fa fvv.length fcp] 29 (0, 0)) (.cells #[.slice none 0 0, .slice none 0 0] 25 (0, 0)) (.slice q0 acc0.length m0) (.slice b sn d)) := L3.out.low SD.out (low_of_new L3.out.sz hb)
            have R8 := hid (R3.out.keep hb)
            clear hb hz8 L3 R3
            refine hK.out _ _ (KH.out _ _ L8.out) (fun hHeld => ?_)
            clear hK
            refine wpAnyH_ready (rs := [1]) (by kernel_rfl) (by simp) ?_
            refine AllReadyH.cons (o := { dst := some 47, op := Op.load 22 (Operand.tmp 46), type := 22, pos := "ref.go:39", after := #[{ on := 0, ground := Ground.data }], guard := none }) rfl (fun K hK => ?_) AllReadyH.nil
            obtain ⟨o0, o1, _⟩ := cells2 L8.out.out
            go_simp
            clear o0 o1
            refine hK.out _ _ (KH.out _ _ L8.out) (fun hHeld => ?_)
            clear hK
            refine wpAnyH_ready (rs := [8]) (by kernel_rfl) (by simp) ?_
            refine AllReadyH.cons (o := { dst := some 54, op := Op.call { callee := Callee.builtin Builtin.append, args := #[Operand.tmp 47, Operand.tmp 53], argTypes := #[22, 22] }, type := 22, pos := "ref.go:39", after := #[{ on := 1, ground := Ground.data }, { on := 7, ground := Ground.data }], guard := none }) rfl (fun K hK => ?_) AllReadyH.nil
            refine step_append_own (by rfl) _ _ (by rfl) base (.slice q0 acc0.length m0) acc0 (by rfl) R8.out ⟨W2.heap.size, 0, none⟩ 1 ⟨⟨xn, xs, xv⟩, xa, xc⟩ (by rfl) NF.out (by have := HLN.out; omega) L8.out.sz ?_
            intro q10 m10 z10 hrow hg
            have L10 : Hid (LaidW w z10 w.heap.size g1 g2 g3 base (.cells #[.slice (some ⟨bb, o, none⟩) R.length c, .slice b sn d] 25 (0, 0)) (.cells #[.string fn, .bool fs, .slice fa fvv.length fcp] 29 (0, 0)) (.cells #[.slice none 0 0, .slice none 0 0] 25 (0, 0)) (.slice q0 acc0.length m0) (.slice b sn d)) := L8.out.low SD.out (low_of_grown L8.out.sz R8.out hg)
            obtain ⟨acc10, hacc10⟩ : ∃ l, acc0 ++ [(⟨⟨xn, xs, xv⟩, xa, xc⟩ : Cel)] = l := ⟨_, rfl⟩
            rw [hacc10] at hrow ⊢
            have R10 := hid hrow
            have HL10 : Hid (acc10.length = acc0.length + 1) := by unfold Hid; rw [← hacc10, List.length_append]; rfl
            have HA10 : Hid (∀ x ∈ acc10, OneAt w x) := by unfold Hid; rw [← hacc10]; exact all_snoc hall.out HX.out
            have HW10 : Hid (M.wloop ⟨fn, fs, fvv⟩ false (fldOf acc10) ((fldOf R).drop (j + 1)) = M.wloop ⟨fn, fs, fvv⟩ false [] (fldOf R)) := by unfold Hid; rw [← hacc10, fldOf_snoc]; exact wl_less HW.out HLT.out
            clear hrow hg hacc10 NF L8 R8
            refine hK.out _ _ (KH.out _ _ L10.out) (fun hHeld => ?_)
            clear hK
            refine wpAnyH_take (i := 9) (oi := { dst := some 55, op := Op.fieldAddr 25 (Operand.tmp 5) 0, type := 0, pos := "ref.go:39", after := #[{ on := 0, ground := Ground.phase }, { on := 1, ground := Ground.phase }, { on := 2, ground := Ground.phase }, { on := 3, ground := Ground.phase }, { on := 4, ground := Ground.phase }, { on := 5, ground := Ground.phase }, { on := 6, ground := Ground.phase }, { on := 7, ground := Ground.phase }, { on := 8, ground := Ground.phase }], guard := none }) (v := ?_) rfl (by kernel_rfl) (by kernel_rfl) (by kernel_rfl) (fun _ _ _ h => h) (Or.inl ⟨by rfl, ?_⟩) hHeld ?_
            rotate_left
            · intro w hSw; (try dsimp only at hSw); go_simp; (try with_reducible rfl)
            simp only [Act.put, List.setIfInBounds_toArray, List.set_cons_zero, List.set_cons_succ]
            refine wpAnyH_ready (rs := [10]) (by kernel_rfl) (by simp) ?_
            refine AllReadyH.cons (o := { dst := none, op := Op.store 22 (Operand.tmp 55) (Operand.tmp 54), type := 0, pos := "ref.go:39", after := #[{ on := 9, ground := Ground.data }, { on := 8, ground := Ground.data }, { on := 8, ground := Ground.chain }, { on := 0, ground := Ground.phase }, { on := 1, ground := Ground.phase }, { on := 2, ground := Ground.phase }, { on := 3, ground := Ground.phase }, { on := 4, ground := Ground.phase }, { on := 5, ground := Ground.phase }, { on := 6, ground := Ground.phase }, { on := 7, ground := Ground.phase }, { on := 8, ground := Ground.phase }], guard := none }) rfl (fun K hK => ?_) AllReadyH.nil
            obtain ⟨o0, o1, _⟩ := cells2 L10.out.out
            go_simp
            clear o0 o1
            have L11 : Hid (LaidW w (z10.setCell ⟨g3, 0, none⟩ (.slice q10 acc10.length m10)) w.heap.size g1 g2 g3 base (.cells #[.slice (some ⟨bb, o, none⟩) R.length c, .slice b sn d] 25 (0, 0)) (.cells #[.string fn, .bool fs, .slice fa fvv.length fcp] 29 (0, 0)) (.cells #[.slice none 0 0, .slice none 0 0] 25 (0, 0)) (.slice q10 acc10.length m10) (.slice b sn d)) := L10.out.put SD.out _
            have R11 := hid (RowF.other (p := 0) (u := .slice q10 acc10.length m10) R10.out SD.out.n3)
            clear L10 R10
            refine hK.out _ _ (KH.out _ _ L11.out) (fun hHeld => ?_)
            clear hK
            refine wpAnyH_done (by kernel_rfl) ?_ _
            clear hHeld
            go_wp2
            exact ⟨⟨j + 1, false, acc10, q10, m10, by omega, rfl, by go_num, L11, R11, (by show _ ≤ j + 1 + 0; rw [HL10.out]; have := HLEN.out; omega), HA10, HW10⟩, by simp [intOf]; omega⟩
        | false =>
          have HLT := hid hlt2
          have hb1 : (Op.bytesLess fn.toList xn.toList || fn.toList == xn.toList) = true := leq_name hlt2
          clear hlt2
          obtain ⟨s0, s1, _⟩ := cells2 hl.out.a1
          obtain ⟨f0, f1, f2, _⟩ := cells3 hl.out.a2
          obtain ⟨c1, c2, c3⟩ := HT.out.bel hlt hl.out.bel
          obtain ⟨o0, o1, _⟩ := cells2 hl.out.out
          go_wp2_with fail
          clear s0 s1 f0 f1 f2 c1 c2 c3 o0 o1
          have L12 : Hid (LaidW w wr.drew w.heap.size g1 g2 g3 base (.cells #[.slice (some ⟨bb, o, none⟩) R.length c, .slice b sn d] 25 (0, 0)) (.cells #[.string fn, .bool fs, .slice fa fvv.length fcp] 29 (0, 0)) (.cells #[.slice none 0 0, .slice none 0 0] 25 (0, 0)) (.slice q0 acc0.length m0) (.slice b sn d)) := hl.out.low SD.out (low_of_new hl.out.sz (Gr.refl _).drew.below)
          have R12 := hid (hrow.out.keep ((Gr.refl wr).drew.below))
          refine wp_region_held_drew (S := fun W => W.cell? ⟨w.heap.size, 0, none⟩ = some (.slice (some ⟨bb, o, none⟩) R.length c) ∧ W.cell? ⟨w.heap.size, 1, none⟩ = some (.slice b sn d) ∧ W.cell? ⟨g1, 0, none⟩ = some (.string fn) ∧ W.cell? ⟨g1, 1, none⟩ = some (.bool fs) ∧ W.cell? ⟨g1, 2, none⟩ = some (.slice fa fvv.length fcp) ∧ W.cell? ⟨bb, o + j * 3, none⟩ = some (.string xn) ∧ W.cell? ⟨bb, o + j * 3 + 1, none⟩ = some (.bool xs) ∧ W.cell? ⟨bb, o + j * 3 + 2, none⟩ = some (.slice xa xv.length xc)) (by kernel_rfl) (KH.out _ _ L12.out) (fun hHeld => ?_)
          refine wpAnyH_take (i := 0) (oi := { dst := some 18, op := Op.move (Operand.tmp 6), type := 4, pos := "ref.go:34", after := #[], guard := none }) (v := ?_) rfl (by kernel_rfl) (by kernel_rfl) (by kernel_rfl) (fun _ _ _ h => h) (Or.inl ⟨by rfl, ?_⟩) hHeld ?_
          rotate_left
          · intro w hSw; (try dsimp only at hSw); go_simp; (try with_reducible rfl)
          simp only [Act.put, List.setIfInBounds_toArray, List.set_cons_zero, List.set_cons_succ]
          refine wpAnyH_take (i := 1) (oi := { dst := some 19, op := Op.unOp UnOp.not 4 (Operand.tmp 18), type := 4, pos := "ref.go:34", after := #[{ on := 0, ground := Ground.data }], guard := none }) (v := ?_) rfl (by kernel_rfl) (by kernel_rfl) (by kernel_rfl) (fun _ _ _ h => h) (Or.inl ⟨by rfl, ?_⟩) hHeld ?_
          rotate_left
          · intro w hSw; (try dsimp only at hSw); go_simp; (try with_reducible rfl)
          simp only [Act.put, List.setIfInBounds_toArray, List.set_cons_zero, List.set_cons_succ]
          refine wpAnyH_take (i := 2) (oi := { dst := some 20, op := Op.move (Operand.tmp 19), type := 4, pos := "ref.go:34", after := #[{ on := 1, ground := Ground.data }], guard := none }) (v := ?_) rfl (by kernel_rfl) (by kernel_rfl) (by kernel_rfl) (fun _ _ _ h => h) (Or.inl ⟨by rfl, ?_⟩) hHeld ?_
          rotate_left
          · intro w hSw; (try dsimp only at hSw); go_simp; (try with_reducible rfl)
          simp only [Act.put, List.setIfInBounds_toArray, List.set_cons_zero, List.set_cons_succ]
          refine wpAnyH_take (i := 3) (oi := { dst := some 21, op := Op.fieldAddr 29 (Operand.tmp 3) 0, type := 0, pos := "ref.go:34", after := #[{ on := 2, ground := Ground.guard }], guard := some (2, true) }) (v := ?_) rfl (by kernel_rfl) (by kernel_rfl) (by kernel_rfl) (fun _ _ _ h => h) (Or.inl ⟨by rfl, ?_⟩) hHeld ?_
          rotate_left
          · intro w hSw; (try dsimp only at hSw); go_simp; (try with_reducible rfl)
          simp only [Act.put, List.setIfInBounds_toArray, List.set_cons_zero, List.set_cons_succ]
          refine wpAnyH_take (i := 4) (oi := { dst := some 22, op := Op.load 9 (Operand.tmp 21), type := 9, pos := "ref.go:34", after := #[{ on := 3, ground := Ground.data }, { on := 2, ground := Ground.guard }], guard := some (2, true) }) (v := ?_) rfl (by kernel_rfl) (by kernel_rfl) (by kernel_rfl) (fun _ _ _ h => h) (Or.inl ⟨by rfl, ?_⟩) hHeld ?_
          rotate_left
          · intro w hSw; (try dsimp only at hSw); go_simp; (try with_reducible rfl)
          simp only [Act.put, List.setIfInBounds_toArray, List.set_cons_zero, List.set_cons_succ]
          refine wpAnyH_take (i := 5) (oi := { dst := some 23, op := Op.fieldAddr 25 (Operand.tmp 2) 0, type := 0, pos := "ref.go:34", after := #[{ on := 2, ground := Ground.guard }], guard := some (2, true) }) (v := ?_) rfl (by kernel_rfl) (by kernel_rfl) (by kernel_rfl) (fun _ _ _ h => h) (Or.inl ⟨by rfl, ?_⟩) hHeld ?_
          rotate_left
          · intro w hSw; (try dsimp only at hSw); go_simp; (try with_reducible rfl)
          simp only [Act.put, List.setIfInBounds_toArray, List.set_cons_zero, List.set_cons_succ]
          refine wpAnyH_take (i := 6) (oi := { dst := some 24, op := Op.load 22 (Operand.tmp 23), type := 22, pos := "ref.go:34", after := #[{ on := 5, ground := Ground.data }, { on := 2, ground := Ground.guard }], guard := some (2, true) }) (v := ?_) rfl (by kernel_rfl) (by kernel_rfl) (by kernel_rfl) (fun _ _ _ h => h) (Or.inl ⟨by rfl, ?_⟩) hHeld ?_
          rotate_left
          · intro w hSw; (try dsimp only at hSw); go_simp; (try with_reducible rfl)
          simp only [Act.put, List.setIfInBounds_toArray, List.set_cons_zero, List.set_cons_succ]
          refine wpAnyH_take (i := 7) (oi := { dst := some 25, op := Op.move (Operand.tmp 7), type := 3, pos := "ref.go:34", after := #[{ on := 2, ground := Ground.guard }], guard := some (2, true) }) (v := ?_) rfl (by kernel_rfl) (by kernel_rfl) (by kernel_rfl) (fun _ _ _ h => h) (Or.inl ⟨by rfl, ?_⟩) hHeld ?_
          rotate_left
          · intro w hSw; (try dsimp only at hSw); go_simp; (try with_reducible rfl)
          simp only [Act.put, List.setIfInBounds_toArray, List.set_cons_zero, List.set_cons_succ]
          refine wpAnyH_take (i := 8) (oi := { dst := some 26, op := Op.indexAddr 22 (Operand.tmp 24) (Operand.tmp 25), type := 0, pos := "ref.go:34", after := #[{ on := 6, ground := Ground.data }, { on := 7, ground := Ground.data }, { on := 2, ground := Ground.guard }], guard := some (2, true) }) (v := ?_) rfl (by kernel_rfl) (by kernel_rfl) (by kernel_rfl) (fun _ _ _ h => h) (Or.inl ⟨by rfl, ?_⟩) hHeld ?_
          rotate_left
          · intro w hSw; (try dsimp only at hSw); go_simp; (try with_reducible rfl)
          simp only [Act.put, List.setIfInBounds_toArray, List.set_cons_zero, List.set_cons_succ]
          refine wpAnyH_take (i := 9) (oi := { dst := some 27, op := Op.fieldAddr 29 (Operand.tmp 26) 0, type := 0, pos := "ref.go:34", after := #[{ on := 8, ground := Ground.data }, { on := 2, ground := Ground.guard }], guard := some (2, true) }) (v := ?_) rfl (by kernel_rfl) (by kernel_rfl) (by kernel_rfl) (fun _ _ _ h => h) (Or.inl ⟨by rfl, ?_⟩) hHeld ?_
          rotate_left
          · intro w hSw; (try dsimp only at hSw); go_simp; (try with_reducible rfl)
          simp only [Act.put, List.setIfInBounds_toArray, List.set_cons_zero, List.set_cons_succ]
          refine wpAnyH_take (i := 10) (oi := { dst := some 28, op := Op.load 9 (Operand.tmp 27), type := 9, pos := "ref.go:34", after := #[{ on := 9, ground := Ground.data }, { on := 2, ground := Ground.guard }], guard := some (2, true) }) (v := ?_) rfl (by kernel_rfl) (by kernel_rfl) (by kernel_rfl) (fun _ _ _ h => h) (Or.inl ⟨by rfl, ?_⟩) hHeld ?_
          rotate_left
          · intro w hSw; (try dsimp only at hSw); go_simp; (try with_reducible rfl)
          simp only [Act.put, List.setIfInBounds_toArray, List.set_cons_zero, List.set_cons_succ]
          refine wpAnyH_take (i := 11) (oi := { dst := some 29, op := Op.binOp BinOp.leq 9 (Operand.tmp 22) (Operand.tmp 28) 9, type := 4, pos := "ref.go:34", after := #[{ on := 4, ground := Ground.data }, { on := 10, ground := Ground.data }, { on := 2, ground := Ground.guard }], guard := some (2, true) }) (v := ?_) rfl (by kernel_rfl) (by kernel_rfl) (by kernel_rfl) (fun _ _ _ h => h) (Or.inl ⟨by rfl, ?_⟩) hHeld ?_
          rotate_left
          · intro w hSw; (try dsimp only at hSw); go_simp; (try with_reducible rfl)
          simp only [Act.put, List.setIfInBounds_toArray, List.set_cons_zero, List.set_cons_succ]
          refine wpAnyH_take (i := 12) (oi := { dst := some 30, op := Op.pick (Operand.tmp 20) (Operand.tmp 29) (Operand.const (Value.bool false)), type := 4, pos := "ref.go:34", after := #[{ on := 2, ground := Ground.data }, { on := 11, ground := Ground.data }], guard := none }) (v := ?_) rfl (by kernel_rfl) (by kernel_rfl) (by kernel_rfl) (fun _ _ _ h => h) (Or.inl ⟨by rfl, ?_⟩) hHeld ?_
          rotate_left
          · intro w hSw; (try dsimp only at hSw); go_simp; (try with_reducible rfl)
          simp only [Act.put, List.setIfInBounds_toArray, List.set_cons_zero, List.set_cons_succ]
          refine wpAnyH_done (by kernel_rfl) ?_ _
          clear hHeld
          clear hl hrow
          generalize hw12 : wr.drew = W12 at L12 R12 ⊢
          clear hw12
          obtain ⟨s0, s1, _⟩ := cells2 L12.out.a1
          obtain ⟨f0, f1, f2, _⟩ := cells3 L12.out.a2
          obtain ⟨o0, o1, _⟩ := cells2 L12.out.out
          have hrw := R12.out.keep (gr_new W12 (.cells #[.string fn, .bool fs, .slice fa fvv.length fcp] 29)).below
          have hsz : base ≤ (W12.alloc (.cells #[.string fn, .bool fs, .slice fa fvv.length fcp] 29)).heap.size := Nat.le_trans L12.out.sz (gr_new W12 (.cells #[.string fn, .bool fs, .slice fa fvv.length fcp] 29)).below.size
          have hlen : acc0.length ≤ 100001 := by have := HLEN.out; omega
          go_wp2_with (at_builtin; refine wpList_append_own _ rfl _ _ 22 rfl base 29 i0 (.agg #[.string ⟨#[]⟩, .bool false, .slice none 0 0]) 3 48 Try.underlying22 hi hz0 hz1 hz2 rfl (by decide) (.slice q0 acc0.length m0) acc0.length (acc0.flatMap fc) rfl hrw ⟨W12.heap.size, 0, none⟩ 1 1 (fc ⟨⟨fn, fs, fvv⟩, fa, fcp⟩) rfl rfl (new_fc W12 ⟨⟨fn, fs, fvv⟩, fa, fcp⟩ _) (by intro u hu; simp [fc] at hu; rcases hu with rfl | rfl | rfl <;> rfl) (by unfold maxLen; omega) (by omega) hsz ?_; intro v13 w13 hown hgrow _; refine stopHere ?_)
          refine stopAt ?_
          have L13 : Hid (LaidW w w13 w.heap.size g1 g2 g3 base (.cells #[.slice (some ⟨bb, o, none⟩) R.length c, .slice b sn d] 25 (0, 0)) (.cells #[.string fn, .bool fs, .slice fa fvv.length fcp] 29 (0, 0)) (.cells #[.slice none 0 0, .slice none 0 0] 25 (0, 0)) (.slice q0 acc0.length m0) (.slice b sn d)) := (L12.out.low SD.out (low_of_new L12.out.sz (gr_new W12 (.cells #[.string fn, .bool fs, .slice fa fvv.length fcp] 29)).below)).low SD.out (low_of_grown hsz hrw hgrow)
          have hown2 := RowF.snoc (x := ⟨⟨fn, fs, fvv⟩, fa, fcp⟩) hown
          obtain ⟨acc13, hacc13⟩ : ∃ l, acc0 ++ [(⟨⟨fn, fs, fvv⟩, fa, fcp⟩ : Cel)] = l := ⟨_, rfl⟩
          rw [hacc13] at hown2
          obtain ⟨q13, m13, rfl⟩ := hown2.form
          have R13 := hid hown2
          have HL13 : Hid (acc13.length = acc0.length + 1) := by unfold Hid; rw [← hacc13, List.length_append]; rfl
          have HA13 : Hid (∀ x ∈ acc13, OneAt w x) := by unfold Hid; rw [← hacc13]; exact all_snoc hall.out HFO.out
          have HW13 : Hid (M.wloop ⟨fn, fs, fvv⟩ true (fldOf acc13) (⟨xn, xs, xv⟩ :: (fldOf R).drop (j + 1)) = M.wloop ⟨fn, fs, fvv⟩ false [] (fldOf R)) := by unfold Hid; rw [← hacc13, fldOf_snoc]; exact wl_lay HW.out HLT.out
          clear hown hown2 hgrow hrw hsz hlen hacc13 s0 s1 f0 f1 f2 o0 o1 L12 R12
          by_cases he : xn = fn
          · have hd : (xn.toList == fn.toList) = true := by rw [same_name]; exact decide_eq_true he
            have HE := hid he
            clear he
            obtain ⟨o0, o1, _⟩ := cells2 L13.out.out
            obtain ⟨s0, s1, _⟩ := cells2 L13.out.a1
            obtain ⟨f0, f1, f2, _⟩ := cells3 L13.out.a2
            obtain ⟨c1, c2, c3⟩ := HT.out.bel hlt L13.out.bel
            go_wp2_with fail
            clear o0 o1 s0 s1 f0 f1 f2 c1 c2 c3
            have L14 : Hid (LaidW w (w13.setCell ⟨g3, 0, none⟩ (.slice q13 acc13.length m13)) w.heap.size g1 g2 g3 base (.cells #[.slice (some ⟨bb, o, none⟩) R.length c, .slice b sn d] 25 (0, 0)) (.cells #[.string fn, .bool fs, .slice fa fvv.length fcp] 29 (0, 0)) (.cells #[.slice none 0 0, .slice none 0 0] 25 (0, 0)) (.slice q13 acc13.length m13) (.slice b sn d)) := L13.out.put SD.out _
            have R14 := hid (RowF.other (p := 0) (u := .slice q13 acc13.length m13) R13.out SD.out.n3)
            clear L13 R13
            generalize hw14 : w13.setCell ⟨g3, 0, none⟩ (.slice q13 acc13.length m13) = W14 at L14 R14 ⊢
            clear hw14
            have L15 : Hid (LaidW w W14.drew w.heap.size g1 g2 g3 base (.cells #[.slice (some ⟨bb, o, none⟩) R.length c, .slice b sn d] 25 (0, 0)) (.cells #[.string fn, .bool fs, .slice fa fvv.length fcp] 29 (0, 0)) (.cells #[.slice none 0 0, .slice none 0 0] 25 (0, 0)) (.slice q13 acc13.length m13) (.slice b sn d)) := L14.out.low SD.out (low_of_new L14.out.sz (Gr.refl _).drew.below)
            have R15 := hid (R14.out.keep ((Gr.refl W14).drew.below))
            refine wp_region_held_drew (S := fun W => W.cell? ⟨w.heap.size, 0, none⟩ = some (.slice (some ⟨bb, o, none⟩) R.length c) ∧ W.cell? ⟨w.heap.size, 1, none⟩ = some (.slice b sn d) ∧ W.cell? ⟨g1, 0, none⟩ = some (.string fn) ∧ W.cell? ⟨g1, 1, none⟩ = some (.bool fs) ∧ W.cell? ⟨g1, 2, none⟩ = some (.slice fa fvv.length fcp) ∧ W.cell? ⟨bb, o + j * 3, none⟩ = some (.string xn) ∧ W.cell? ⟨bb, o + j * 3 + 1, none⟩ = some (.bool xs) ∧ W.cell? ⟨bb, o + j * 3 + 2, none⟩ = some (.slice xa xv.length xc)) (by kernel_rfl) (KH.out _ _ L15.out) (fun hHeld => ?_)
            refine wpAnyH_take (i := 0) (oi := { dst := some 37, op := Op.fieldAddr 25 (Operand.tmp 2) 0, type := 0, pos := "ref.go:38", after := #[], guard := none }) (v := ?_) rfl (by kernel_rfl) (by kernel_rfl) (by kernel_rfl) (fun _ _ _ h => h) (Or.inl ⟨by rfl, ?_⟩) hHeld ?_
            rotate_left
            · intro w hSw; (try dsimp only at hSw); go_simp; (try with_reducible rfl)
            simp only [Act.put, List.setIfInBounds_toArray, List.set_cons_zero, List.set_cons_succ]
            refine wpAnyH_take (i := 1) (oi := { dst := some 38, op := Op.load 22 (Operand.tmp 37), type := 22, pos := "ref.go:38", after := #[{ on := 0, ground := Ground.data }], guard := none }) (v := ?_) rfl (by kernel_rfl) (by kernel_rfl) (by kernel_rfl) (fun _ _ _ h => h) (Or.inl ⟨by rfl, ?_⟩) hHeld ?_
            rotate_left
            · intro w hSw; (try dsimp only at hSw); go_simp; (try with_reducible rfl)
            simp only [Act.put, List.setIfInBounds_toArray, List.set_cons_zero, List.set_cons_succ]
            refine wpAnyH_take (i := 2) (oi := { dst := some 39, op := Op.move (Operand.tmp 7), type := 3, pos := "ref.go:38", after := #[], guard := none }) (v := ?_) rfl (by kernel_rfl) (by kernel_rfl) (by kernel_rfl) (fun _ _ _ h => h) (Or.inl ⟨by rfl, ?_⟩) hHeld ?_
            rotate_left
            · intro w hSw; (try dsimp only at hSw); go_simp; (try with_reducible rfl)
            simp only [Act.put, List.setIfInBounds_toArray, List.set_cons_zero, List.set_cons_succ]
            refine wpAnyH_take (i := 3) (oi := { dst := some 40, op := Op.indexAddr 22 (Operand.tmp 38) (Operand.tmp 39), type := 0, pos := "ref.go:38", after := #[{ on := 1, ground := Ground.data }, { on := 2, ground := Ground.data }], guard := none }) (v := ?_) rfl (by kernel_rfl) (by kernel_rfl) (by kernel_rfl) (fun _ _ _ h => h) (Or.inl ⟨by rfl, ?_⟩) hHeld ?_
            rotate_left
            · intro w hSw; (try dsimp only at hSw); go_simp; (try with_reducible rfl)
            simp only [Act.put, List.setIfInBounds_toArray, List.set_cons_zero, List.set_cons_succ]
            refine wpAnyH_take (i := 4) (oi := { dst := some 41, op := Op.fieldAddr 29 (Operand.tmp 40) 0, type := 0, pos := "ref.go:38", after := #[{ on := 3, ground := Ground.data }], guard := none }) (v := ?_) rfl (by kernel_rfl) (by kernel_rfl) (by kernel_rfl) (fun _ _ _ h => h) (Or.inl ⟨by rfl, ?_⟩) hHeld ?_
            rotate_left
            · intro w hSw; (try dsimp only at hSw); go_simp; (try with_reducible rfl)
            simp only [Act.put, List.setIfInBounds_toArray, List.set_cons_zero, List.set_cons_succ]
            refine wpAnyH_take (i := 5) (oi := { dst := some 42, op := Op.load 9 (Operand.tmp 41), type := 9, pos := "ref.go:38", after := #[{ on := 4, ground := Ground.data }], guard := none }) (v := ?_) rfl (by kernel_rfl) (by kernel_rfl) (by kernel_rfl) (fun _ _ _ h => h) (Or.inl ⟨by rfl, ?_⟩) hHeld ?_
            rotate_left
            · intro w hSw; (try dsimp only at hSw); go_simp; (try with_reducible rfl)
            simp only [Act.put, List.setIfInBounds_toArray, List.set_cons_zero, List.set_cons_succ]
            refine wpAnyH_take (i := 6) (oi := { dst := some 43, op := Op.fieldAddr 29 (Operand.tmp 3) 0, type := 0, pos := "ref.go:38", after := #[], guard := none }) (v := ?_) rfl (by kernel_rfl) (by kernel_rfl) (by kernel_rfl) (fun _ _ _ h => h) (Or.inl ⟨by rfl, ?_⟩) hHeld ?_
            rotate_left
            · intro w hSw; (try dsimp only at hSw); go_simp; (try with_reducible rfl)
            simp only [Act.put, List.setIfInBounds_toArray, List.set_cons_zero, List.set_cons_succ]
            refine wpAnyH_take (i := 7) (oi := { dst := some 44, op := Op.load 9 (Operand.tmp 43), type := 9, pos := "ref.go:38", after := #[{ on := 6, ground := Ground.data }], guard := none }) (v := ?_) rfl (by kernel_rfl) (by kernel_rfl) (by kernel_rfl) (fun _ _ _ h => h) (Or.inl ⟨by rfl, ?_⟩) hHeld ?_
            rotate_left
            · intro w hSw; (try dsimp only at hSw); go_simp; (try with_reducible rfl)
            simp only [Act.put, List.setIfInBounds_toArray, List.set_cons_zero, List.set_cons_succ]
            refine wpAnyH_take (i := 8) (oi := { dst := some 45, op := Op.binOp BinOp.neq 9 (Operand.tmp 42) (Operand.tmp 44) 9, type := 4, pos := "ref.go:38", after := #[{ on := 5, ground := Ground.data }, { on := 7, ground := Ground.data }], guard := none }) (v := ?_) rfl (by kernel_rfl) (by kernel_rfl) (by kernel_rfl) (fun _ _ _ h => h) (Or.inl ⟨by rfl, ?_⟩) hHeld ?_
            rotate_left
            · intro w hSw; (try dsimp only at hSw); go_simp; (try with_reducible rfl)
            simp only [Act.put, List.setIfInBounds_toArray, List.set_cons_zero, List.set_cons_succ]
            refine wpAnyH_done (by kernel_rfl) ?_ _
            clear hHeld
            clear L14 R14
            generalize hw15 : W14.drew = W15 at L15 R15 ⊢
            clear hw15
            have HW2 := hid (wl_skip HW13.out HE.out)
            go_wp2
            exact ⟨⟨j + 1, true, acc13, q13, m13, by omega, rfl, by go_num, L15, R15, (by show _ ≤ j + 1 + 1; have := HLEN.out; rw [HL13.out]; omega), HA13, HW2⟩, by simp [intOf]; omega⟩
          · have hd : (xn.toList == fn.toList) = false := by rw [same_name]; exact decide_eq_false he
            have HE := hid he
            clear he
            obtain ⟨o0, o1, _⟩ := cells2 L13.out.out
            obtain ⟨s0, s1, _⟩ := cells2 L13.out.a1
            obtain ⟨f0, f1, f2, _⟩ := cells3 L13.out.a2
            obtain ⟨c1, c2, c3⟩ := HT.out.bel hlt L13.out.bel
            go_wp2_with fail
            clear o0 o1 s0 s1 f0 f1 f2 c1 c2 c3
            have L14 : Hid (LaidW w (w13.setCell ⟨g3, 0, none⟩ (.slice q13 acc13.length m13)) w.heap.size g1 g2 g3 base (.cells #[.slice (some ⟨bb, o, none⟩) R.length c, .slice b sn d] 25 (0, 0)) (.cells #[.string fn, .bool fs, .slice fa fvv.length fcp] 29 (0, 0)) (.cells #[.slice none 0 0, .slice none 0 0] 25 (0, 0)) (.slice q13 acc13.length m13) (.slice b sn d)) := L13.out.put SD.out _
            have R14 := hid (RowF.other (p := 0) (u := .slice q13 acc13.length m13) R13.out SD.out.n3)
            clear L13 R13
            generalize hw14 : w13.setCell ⟨g3, 0, none⟩ (.slice q13 acc13.length m13) = W14 at L14 R14 ⊢
            clear hw14
            have L16 : Hid (LaidW w W14.drew w.heap.size g1 g2 g3 base (.cells #[.slice (some ⟨bb, o, none⟩) R.length c, .slice b sn d] 25 (0, 0)) (.cells #[.string fn, .bool fs, .slice fa fvv.length fcp] 29 (0, 0)) (.cells #[.slice none 0 0, .slice none 0 0] 25 (0, 0)) (.slice q13 acc13.length m13) (.slice b sn d)) := L14.out.low SD.out (low_of_new L14.out.sz (Gr.refl _).drew.below)
            have R16 := hid (R14.out.keep ((Gr.refl W14).drew.below))
            refine wp_region_held_drew (S := fun W => W.cell? ⟨w.heap.size, 0, none⟩ = some (.slice (some ⟨bb, o, none⟩) R.length c) ∧ W.cell? ⟨w.heap.size, 1, none⟩ = some (.slice b sn d) ∧ W.cell? ⟨g1, 0, none⟩ = some (.string fn) ∧ W.cell? ⟨g1, 1, none⟩ = some (.bool fs) ∧ W.cell? ⟨g1, 2, none⟩ = some (.slice fa fvv.length fcp) ∧ W.cell? ⟨bb, o + j * 3, none⟩ = some (.string xn) ∧ W.cell? ⟨bb, o + j * 3 + 1, none⟩ = some (.bool xs) ∧ W.cell? ⟨bb, o + j * 3 + 2, none⟩ = some (.slice xa xv.length xc)) (by kernel_rfl) (KH.out _ _ L16.out) (fun hHeld => ?_)
            refine wpAnyH_take (i := 0) (oi := { dst := some 37, op := Op.fieldAddr 25 (Operand.tmp 2) 0, type := 0, pos := "ref.go:38", after := #[], guard := none }) (v := ?_) rfl (by kernel_rfl) (by kernel_rfl) (by kernel_rfl) (fun _ _ _ h => h) (Or.inl ⟨by rfl, ?_⟩) hHeld ?_
            rotate_left
            · intro w hSw; (try dsimp only at hSw); go_simp; (try with_reducible rfl)
            simp only [Act.put, List.setIfInBounds_toArray, List.set_cons_zero, List.set_cons_succ]
            refine wpAnyH_take (i := 1) (oi := { dst := some 38, op := Op.load 22 (Operand.tmp 37), type := 22, pos := "ref.go:38", after := #[{ on := 0, ground := Ground.data }], guard := none }) (v := ?_) rfl (by kernel_rfl) (by kernel_rfl) (by kernel_rfl) (fun _ _ _ h => h) (Or.inl ⟨by rfl, ?_⟩) hHeld ?_
            rotate_left
            · intro w hSw; (try dsimp only at hSw); go_simp; (try with_reducible rfl)
            simp only [Act.put, List.setIfInBounds_toArray, List.set_cons_zero, List.set_cons_succ]
            refine wpAnyH_take (i := 2) (oi := { dst := some 39, op := Op.move (Operand.tmp 7), type := 3, pos := "ref.go:38", after := #[], guard := none }) (v := ?_) rfl (by kernel_rfl) (by kernel_rfl) (by kernel_rfl) (fun _ _ _ h => h) (Or.inl ⟨by rfl, ?_⟩) hHeld ?_
            rotate_left
            · intro w hSw; (try dsimp only at hSw); go_simp; (try with_reducible rfl)
            simp only [Act.put, List.setIfInBounds_toArray, List.set_cons_zero, List.set_cons_succ]
            refine wpAnyH_take (i := 3) (oi := { dst := some 40, op := Op.indexAddr 22 (Operand.tmp 38) (Operand.tmp 39), type := 0, pos := "ref.go:38", after := #[{ on := 1, ground := Ground.data }, { on := 2, ground := Ground.data }], guard := none }) (v := ?_) rfl (by kernel_rfl) (by kernel_rfl) (by kernel_rfl) (fun _ _ _ h => h) (Or.inl ⟨by rfl, ?_⟩) hHeld ?_
            rotate_left
            · intro w hSw; (try dsimp only at hSw); go_simp; (try with_reducible rfl)
            simp only [Act.put, List.setIfInBounds_toArray, List.set_cons_zero, List.set_cons_succ]
            refine wpAnyH_take (i := 4) (oi := { dst := some 41, op := Op.fieldAddr 29 (Operand.tmp 40) 0, type := 0, pos := "ref.go:38", after := #[{ on := 3, ground := Ground.data }], guard := none }) (v := ?_) rfl (by kernel_rfl) (by kernel_rfl) (by kernel_rfl) (fun _ _ _ h => h) (Or.inl ⟨by rfl, ?_⟩) hHeld ?_
            rotate_left
            · intro w hSw; (try dsimp only at hSw); go_simp; (try with_reducible rfl)
            simp only [Act.put, List.setIfInBounds_toArray, List.set_cons_zero, List.set_cons_succ]
            refine wpAnyH_take (i := 5) (oi := { dst := some 42, op := Op.load 9 (Operand.tmp 41), type := 9, pos := "ref.go:38", after := #[{ on := 4, ground := Ground.data }], guard := none }) (v := ?_) rfl (by kernel_rfl) (by kernel_rfl) (by kernel_rfl) (fun _ _ _ h => h) (Or.inl ⟨by rfl, ?_⟩) hHeld ?_
            rotate_left
            · intro w hSw; (try dsimp only at hSw); go_simp; (try with_reducible rfl)
            simp only [Act.put, List.setIfInBounds_toArray, List.set_cons_zero, List.set_cons_succ]
            refine wpAnyH_take (i := 6) (oi := { dst := some 43, op := Op.fieldAddr 29 (Operand.tmp 3) 0, type := 0, pos := "ref.go:38", after := #[], guard := none }) (v := ?_) rfl (by kernel_rfl) (by kernel_rfl) (by kernel_rfl) (fun _ _ _ h => h) (Or.inl ⟨by rfl, ?_⟩) hHeld ?_
            rotate_left
            · intro w hSw; (try dsimp only at hSw); go_simp; (try with_reducible rfl)
            simp only [Act.put, List.setIfInBounds_toArray, List.set_cons_zero, List.set_cons_succ]
            refine wpAnyH_take (i := 7) (oi := { dst := some 44, op := Op.load 9 (Operand.tmp 43), type := 9, pos := "ref.go:38", after := #[{ on := 6, ground := Ground.data }], guard := none }) (v := ?_) rfl (by kernel_rfl) (by kernel_rfl) (by kernel_rfl) (fun _ _ _ h => h) (Or.inl ⟨by rfl, ?_⟩) hHeld ?_
            rotate_left
            · intro w hSw; (try dsimp only at hSw); go_simp; (try with_reducible rfl)
            simp only [Act.put, List.setIfInBounds_toArray, List.set_cons_zero, List.set_cons_succ]
            refine wpAnyH_take (i := 8) (oi := { dst := some 45, op := Op.binOp BinOp.neq 9 (Operand.tmp 42) (Operand.tmp 44) 9, type := 4, pos := "ref.go:38", after := #[{ on := 5, ground := Ground.data }, { on := 7, ground := Ground.data }], guard := none }) (v := ?_) rfl (by kernel_rfl) (by kernel_rfl) (by kernel_rfl) (fun _ _ _ h => h) (Or.inl ⟨by rfl, ?_⟩) hHeld ?_
            rotate_left
            · intro w hSw; (try dsimp only at hSw); go_simp; (try with_reducible rfl)
            simp only [Act.put, List.setIfInBounds_toArray, List.set_cons_zero, List.set_cons_succ]
            refine wpAnyH_done (by kernel_rfl) ?_ _
            clear hHeld
            clear L14 R14
            generalize hw16 : W14.drew = W16 at L16 R16 ⊢
            clear hw16
            obtain ⟨s0, s1, _⟩ := cells2 L16.out.a1
            obtain ⟨f0, f1, f2, _⟩ := cells3 L16.out.a2
            obtain ⟨c1, c2, c3⟩ := HT.out.bel hlt L16.out.bel
            obtain ⟨o0, o1, _⟩ := cells2 L16.out.out
            go_wp2_with fail
            clear s0 s1 f0 f1 f2 c1 c2 c3 o0 o1
            have L17 : Hid (LaidW w W16.drew w.heap.size g1 g2 g3 base (.cells #[.slice (some ⟨bb, o, none⟩) R.length c, .slice b sn d] 25 (0, 0)) (.cells #[.string fn, .bool fs, .slice fa fvv.length fcp] 29 (0, 0)) (.cells #[.slice none 0 0, .slice none 0 0] 25 (0, 0)) (.slice q13 acc13.length m13) (.slice b sn d)) := L16.out.low SD.out (low_of_new L16.out.sz (Gr.refl _).drew.below)
            have R17 := hid (R16.out.keep ((Gr.refl W16).drew.below))
            have hlen : acc13.length ≤ 100001 := by rw [HL13.out]; have := HLEN.out; omega
            have HLN := hid hlen
            clear hlen
            refine wp_region_held_drew (S := fun W => W.cell? ⟨w.heap.size, 0, none⟩ = some (.slice (some ⟨bb, o, none⟩) R.length c) ∧ W.cell? ⟨w.heap.size, 1, none⟩ = some (.slice b sn d) ∧ W.cell? ⟨g1, 0, none⟩ = some (.string fn) ∧ W.cell? ⟨g1, 1, none⟩ = some (.bool fs) ∧ W.cell? ⟨g1, 2, none⟩ = some (.slice fa fvv.length fcp) ∧ W.cell? ⟨bb, o + j * 3, none⟩ = some (.string xn) ∧ W.cell? ⟨bb, o + j * 3 + 1, none⟩ = some (.bool xs) ∧ W.cell? ⟨bb, o + j * 3 + 2, none⟩ = some (.slice xa xv.length xc)) (by kernel_rfl) (KH.out _ _ L17.out) (fun hHeld => ?_)
            clear L16 R16
            refine wpAnyH_take (i := 0) (oi := { dst := some 46, op := Op.fieldAddr 25 (Operand.tmp 5) 0, type := 0, pos := "ref.go:39", after := #[], guard := none }) (v := ?_) rfl (by kernel_rfl) (by kernel_rfl) (by kernel_rfl) (fun _ _ _ h => h) (Or.inl ⟨by rfl, ?_⟩) hHeld ?_
            rotate_left
            · intro w hSw; (try dsimp only at hSw); go_simp; (try with_reducible rfl)
            simp only [Act.put, List.setIfInBounds_toArray, List.set_cons_zero, List.set_cons_succ]
            refine wpAnyH_take (i := 2) (oi := { dst := some 48, op := Op.fieldAddr 25 (Operand.tmp 2) 0, type := 0, pos := "ref.go:39", after := #[], guard := none }) (v := ?_) rfl (by kernel_rfl) (by kernel_rfl) (by kernel_rfl) (fun _ _ _ h => h) (Or.inl ⟨by rfl, ?_⟩) hHeld ?_
            rotate_left
            · intro w hSw; (try dsimp only at hSw); go_simp; (try with_reducible rfl)
            simp only [Act.put, List.setIfInBounds_toArray, List.set_cons_zero, List.set_cons_succ]
            refine wpAnyH_take (i := 3) (oi := { dst := some 49, op := Op.load 22 (Operand.tmp 48), type := 22, pos := "ref.go:39", after := #[{ on := 2, ground := Ground.data }], guard := none }) (v := ?_) rfl (by kernel_rfl) (by kernel_rfl) (by kernel_rfl) (fun _ _ _ h => h) (Or.inl ⟨by rfl, ?_⟩) hHeld ?_
            rotate_left
            · intro w hSw; (try dsimp only at hSw); go_simp; (try with_reducible rfl)
            simp only [Act.put, List.setIfInBounds_toArray, List.set_cons_zero, List.set_cons_succ]
            refine wpAnyH_take (i := 4) (oi := { dst := some 50, op := Op.move (Operand.tmp 7), type := 3, pos := "ref.go:39", after := #[], guard := none }) (v := ?_) rfl (by kernel_rfl) (by kernel_rfl) (by kernel_rfl) (fun _ _ _ h => h) (Or.inl ⟨by rfl, ?_⟩) hHeld ?_
            rotate_left
            · intro w hSw; (try dsimp only at hSw); go_simp; (try with_reducible rfl)
            simp only [Act.put, List.setIfInBounds_toArray, List.set_cons_zero, List.set_cons_succ]
            refine wpAnyH_take (i := 5) (oi := { dst := some 51, op := Op.indexAddr 22 (Operand.tmp 49) (Operand.tmp 50), type := 0, pos := "ref.go:39", after := #[{ on := 3, ground := Ground.data }, { on := 4, ground := Ground.data }], guard := none }) (v := ?_) rfl (by kernel_rfl) (by kernel_rfl) (by kernel_rfl) (fun _ _ _ h => h) (Or.inl ⟨by rfl, ?_⟩) hHeld ?_
            rotate_left
            · intro w hSw; (try dsimp only at hSw); go_simp; (try with_reducible rfl)
            simp only [Act.put, List.setIfInBounds_toArray, List.set_cons_zero, List.set_cons_succ]
            refine wpAnyH_take (i := 6) (oi := { dst := some 52, op := Op.load 29 (Operand.tmp 51), type := 29, pos := "ref.go:39", after := #[{ on := 5, ground := Ground.data }], guard := none }) (v := ?_) rfl (by kernel_rfl) (by kernel_rfl) (by kernel_rfl) (fun _ _ _ h => h) (Or.inl ⟨by rfl, ?_⟩) hHeld ?_
            rotate_left
            · intro w hSw; (try dsimp only at hSw); go_simp; (try with_reducible rfl)
            simp only [Act.put, List.setIfInBounds_toArray, List.set_cons_zero, List.set_cons_succ]
            refine wpAnyH_ready (rs := [1, 7]) (by kernel_rfl) (by simp) ?_
            refine AllReadyH.cons (o := { dst := some 47, op := Op.load 22 (Operand.tmp 46), type := 22, pos := "ref.go:39", after := #[{ on := 0, ground := Ground.data }], guard := none }) rfl (fun K hK => ?_) (AllReadyH.cons (o := { dst := some 53, op := Op.buildSlice 22 1 #[(0, Operand.tmp 52)], type := 22, pos := "ref.go:39", after := #[{ on := 6, ground := Ground.data }], guard := none }) rfl (fun K hK => ?_) AllReadyH.nil)
            · obtain ⟨o0, o1, _⟩ := cells2 L17.out.out
              go_simp
              clear o0 o1
              refine hK.out _ _ (KH.out _ _ L17.out) (fun hHeld => ?_)
              clear hK
              refine wpAnyH_ready (rs := [7]) (by kernel_rfl) (by simp) ?_
              refine AllReadyH.cons (o := { dst := some 53, op := Op.buildSlice 22 1 #[(0, Operand.tmp 52)], type := 22, pos := "ref.go:39", after := #[{ on := 6, ground := Ground.data }], guard := none }) rfl (fun K hK => ?_) AllReadyH.nil
              obtain ⟨z19, hz19⟩ : ∃ W, W16.drew.alloc (.cells #[.string xn, .bool xs, .slice xa xv.length xc] 29) = W := ⟨_, rfl⟩
              go_simp
              have hb : Below W16.drew.heap.size W16.drew z19 := by rw [← hz19]; exact (gr_new _ _).below
              have NF : Hid (∀ i u, (fc ⟨⟨xn, xs, xv⟩, xa, xc⟩)[i]? = some u → z19.cell? ((⟨W16.heap.size, 0, none⟩ : Addr).add i) = some u) := by unfold Hid; rw [← hz19]; exact new_fc _ _ _
              have L19 : Hid (LaidW w z19 w.heap.size g1 g2 g3 base (.cells #[.slice (some ⟨bb, o, none⟩) R.length c, .slice b sn d] 25 (0, 0)) (.cells #[.string fn, .bool fs, .slice fa fvv.length fcp] 29 (0, 0)) (.cells #[.slice none 0 0, .slice none 0 0] 25 (0, 0)) (.slice q13 acc13.length m13) (.slice b sn d)) := L17.out.low SD.out (low_of_new L17.out.sz hb)
              have R19 := hid (R17.out.keep hb)
              clear hb hz19 L17 R17
              refine hK.out _ _ (KH.out _ _ L19.out) (fun hHeld => ?_)
              clear hK
              refine wpAnyH_ready (rs := [8]) (by kernel_rfl) (by simp) ?_
              refine AllReadyH.cons (o := { dst := some 54, op := Op.call { callee := Callee.builtin Builtin.append, args := #[Operand.tmp 47, Operand.tmp 53], argTypes := #[22, 22] }, type := 22, pos := "ref.go:39", after := #[{ on := 1, ground := Ground.data }, { on := 7, ground := Ground.data }], guard := none }) rfl (fun K hK => ?_) AllReadyH.nil
              refine step_append_own (by rfl) _ _ (by rfl) base (.slice q13 acc13.length m13) acc13 (by rfl) R19.out ⟨W16.heap.size, 0, none⟩ 1 ⟨⟨xn, xs, xv⟩, xa, xc⟩ (by rfl) NF.out (by have := HLN.out; omega) L19.out.sz ?_
              intro q20 m20 z20 hrow hg
              have L20 : Hid (LaidW w z20 w.heap.size g1 g2 g3 base (.cells #[.slice (some ⟨bb, o, none⟩) R.length c, .slice b sn d] 25 (0, 0)) (.cells #[.string fn, .bool fs, .slice fa fvv.length fcp] 29 (0, 0)) (.cells #[.slice none 0 0, .slice none 0 0] 25 (0, 0)) (.slice q13 acc13.length m13) (.slice b sn d)) := L19.out.low SD.out (low_of_grown L19.out.sz R19.out hg)
              obtain ⟨acc20, hacc20⟩ : ∃ l, acc13 ++ [(⟨⟨xn, xs, xv⟩, xa, xc⟩ : Cel)] = l := ⟨_, rfl⟩
              rw [hacc20] at hrow ⊢
              have R20 := hid hrow
              have HL20 : Hid (acc20.length = acc13.length + 1) := by unfold Hid; rw [← hacc20, List.length_append]; rfl
              have HA20 : Hid (∀ x ∈ acc20, OneAt w x) := by unfold Hid; rw [← hacc20]; exact all_snoc HA13.out HX.out
              have HW20 : Hid (M.wloop ⟨fn, fs, fvv⟩ true (fldOf acc20) ((fldOf R).drop (j + 1)) = M.wloop ⟨fn, fs, fvv⟩ false [] (fldOf R)) := by unfold Hid; rw [← hacc20, fldOf_snoc]; exact wl_take HW13.out HE.out
              clear hrow hg hacc20 NF L19 R19
              refine hK.out _ _ (KH.out _ _ L20.out) (fun hHeld => ?_)
              clear hK
              refine wpAnyH_take (i := 9) (oi := { dst := some 55, op := Op.fieldAddr 25 (Operand.tmp 5) 0, type := 0, pos := "ref.go:39", after := #[{ on := 0, ground := Ground.phase }, { on := 1, ground := Ground.phase }, { on := 2, ground := Ground.phase }, { on := 3, ground := Ground.phase }, { on := 4, ground := Ground.phase }, { on := 5, ground := Ground.phase }, { on := 6, ground := Ground.phase }, { on := 7, ground := Ground.phase }, { on := 8, ground := Ground.phase }], guard := none }) (v := ?_) rfl (by kernel_rfl) (by kernel_rfl) (by kernel_rfl) (fun _ _ _ h => h) (Or.inl ⟨by rfl, ?_⟩) hHeld ?_
              rotate_left
              · intro w hSw; (try dsimp only at hSw); go_simp; (try with_reducible rfl)
              simp only [Act.put, List.setIfInBounds_toArray, List.set_cons_zero, List.set_cons_succ]
              refine wpAnyH_ready (rs := [10]) (by kernel_rfl) (by simp) ?_
              refine AllReadyH.cons (o := { dst := none, op := Op.store 22 (Operand.tmp 55) (Operand.tmp 54), type := 0, pos := "ref.go:39", after := #[{ on := 9, ground := Ground.data }, { on := 8, ground := Ground.data }, { on := 8, ground := Ground.chain }, { on := 0, ground := Ground.phase }, { on := 1, ground := Ground.phase }, { on := 2, ground := Ground.phase }, { on := 3, ground := Ground.phase }, { on := 4, ground := Ground.phase }, { on := 5, ground := Ground.phase }, { on := 6, ground := Ground.phase }, { on := 7, ground := Ground.phase }, { on := 8, ground := Ground.phase }], guard := none }) rfl (fun K hK => ?_) AllReadyH.nil
              obtain ⟨o0, o1, _⟩ := cells2 L20.out.out
              go_simp
              clear o0 o1
              have L21 : Hid (LaidW w (z20.setCell ⟨g3, 0, none⟩ (.slice q20 acc20.length m20)) w.heap.size g1 g2 g3 base (.cells #[.slice (some ⟨bb, o, none⟩) R.length c, .slice b sn d] 25 (0, 0)) (.cells #[.string fn, .bool fs, .slice fa fvv.length fcp] 29 (0, 0)) (.cells #[.slice none 0 0, .slice none 0 0] 25 (0, 0)) (.slice q20 acc20.length m20) (.slice b sn d)) := L20.out.put SD.out _
              have R21 := hid (RowF.other (p := 0) (u := .slice q20 acc20.length m20) R20.out SD.out.n3)
              clear L20 R20
              refine hK.out _ _ (KH.out _ _ L21.out) (fun hHeld => ?_)
              clear hK
              refine wpAnyH_done (by kernel_rfl) ?_ _
              clear hHeld
              go_wp2
              exact ⟨⟨j + 1, true, acc20, q20, m20, by omega, rfl, by go_num, L21, R21, (by show _ ≤ j + 1 + 1; rw [HL20.out]; rw [HL13.out]; have := HLEN.out; omega), HA20, HW20⟩, by simp [intOf]; omega⟩
            · obtain ⟨z22, hz22⟩ : ∃ W, W16.drew.alloc (.cells #[.string xn, .bool xs, .slice xa xv.length xc] 29) = W := ⟨_, rfl⟩
              go_simp
              have hb : Below W16.drew.heap.size W16.drew z22 := by rw [← hz22]; exact (gr_new _ _).below
              have NF : Hid (∀ i u, (fc ⟨⟨xn, xs, xv⟩, xa, xc⟩)[i]? = some u → z22.cell? ((⟨W16.heap.size, 0, none⟩ : Addr).add i) = some u) := by unfold Hid; rw [← hz22]; exact new_fc _ _ _
              have L22 : Hid (LaidW w z22 w.heap.size g1 g2 g3 base (.cells #[.slice (some ⟨bb, o, none⟩) R.length c, .slice b sn d] 25 (0, 0)) (.cells #[.string fn, .bool fs, .slice fa fvv.length fcp] 29 (0, 0)) (.cells #[.slice none 0 0, .slice none 0 0] 25 (0, 0)) (.slice q13 acc13.length m13) (.slice b sn d)) := L17.out.low SD.out (low_of_new L17.out.sz hb)
              have R22 := hid (R17.out.keep hb)
              clear hb hz22 L17 R17
              refine hK.out _ _ (KH.out _ _ L22.out) (fun hHeld => ?_)
              clear hK
              refine wpAnyH_ready (rs := [1]) (by kernel_rfl) (by simp) ?_
              refine AllReadyH.cons (o := { dst := some 47, op := Op.load 22 (Operand.tmp 46), type := 22, pos := "ref.go:39", after := #[{ on := 0, ground := Ground.data }], guard := none }) rfl (fun K hK => ?_) AllReadyH.nil
              obtain ⟨o0, o1, _⟩ := cells2 L22.out.out
              go_simp
              clear o0 o1
              refine hK.out _ _ (KH.out _ _ L22.out) (fun hHeld => ?_)
              clear hK
              refine wpAnyH_ready (rs := [8]) (by kernel_rfl) (by simp) ?_
              refine AllReadyH.cons (o := { dst := some 54, op := Op.call { callee := Callee.builtin Builtin.append, args := #[Operand.tmp 47, Operand.tmp 53], argTypes := #[22, 22] }, type := 22, pos := "ref.go:39", after := #[{ on := 1, ground := Ground.data }, { on := 7, ground := Ground.data }], guard := none }) rfl (fun K hK => ?_) AllReadyH.nil
              refine step_append_own (by rfl) _ _ (by rfl) base (.slice q13 acc13.length m13) acc13 (by rfl) R22.out ⟨W16.heap.size, 0, none⟩ 1 ⟨⟨xn, xs, xv⟩, xa, xc⟩ (by rfl) NF.out (by have := HLN.out; omega) L22.out.sz ?_
              intro q24 m24 z24 hrow hg
              have L24 : Hid (LaidW w z24 w.heap.size g1 g2 g3 base (.cells #[.slice (some ⟨bb, o, none⟩) R.length c, .slice b sn d] 25 (0, 0)) (.cells #[.string fn, .bool fs, .slice fa fvv.length fcp] 29 (0, 0)) (.cells #[.slice none 0 0, .slice none 0 0] 25 (0, 0)) (.slice q13 acc13.length m13) (.slice b sn d)) := L22.out.low SD.out (low_of_grown L22.out.sz R22.out hg)
              obtain ⟨acc24, hacc24⟩ : ∃ l, acc13 ++ [(⟨⟨xn, xs, xv⟩, xa, xc⟩ : Cel)] = l := ⟨_, rfl⟩
              rw [hacc24] at hrow ⊢
              have R24 := hid hrow
              have HL24 : Hid (acc24.length = acc13.length + 1) := by unfold Hid; rw [← hacc24, List.length_append]; rfl
              have HA24 : Hid (∀ x ∈ acc24, OneAt w x) := by unfold Hid; rw [← hacc24]; exact all_snoc HA13.out HX.out
              have HW24 : Hid (M.wloop ⟨fn, fs, fvv⟩ true (fldOf acc24) ((fldOf R).drop (j + 1)) = M.wloop ⟨fn, fs, fvv⟩ false [] (fldOf R)) := by unfold Hid; rw [← hacc24, fldOf_snoc]; exact wl_take HW13.out HE.out
              clear hrow hg hacc24 NF L22 R22
              refine hK.out _ _ (KH.out _ _ L24.out) (fun hHeld => ?_)
              clear hK
              refine wpAnyH_take (i := 9) (oi := { dst := some 55, op := Op.fieldAddr 25 (Operand.tmp 5) 0, type := 0, pos := "ref.go:39", after := #[{ on := 0, ground := Ground.phase }, { on := 1, ground := Ground.phase }, { on := 2, ground := Ground.phase }, { on := 3, ground := Ground.phase }, { on := 4, ground := Ground.phase }, { on := 5, ground := Ground.phase }, { on := 6, ground := Ground.phase }, { on := 7, ground := Ground.phase }, { on := 8, ground := Ground.phase }], guard := none }) (v := ?_) rfl (by kernel_rfl) (by kernel_rfl) (by kernel_rfl) (fun _ _ _ h => h) (Or.inl ⟨by rfl, ?_⟩) hHeld ?_
              rotate_left
              · intro w hSw; (try dsimp only at hSw); go_simp; (try with_reducible rfl)
              simp only [Act.put, List.setIfInBounds_toArray, List.set_cons_zero, List.set_cons_succ]
              refine wpAnyH_ready (rs := [10]) (by kernel_rfl) (by simp) ?_
              refine AllReadyH.cons (o := { dst := none, op := Op.store 22 (Operand.tmp 55) (Operand.tmp 54), type := 0, pos := "ref.go:39", after := #[{ on := 9, ground := Ground.data }, { on := 8, ground := Ground.data }, { on := 8, ground := Ground.chain }, { on := 0, ground := Ground.phase }, { on := 1, ground := Ground.phase }, { on := 2, ground := Ground.phase }, { on := 3, ground := Ground.phase }, { on := 4, ground := Ground.phase }, { on := 5, ground := Ground.phase }, { on := 6, ground := Ground.phase }, { on := 7, ground := Ground.phase }, { on := 8, ground := Ground.phase }], guard := none }) rfl (fun K hK => ?_) AllReadyH.nil
              obtain ⟨o0, o1, _⟩ := cells2 L24.out.out
              go_simp
              clear o0 o1
              have L25 : Hid (LaidW w (z24.setCell ⟨g3, 0, none⟩ (.slice q24 acc24.length m24)) w.heap.size g1 g2 g3 base (.cells #[.slice (some ⟨bb, o, none⟩) R.length c, .slice b sn d] 25 (0, 0)) (.cells #[.string fn, .bool fs, .slice fa fvv.length fcp] 29 (0, 0)) (.cells #[.slice none 0 0, .slice none 0 0] 25 (0, 0)) (.slice q24 acc24.length m24) (.slice b sn d)) := L24.out.put SD.out _
              have R25 := hid (RowF.other (p := 0) (u := .slice q24 acc24.length m24) R24.out SD.out.n3)
              clear L24 R24
              refine hK.out _ _ (KH.out _ _ L25.out) (fun hHeld => ?_)
              clear hK
              refine wpAnyH_done (by kernel_rfl) ?_ _
              clear hHeld
              go_wp2
              exact ⟨⟨j + 1, true, acc24, q24, m24, by omega, rfl, by go_num, L25, R25, (by show _ ≤ j + 1 + 1; rw [HL24.out]; rw [HL13.out]; have := HLEN.out; omega), HA24, HW24⟩, by simp [intOf]; omega⟩
      · have HLEN : Hid (acc0.length ≤ j + 1) := HLEN
        obtain ⟨s0, s1, _⟩ := cells2 hl.out.a1
        obtain ⟨f0, f1, f2, _⟩ := cells3 hl.out.a2
        obtain ⟨c1, c2, c3⟩ := HT.out.bel hlt hl.out.bel
        obtain ⟨o0, o1, _⟩ := cells2 hl.out.out
        go_wp2_with fail
        clear s0 s1 f0 f1 f2 c1 c2 c3 o0 o1
        have L26 : Hid (LaidW w wr.drew w.heap.size g1 g2 g3 base (.cells #[.slice (some ⟨bb, o, none⟩) R.length c, .slice b sn d] 25 (0, 0)) (.cells #[.string fn, .bool fs, .slice fa fvv.length fcp] 29 (0, 0)) (.cells #[.slice none 0 0, .slice none 0 0] 25 (0, 0)) (.slice q0 acc0.length m0) (.slice b sn d)) := hl.out.low SD.out (low_of_new hl.out.sz (Gr.refl _).drew.below)
        have R26 := hid (hrow.out.keep ((Gr.refl wr).drew.below))
        refine wp_region_held_drew (S := fun W => W.cell? ⟨w.heap.size, 0, none⟩ = some (.slice (some ⟨bb, o, none⟩) R.length c) ∧ W.cell? ⟨w.heap.size, 1, none⟩ = some (.slice b sn d) ∧ W.cell? ⟨g1, 0, none⟩ = some (.string fn) ∧ W.cell? ⟨g1, 1, none⟩ = some (.bool fs) ∧ W.cell? ⟨g1, 2, none⟩ = some (.slice fa fvv.length fcp) ∧ W.cell? ⟨bb, o + j * 3, none⟩ = some (.string xn) ∧ W.cell? ⟨bb, o + j * 3 + 1, none⟩ = some (.bool xs) ∧ W.cell? ⟨bb, o + j * 3 + 2, none⟩ = some (.slice xa xv.length xc)) (by kernel_rfl) (KH.out _ _ L26.out) (fun hHeld => ?_)
        refine wpAnyH_take (i := 0) (oi := { dst := some 18, op := Op.move (Operand.tmp 6), type := 4, pos := "ref.go:34", after := #[], guard := none }) (v := ?_) rfl (by kernel_rfl) (by kernel_rfl) (by kernel_rfl) (fun _ _ _ h => h) (Or.inl ⟨by rfl, ?_⟩) hHeld ?_
        rotate_left
        · intro w hSw; (try dsimp only at hSw); go_simp; (try with_reducible rfl)
        simp only [Act.put, List.setIfInBounds_toArray, List.set_cons_zero, List.set_cons_succ]
        refine wpAnyH_take (i := 1) (oi := { dst := some 19, op := Op.unOp UnOp.not 4 (Operand.tmp 18), type := 4, pos := "ref.go:34", after := #[{ on := 0, ground := Ground.data }], guard := none }) (v := ?_) rfl (by kernel_rfl) (by kernel_rfl) (by kernel_rfl) (fun _ _ _ h => h) (Or.inl ⟨by rfl, ?_⟩) hHeld ?_
        rotate_left
        · intro w hSw; (try dsimp only at hSw); go_simp; (try with_reducible rfl)
        simp only [Act.put, List.setIfInBounds_toArray, List.set_cons_zero, List.set_cons_succ]
        refine wpAnyH_take (i := 2) (oi := { dst := some 20, op := Op.move (Operand.tmp 19), type := 4, pos := "ref.go:34", after := #[{ on := 1, ground := Ground.data }], guard := none }) (v := ?_) rfl (by kernel_rfl) (by kernel_rfl) (by kernel_rfl) (fun _ _ _ h => h) (Or.inl ⟨by rfl, ?_⟩) hHeld ?_
        rotate_left
        · intro w hSw; (try dsimp only at hSw); go_simp; (try with_reducible rfl)
        simp only [Act.put, List.setIfInBounds_toArray, List.set_cons_zero, List.set_cons_succ]
        refine wpAnyH_take (i := 3) (oi := { dst := some 21, op := Op.fieldAddr 29 (Operand.tmp 3) 0, type := 0, pos := "ref.go:34", after := #[{ on := 2, ground := Ground.guard }], guard := some (2, true) }) (v := undef) rfl (by kernel_rfl) (by kernel_rfl) (by kernel_rfl) (fun _ _ _ h => h) (Or.inr ⟨by rfl, rfl⟩) hHeld ?_
        simp only [Act.put, List.setIfInBounds_toArray, List.set_cons_zero, List.set_cons_succ]
        refine wpAnyH_take (i := 4) (oi := { dst := some 22, op := Op.load 9 (Operand.tmp 21), type := 9, pos := "ref.go:34", after := #[{ on := 3, ground := Ground.data }, { on := 2, ground := Ground.guard }], guard := some (2, true) }) (v := undef) rfl (by kernel_rfl) (by kernel_rfl) (by kernel_rfl) (fun _ _ _ h => h) (Or.inr ⟨by rfl, rfl⟩) hHeld ?_
        simp only [Act.put, List.setIfInBounds_toArray, List.set_cons_zero, List.set_cons_succ]
        refine wpAnyH_take (i := 5) (oi := { dst := some 23, op := Op.fieldAddr 25 (Operand.tmp 2) 0, type := 0, pos := "ref.go:34", after := #[{ on := 2, ground := Ground.guard }], guard := some (2, true) }) (v := undef) rfl (by kernel_rfl) (by kernel_rfl) (by kernel_rfl) (fun _ _ _ h => h) (Or.inr ⟨by rfl, rfl⟩) hHeld ?_
        simp only [Act.put, List.setIfInBounds_toArray, List.set_cons_zero, List.set_cons_succ]
        refine wpAnyH_take (i := 6) (oi := { dst := some 24, op := Op.load 22 (Operand.tmp 23), type := 22, pos := "ref.go:34", after := #[{ on := 5, ground := Ground.data }, { on := 2, ground := Ground.guard }], guard := some (2, true) }) (v := undef) rfl (by kernel_rfl) (by kernel_rfl) (by kernel_rfl) (fun _ _ _ h => h) (Or.inr ⟨by rfl, rfl⟩) hHeld ?_
        simp only [Act.put, List.setIfInBounds_toArray, List.set_cons_zero, List.set_cons_succ]
        refine wpAnyH_take (i := 7) (oi := { dst := some 25, op := Op.move (Operand.tmp 7), type := 3, pos := "ref.go:34", after := #[{ on := 2, ground := Ground.guard }], guard := some (2, true) }) (v := undef) rfl (by kernel_rfl) (by kernel_rfl) (by kernel_rfl) (fun _ _ _ h => h) (Or.inr ⟨by rfl, rfl⟩) hHeld ?_
        simp only [Act.put, List.setIfInBounds_toArray, List.set_cons_zero, List.set_cons_succ]
        refine wpAnyH_take (i := 8) (oi := { dst := some 26, op := Op.indexAddr 22 (Operand.tmp 24) (Operand.tmp 25), type := 0, pos := "ref.go:34", after := #[{ on := 6, ground := Ground.data }, { on := 7, ground := Ground.data }, { on := 2, ground := Ground.guard }], guard := some (2, true) }) (v := undef) rfl (by kernel_rfl) (by kernel_rfl) (by kernel_rfl) (fun _ _ _ h => h) (Or.inr ⟨by rfl, rfl⟩) hHeld ?_
        simp only [Act.put, List.setIfInBounds_toArray, List.set_cons_zero, List.set_cons_succ]
        refine wpAnyH_take (i := 9) (oi := { dst := some 27, op := Op.fieldAddr 29 (Operand.tmp 26) 0, type := 0, pos := "ref.go:34", after := #[{ on := 8, ground := Ground.data }, { on := 2, ground := Ground.guard }], guard := some (2, true) }) (v := undef) rfl (by kernel_rfl) (by kernel_rfl) (by kernel_rfl) (fun _ _ _ h => h) (Or.inr ⟨by rfl, rfl⟩) hHeld ?_
        simp only [Act.put, List.setIfInBounds_toArray, List.set_cons_zero, List.set_cons_succ]
        refine wpAnyH_take (i := 10) (oi := { dst := some 28, op := Op.load 9 (Operand.tmp 27), type := 9, pos := "ref.go:34", after := #[{ on := 9, ground := Ground.data }, { on := 2, ground := Ground.guard }], guard := some (2, true) }) (v := undef) rfl (by kernel_rfl) (by kernel_rfl) (by kernel_rfl) (fun _ _ _ h => h) (Or.inr ⟨by rfl, rfl⟩) hHeld ?_
        simp only [Act.put, List.setIfInBounds_toArray, List.set_cons_zero, List.set_cons_succ]
        refine wpAnyH_take (i := 11) (oi := { dst := some 29, op := Op.binOp BinOp.leq 9 (Operand.tmp 22) (Operand.tmp 28) 9, type := 4, pos := "ref.go:34", after := #[{ on := 4, ground := Ground.data }, { on := 10, ground := Ground.data }, { on := 2, ground := Ground.guard }], guard := some (2, true) }) (v := undef) rfl (by kernel_rfl) (by kernel_rfl) (by kernel_rfl) (fun _ _ _ h => h) (Or.inr ⟨by rfl, rfl⟩) hHeld ?_
        simp only [Act.put, List.setIfInBounds_toArray, List.set_cons_zero, List.set_cons_succ]
        refine wpAnyH_take (i := 12) (oi := { dst := some 30, op := Op.pick (Operand.tmp 20) (Operand.tmp 29) (Operand.const (Value.bool false)), type := 4, pos := "ref.go:34", after := #[{ on := 2, ground := Ground.data }, { on := 11, ground := Ground.data }], guard := none }) (v := ?_) rfl (by kernel_rfl) (by kernel_rfl) (by kernel_rfl) (fun _ _ _ h => h) (Or.inl ⟨by rfl, ?_⟩) hHeld ?_
        rotate_left
        · intro w hSw; (try dsimp only at hSw); go_simp; (try with_reducible rfl)
        simp only [Act.put, List.setIfInBounds_toArray, List.set_cons_zero, List.set_cons_succ]
        refine wpAnyH_done (by kernel_rfl) ?_ _
        clear hHeld
        clear hl hrow
        generalize hw26 : wr.drew = W26 at L26 R26 ⊢
        clear hw26
        by_cases he : xn = fn
        · have hd : (xn.toList == fn.toList) = true := by rw [same_name]; exact decide_eq_true he
          have HE := hid he
          clear he
          obtain ⟨s0, s1, _⟩ := cells2 L26.out.a1
          obtain ⟨f0, f1, f2, _⟩ := cells3 L26.out.a2
          obtain ⟨c1, c2, c3⟩ := HT.out.bel hlt L26.out.bel
          obtain ⟨o0, o1, _⟩ := cells2 L26.out.out
          go_wp2_with fail
          clear s0 s1 f0 f1 f2 c1 c2 c3 o0 o1
          have L27 : Hid (LaidW w W26.drew w.heap.size g1 g2 g3 base (.cells #[.slice (some ⟨bb, o, none⟩) R.length c, .slice b sn d] 25 (0, 0)) (.cells #[.string fn, .bool fs, .slice fa fvv.length fcp] 29 (0, 0)) (.cells #[.slice none 0 0, .slice none 0 0] 25 (0, 0)) (.slice q0 acc0.length m0) (.slice b sn d)) := L26.out.low SD.out (low_of_new L26.out.sz (Gr.refl _).drew.below)
          have R27 := hid (R26.out.keep ((Gr.refl W26).drew.below))
          refine wp_region_held_drew (S := fun W => W.cell? ⟨w.heap.size, 0, none⟩ = some (.slice (some ⟨bb, o, none⟩) R.length c) ∧ W.cell? ⟨w.heap.size, 1, none⟩ = some (.slice b sn d) ∧ W.cell? ⟨g1, 0, none⟩ = some (.string fn) ∧ W.cell? ⟨g1, 1, none⟩ = some (.bool fs) ∧ W.cell? ⟨g1, 2, none⟩ = some (.slice fa fvv.length fcp) ∧ W.cell? ⟨bb, o + j * 3, none⟩ = some (.string xn) ∧ W.cell? ⟨bb, o + j * 3 + 1, none⟩ = some (.bool xs) ∧ W.cell? ⟨bb, o + j * 3 + 2, none⟩ = some (.slice xa xv.length xc)) (by kernel_rfl) (KH.out _ _ L27.out) (fun hHeld => ?_)
          refine wpAnyH_take (i := 0) (oi := { dst := some 37, op := Op.fieldAddr 25 (Operand.tmp 2) 0, type := 0, pos := "ref.go:38", after := #[], guard := none }) (v := ?_) rfl (by kernel_rfl) (by kernel_rfl) (by kernel_rfl) (fun _ _ _ h => h) (Or.inl ⟨by rfl, ?_⟩) hHeld ?_
          rotate_left
          · intro w hSw; (try dsimp only at hSw); go_simp; (try with_reducible rfl)
          simp only [Act.put, List.setIfInBounds_toArray, List.set_cons_zero, List.set_cons_succ]
          refine wpAnyH_take (i := 1) (oi := { dst := some 38, op := Op.load 22 (Operand.tmp 37), type := 22, pos := "ref.go:38", after := #[{ on := 0, ground := Ground.data }], guard := none }) (v := ?_) rfl (by kernel_rfl) (by kernel_rfl) (by kernel_rfl) (fun _ _ _ h => h) (Or.inl ⟨by rfl, ?_⟩) hHeld ?_
          rotate_left
          · intro w hSw; (try dsimp only at hSw); go_simp; (try with_reducible rfl)
          simp only [Act.put, List.setIfInBounds_toArray, List.set_cons_zero, List.set_cons_succ]
          refine wpAnyH_take (i := 2) (oi := { dst := some 39, op := Op.move (Operand.tmp 7), type := 3, pos := "ref.go:38", after := #[], guard := none }) (v := ?_) rfl (by kernel_rfl) (by kernel_rfl) (by kernel_rfl) (fun _ _ _ h => h) (Or.inl ⟨by rfl, ?_⟩) hHeld ?_
          rotate_left
          · intro w hSw; (try dsimp only at hSw); go_simp; (try with_reducible rfl)
          simp only [Act.put, List.setIfInBounds_toArray, List.set_cons_zero, List.set_cons_succ]
          refine wpAnyH_take (i := 3) (oi := { dst := some 40, op := Op.indexAddr 22 (Operand.tmp 38) (Operand.tmp 39), type := 0, pos := "ref.go:38", after := #[{ on := 1, ground := Ground.data }, { on := 2, ground := Ground.data }], guard := none }) (v := ?_) rfl (by kernel_rfl) (by kernel_rfl) (by kernel_rfl) (fun _ _ _ h => h) (Or.inl ⟨by rfl, ?_⟩) hHeld ?_
          rotate_left
          · intro w hSw; (try dsimp only at hSw); go_simp; (try with_reducible rfl)
          simp only [Act.put, List.setIfInBounds_toArray, List.set_cons_zero, List.set_cons_succ]
          refine wpAnyH_take (i := 4) (oi := { dst := some 41, op := Op.fieldAddr 29 (Operand.tmp 40) 0, type := 0, pos := "ref.go:38", after := #[{ on := 3, ground := Ground.data }], guard := none }) (v := ?_) rfl (by kernel_rfl) (by kernel_rfl) (by kernel_rfl) (fun _ _ _ h => h) (Or.inl ⟨by rfl, ?_⟩) hHeld ?_
          rotate_left
          · intro w hSw; (try dsimp only at hSw); go_simp; (try with_reducible rfl)
          simp only [Act.put, List.setIfInBounds_toArray, List.set_cons_zero, List.set_cons_succ]
          refine wpAnyH_take (i := 5) (oi := { dst := some 42, op := Op.load 9 (Operand.tmp 41), type := 9, pos := "ref.go:38", after := #[{ on := 4, ground := Ground.data }], guard := none }) (v := ?_) rfl (by kernel_rfl) (by kernel_rfl) (by kernel_rfl) (fun _ _ _ h => h) (Or.inl ⟨by rfl, ?_⟩) hHeld ?_
          rotate_left
          · intro w hSw; (try dsimp only at hSw); go_simp; (try with_reducible rfl)
          simp only [Act.put, List.setIfInBounds_toArray, List.set_cons_zero, List.set_cons_succ]
          refine wpAnyH_take (i := 6) (oi := { dst := some 43, op := Op.fieldAddr 29 (Operand.tmp 3) 0, type := 0, pos := "ref.go:38", after := #[], guard := none }) (v := ?_) rfl (by kernel_rfl) (by kernel_rfl) (by kernel_rfl) (fun _ _ _ h => h) (Or.inl ⟨by rfl, ?_⟩) hHeld ?_
          rotate_left
          · intro w hSw; (try dsimp only at hSw); go_simp; (try with_reducible rfl)
          simp only [Act.put, List.setIfInBounds_toArray, List.set_cons_zero, List.set_cons_succ]
          refine wpAnyH_take (i := 7) (oi := { dst := some 44, op := Op.load 9 (Operand.tmp 43), type := 9, pos := "ref.go:38", after := #[{ on := 6, ground := Ground.data }], guard := none }) (v := ?_) rfl (by kernel_rfl) (by kernel_rfl) (by kernel_rfl) (fun _ _ _ h => h) (Or.inl ⟨by rfl, ?_⟩) hHeld ?_
          rotate_left
          · intro w hSw; (try dsimp only at hSw); go_simp; (try with_reducible rfl)
          simp only [Act.put, List.setIfInBounds_toArray, List.set_cons_zero, List.set_cons_succ]
          refine wpAnyH_take (i := 8) (oi := { dst := some 45, op := Op.binOp BinOp.neq 9 (Operand.tmp 42) (Operand.tmp 44) 9, type := 4, pos := "ref.go:38", after := #[{ on := 5, ground := Ground.data }, { on := 7, ground := Ground.data }], guard := none }) (v := ?_) rfl (by kernel_rfl) (by kernel_rfl) (by kernel_rfl) (fun _ _ _ h => h) (Or.inl ⟨by rfl, ?_⟩) hHeld ?_
          rotate_left
          · intro w hSw; (try dsimp only at hSw); go_simp; (try with_reducible rfl)
          simp only [Act.put, List.setIfInBounds_toArray, List.set_cons_zero, List.set_cons_succ]
          refine wpAnyH_done (by kernel_rfl) ?_ _
          clear hHeld
          clear L26 R26
          generalize hw27 : W26.drew = W27 at L27 R27 ⊢
          clear hw27
          have HW2 := hid (wl_skip HW.out HE.out)
          go_wp2
          exact ⟨⟨j + 1, true, acc0, q0, m0, by omega, rfl, by go_num, L27, R27, (by show _ ≤ j + 1 + 1; have := HLEN.out; omega), hall, HW2⟩, by simp [intOf]; omega⟩
        · have hd : (xn.toList == fn.toList) = false := by rw [same_name]; exact decide_eq_false he
          have HE := hid he
          clear he
          obtain ⟨s0, s1, _⟩ := cells2 L26.out.a1
          obtain ⟨f0, f1, f2, _⟩ := cells3 L26.out.a2
          obtain ⟨c1, c2, c3⟩ := HT.out.bel hlt L26.out.bel
          obtain ⟨o0, o1, _⟩ := cells2 L26.out.out
          go_wp2_with fail
          clear s0 s1 f0 f1 f2 c1 c2 c3 o0 o1
          have L28 : Hid (LaidW w W26.drew w.heap.size g1 g2 g3 base (.cells #[.slice (some ⟨bb, o, none⟩) R.length c, .slice b sn d] 25 (0, 0)) (.cells #[.string fn, .bool fs, .slice fa fvv.length fcp] 29 (0, 0)) (.cells #[.slice none 0 0, .slice none 0 0] 25 (0, 0)) (.slice q0 acc0.length m0) (.slice b sn d)) := L26.out.low SD.out (low_of_new L26.out.sz (Gr.refl _).drew.below)
          have R28 := hid (R26.out.keep ((Gr.refl W26).drew.below))
          refine wp_region_held_drew (S := fun W => W.cell? ⟨w.heap.size, 0, none⟩ = some (.slice (some ⟨bb, o, none⟩) R.length c) ∧ W.cell? ⟨w.heap.size, 1, none⟩ = some (.slice b sn d) ∧ W.cell? ⟨g1, 0, none⟩ = some (.string fn) ∧ W.cell? ⟨g1, 1, none⟩ = some (.bool fs) ∧ W.cell? ⟨g1, 2, none⟩ = some (.slice fa fvv.length fcp) ∧ W.cell? ⟨bb, o + j * 3, none⟩ = some (.string xn) ∧ W.cell? ⟨bb, o + j * 3 + 1, none⟩ = some (.bool xs) ∧ W.cell? ⟨bb, o + j * 3 + 2, none⟩ = some (.slice xa xv.length xc)) (by kernel_rfl) (KH.out _ _ L28.out) (fun hHeld => ?_)
          refine wpAnyH_take (i := 0) (oi := { dst := some 37, op := Op.fieldAddr 25 (Operand.tmp 2) 0, type := 0, pos := "ref.go:38", after := #[], guard := none }) (v := ?_) rfl (by kernel_rfl) (by kernel_rfl) (by kernel_rfl) (fun _ _ _ h => h) (Or.inl ⟨by rfl, ?_⟩) hHeld ?_
          rotate_left
          · intro w hSw; (try dsimp only at hSw); go_simp; (try with_reducible rfl)
          simp only [Act.put, List.setIfInBounds_toArray, List.set_cons_zero, List.set_cons_succ]
          refine wpAnyH_take (i := 1) (oi := { dst := some 38, op := Op.load 22 (Operand.tmp 37), type := 22, pos := "ref.go:38", after := #[{ on := 0, ground := Ground.data }], guard := none }) (v := ?_) rfl (by kernel_rfl) (by kernel_rfl) (by kernel_rfl) (fun _ _ _ h => h) (Or.inl ⟨by rfl, ?_⟩) hHeld ?_
          rotate_left
          · intro w hSw; (try dsimp only at hSw); go_simp; (try with_reducible rfl)
          simp only [Act.put, List.setIfInBounds_toArray, List.set_cons_zero, List.set_cons_succ]
          refine wpAnyH_take (i := 2) (oi := { dst := some 39, op := Op.move (Operand.tmp 7), type := 3, pos := "ref.go:38", after := #[], guard := none }) (v := ?_) rfl (by kernel_rfl) (by kernel_rfl) (by kernel_rfl) (fun _ _ _ h => h) (Or.inl ⟨by rfl, ?_⟩) hHeld ?_
          rotate_left
          · intro w hSw; (try dsimp only at hSw); go_simp; (try with_reducible rfl)
          simp only [Act.put, List.setIfInBounds_toArray, List.set_cons_zero, List.set_cons_succ]
          refine wpAnyH_take (i := 3) (oi := { dst := some 40, op := Op.indexAddr 22 (Operand.tmp 38) (Operand.tmp 39), type := 0, pos := "ref.go:38", after := #[{ on := 1, ground := Ground.data }, { on := 2, ground := Ground.data }], guard := none }) (v := ?_) rfl (by kernel_rfl) (by kernel_rfl) (by kernel_rfl) (fun _ _ _ h => h) (Or.inl ⟨by rfl, ?_⟩) hHeld ?_
          rotate_left
          · intro w hSw; (try dsimp only at hSw); go_simp; (try with_reducible rfl)
          simp only [Act.put, List.setIfInBounds_toArray, List.set_cons_zero, List.set_cons_succ]
          refine wpAnyH_take (i := 4) (oi := { dst := some 41, op := Op.fieldAddr 29 (Operand.tmp 40) 0, type := 0, pos := "ref.go:38", after := #[{ on := 3, ground := Ground.data }], guard := none }) (v := ?_) rfl (by kernel_rfl) (by kernel_rfl) (by kernel_rfl) (fun _ _ _ h => h) (Or.inl ⟨by rfl, ?_⟩) hHeld ?_
          rotate_left
          · intro w hSw; (try dsimp only at hSw); go_simp; (try with_reducible rfl)
          simp only [Act.put, List.setIfInBounds_toArray, List.set_cons_zero, List.set_cons_succ]
          refine wpAnyH_take (i := 5) (oi := { dst := some 42, op := Op.load 9 (Operand.tmp 41), type := 9, pos := "ref.go:38", after := #[{ on := 4, ground := Ground.data }], guard := none }) (v := ?_) rfl (by kernel_rfl) (by kernel_rfl) (by kernel_rfl) (fun _ _ _ h => h) (Or.inl ⟨by rfl, ?_⟩) hHeld ?_
          rotate_left
          · intro w hSw; (try dsimp only at hSw); go_simp; (try with_reducible rfl)
          simp only [Act.put, List.setIfInBounds_toArray, List.set_cons_zero, List.set_cons_succ]
          refine wpAnyH_take (i := 6) (oi := { dst := some 43, op := Op.fieldAddr 29 (Operand.tmp 3) 0, type := 0, pos := "ref.go:38", after := #[], guard := none }) (v := ?_) rfl (by kernel_rfl) (by kernel_rfl) (by kernel_rfl) (fun _ _ _ h => h) (Or.inl ⟨by rfl, ?_⟩) hHeld ?_
          rotate_left
          · intro w hSw; (try dsimp only at hSw); go_simp; (try with_reducible rfl)
          simp only [Act.put, List.setIfInBounds_toArray, List.set_cons_zero, List.set_cons_succ]
          refine wpAnyH_take (i := 7) (oi := { dst := some 44, op := Op.load 9 (Operand.tmp 43), type := 9, pos := "ref.go:38", after := #[{ on := 6, ground := Ground.data }], guard := none }) (v := ?_) rfl (by kernel_rfl) (by kernel_rfl) (by kernel_rfl) (fun _ _ _ h => h) (Or.inl ⟨by rfl, ?_⟩) hHeld ?_
          rotate_left
          · intro w hSw; (try dsimp only at hSw); go_simp; (try with_reducible rfl)
          simp only [Act.put, List.setIfInBounds_toArray, List.set_cons_zero, List.set_cons_succ]
          refine wpAnyH_take (i := 8) (oi := { dst := some 45, op := Op.binOp BinOp.neq 9 (Operand.tmp 42) (Operand.tmp 44) 9, type := 4, pos := "ref.go:38", after := #[{ on := 5, ground := Ground.data }, { on := 7, ground := Ground.data }], guard := none }) (v := ?_) rfl (by kernel_rfl) (by kernel_rfl) (by kernel_rfl) (fun _ _ _ h => h) (Or.inl ⟨by rfl, ?_⟩) hHeld ?_
          rotate_left
          · intro w hSw; (try dsimp only at hSw); go_simp; (try with_reducible rfl)
          simp only [Act.put, List.setIfInBounds_toArray, List.set_cons_zero, List.set_cons_succ]
          refine wpAnyH_done (by kernel_rfl) ?_ _
          clear hHeld
          clear L26 R26
          generalize hw28 : W26.drew = W28 at L28 R28 ⊢
          clear hw28
          obtain ⟨s0, s1, _⟩ := cells2 L28.out.a1
          obtain ⟨f0, f1, f2, _⟩ := cells3 L28.out.a2
          obtain ⟨c1, c2, c3⟩ := HT.out.bel hlt L28.out.bel
          obtain ⟨o0, o1, _⟩ := cells2 L28.out.out
          go_wp2_with fail
          clear s0 s1 f0 f1 f2 c1 c2 c3 o0 o1
          have L29 : Hid (LaidW w W28.drew w.heap.size g1 g2 g3 base (.cells #[.slice (some ⟨bb, o, none⟩) R.length c, .slice b sn d] 25 (0, 0)) (.cells #[.string fn, .bool fs, .slice fa fvv.length fcp] 29 (0, 0)) (.cells #[.slice none 0 0, .slice none 0 0] 25 (0, 0)) (.slice q0 acc0.length m0) (.slice b sn d)) := L28.out.low SD.out (low_of_new L28.out.sz (Gr.refl _).drew.below)
          have R29 := hid (R28.out.keep ((Gr.refl W28).drew.below))
          have hlen : acc0.length ≤ 100001 := (by have := HLEN.out; omega)
          have HLN := hid hlen
          clear hlen
          refine wp_region_held_drew (S := fun W => W.cell? ⟨w.heap.size, 0, none⟩ = some (.slice (some ⟨bb, o, none⟩) R.length c) ∧ W.cell? ⟨w.heap.size, 1, none⟩ = some (.slice b sn d) ∧ W.cell? ⟨g1, 0, none⟩ = some (.string fn) ∧ W.cell? ⟨g1, 1, none⟩ = some (.bool fs) ∧ W.cell? ⟨g1, 2, none⟩ = some (.slice fa fvv.length fcp) ∧ W.cell? ⟨bb, o + j * 3, none⟩ = some (.string xn) ∧ W.cell? ⟨bb, o + j * 3 + 1, none⟩ = some (.bool xs) ∧ W.cell? ⟨bb, o + j * 3 + 2, none⟩ = some (.slice xa xv.length xc)) (by kernel_rfl) (KH.out _ _ L29.out) (fun hHeld => ?_)
          clear L28 R28
          refine wpAnyH_take (i := 0) (oi := { dst := some 46, op := Op.fieldAddr 25 (Operand.tmp 5) 0, type := 0, pos := "ref.go:39", after := #[], guard := none }) (v := ?_) rfl (by kernel_rfl) (by kernel_rfl) (by kernel_rfl) (fun _ _ _ h => h) (Or.inl ⟨by rfl, ?_⟩) hHeld ?_
          rotate_left
          · intro w hSw; (try dsimp only at hSw); go_simp; (try with_reducible rfl)
          simp only [Act.put, List.setIfInBounds_toArray, List.set_cons_zero, List.set_cons_succ]
          refine wpAnyH_take (i := 2) (oi := { dst := some 48, op := Op.fieldAddr 25 (Operand.tmp 2) 0, type := 0, pos := "ref.go:39", after := #[], guard := none }) (v := ?_) rfl (by kernel_rfl) (by kernel_rfl) (by kernel_rfl) (fun _ _ _ h => h) (Or.inl ⟨by rfl, ?_⟩) hHeld ?_
          rotate_left
          · intro w hSw; (try dsimp only at hSw); go_simp; (try with_reducible rfl)
          simp only [Act.put, List.setIfInBounds_toArray, List.set_cons_zero, List.set_cons_succ]
          refine wpAnyH_take (i := 3) (oi := { dst := some 49, op := Op.load 22 (Operand.tmp 48), type := 22, pos := "ref.go:39", after := #[{ on := 2, ground := Ground.data }], guard := none }) (v := ?_) rfl (by kernel_rfl) (by kernel_rfl) (by kernel_rfl) (fun _ _ _ h => h) (Or.inl ⟨by rfl, ?_⟩) hHeld ?_
          rotate_left
          · intro w hSw; (try dsimp only at hSw); go_simp; (try with_reducible rfl)
          simp only [Act.put, List.setIfInBounds_toArray, List.set_cons_zero, List.set_cons_succ]
          refine wpAnyH_take (i := 4) (oi := { dst := some 50, op := Op.move (Operand.tmp 7), type := 3, pos := "ref.go:39", after := #[], guard := none }) (v := ?_) rfl (by kernel_rfl) (by kernel_rfl) (by kernel_rfl) (fun _ _ _ h => h) (Or.inl ⟨by rfl, ?_⟩) hHeld ?_
          rotate_left
          · intro w hSw; (try dsimp only at hSw); go_simp; (try with_reducible rfl)
          simp only [Act.put, List.setIfInBounds_toArray, List.set_cons_zero, List.set_cons_succ]
          refine wpAnyH_take (i := 5) (oi := { dst := some 51, op := Op.indexAddr 22 (Operand.tmp 49) (Operand.tmp 50), type := 0, pos := "ref.go:39", after := #[{ on := 3, ground := Ground.data }, { on := 4, ground := Ground.data }], guard := none }) (v := ?_) rfl (by kernel_rfl) (by kernel_rfl) (by kernel_rfl) (fun _ _ _ h => h) (Or.inl ⟨by rfl, ?_⟩) hHeld ?_
          rotate_left
          · intro w hSw; (try dsimp only at hSw); go_simp; (try with_reducible rfl)
          simp only [Act.put, List.setIfInBounds_toArray, List.set_cons_zero, List.set_cons_succ]
          refine wpAnyH_take (i := 6) (oi := { dst := some 52, op := Op.load 29 (Operand.tmp 51), type := 29, pos := "ref.go:39", after := #[{ on := 5, ground := Ground.data }], guard := none }) (v := ?_) rfl (by kernel_rfl) (by kernel_rfl) (by kernel_rfl) (fun _ _ _ h => h) (Or.inl ⟨by rfl, ?_⟩) hHeld ?_
          rotate_left
          · intro w hSw; (try dsimp only at hSw); go_simp; (try with_reducible rfl)
          simp only [Act.put, List.setIfInBounds_toArray, List.set_cons_zero, List.set_cons_succ]
          refine wpAnyH_ready (rs := [1, 7]) (by kernel_rfl) (by simp) ?_
          refine AllReadyH.cons (o := { dst := some 47, op := Op.load 22 (Operand.tmp 46), type := 22, pos := "ref.go:39", after := #[{ on := 0, ground := Ground.data }], guard := none }) rfl (fun K hK => ?_) (AllReadyH.cons (o := { dst := some 53, op := Op.buildSlice 22 1 #[(0, Operand.tmp 52)], type := 22, pos := "ref.go:39", after := #[{ on := 6, ground := Ground.data }], guard := none }) rfl (fun K hK => ?_) AllReadyH.nil)
          · obtain ⟨o0, o1, _⟩ := cells2 L29.out.out
            go_simp
            clear o0 o1
            refine hK.out _ _ (KH.out _ _ L29.out) (fun hHeld => ?_)
            clear hK
            refine wpAnyH_ready (rs := [7]) (by kernel_rfl) (by simp) ?_
            refine AllReadyH.cons (o := { dst := some 53, op := Op.buildSlice 22 1 #[(0, Operand.tmp 52)], type := 22, pos := "ref.go:39", after := #[{ on := 6, ground := Ground.data }], guard := none }) rfl (fun K hK => ?_) AllReadyH.nil
            obtain ⟨z31, hz31⟩ : ∃ W, W28.drew.alloc (.cells #[.string xn, .bool xs, .slice xa xv.length xc] 29) = W := ⟨_, rfl⟩
            go_simp
            have hb : Below W28.drew.heap.size W28.drew z31 := by rw [← hz31]; exact (gr_new _ _).below
            have NF : Hid (∀ i u, (fc ⟨⟨xn, xs, xv⟩, xa, xc⟩)[i]? = some u → z31.cell? ((⟨W28.heap.size, 0, none⟩ : Addr).add i) = some u) := by unfold Hid; rw [← hz31]; exact new_fc _ _ _
            have L31 : Hid (LaidW w z31 w.heap.size g1 g2 g3 base (.cells #[.slice (some ⟨bb, o, none⟩) R.length c, .slice b sn d] 25 (0, 0)) (.cells #[.string fn, .bool fs, .slice fa fvv.length fcp] 29 (0, 0)) (.cells #[.slice none 0 0, .slice none 0 0] 25 (0, 0)) (.slice q0 acc0.length m0) (.slice b sn d)) := L29.out.low SD.out (low_of_new L29.out.sz hb)
            have R31 := hid (R29.out.keep hb)
            clear hb hz31 L29 R29
            refine hK.out _ _ (KH.out _ _ L31.out) (fun hHeld => ?_)
            clear hK
            refine wpAnyH_ready (rs := [8]) (by kernel_rfl) (by simp) ?_
            refine AllReadyH.cons (o := { dst := some 54, op := Op.call { callee := Callee.builtin Builtin.append, args := #[Operand.tmp 47, Operand.tmp 53], argTypes := #[22, 22] }, type := 22, pos := "ref.go:39", after := #[{ on := 1, ground := Ground.data }, { on := 7, ground := Ground.data }], guard := none }) rfl (fun K hK => ?_) AllReadyH.nil
            refine step_append_own (by rfl) _ _ (by rfl) base (.slice q0 acc0.length m0) acc0 (by rfl) R31.out ⟨W28.heap.size, 0, none⟩ 1 ⟨⟨xn, xs, xv⟩, xa, xc⟩ (by rfl) NF.out (by have := HLN.out; omega) L31.out.sz ?_
            intro q32 m32 z32 hrow hg
            have L32 : Hid (LaidW w z32 w.heap.size g1 g2 g3 base (.cells #[.slice (some ⟨bb, o, none⟩) R.length c, .slice b sn d] 25 (0, 0)) (.cells #[.string fn, .bool fs, .slice fa fvv.length fcp] 29 (0, 0)) (.cells #[.slice none 0 0, .slice none 0 0] 25 (0, 0)) (.slice q0 acc0.length m0) (.slice b sn d)) := L31.out.low SD.out (low_of_grown L31.out.sz R31.out hg)
            obtain ⟨acc32, hacc32⟩ : ∃ l, acc0 ++ [(⟨⟨xn, xs, xv⟩, xa, xc⟩ : Cel)] = l := ⟨_, rfl⟩
            rw [hacc32] at hrow ⊢
            have R32 := hid hrow
            have HL32 : Hid (acc32.length = acc0.length + 1) := by unfold Hid; rw [← hacc32, List.length_append]; rfl
            have HA32 : Hid (∀ x ∈ acc32, OneAt w x) := by unfold Hid; rw [← hacc32]; exact all_snoc hall.out HX.out
            have HW32 : Hid (M.wloop ⟨fn, fs, fvv⟩ true (fldOf acc32) ((fldOf R).drop (j + 1)) = M.wloop ⟨fn, fs, fvv⟩ false [] (fldOf R)) := by unfold Hid; rw [← hacc32, fldOf_snoc]; exact wl_take HW.out HE.out
            clear hrow hg hacc32 NF L31 R31
            refine hK.out _ _ (KH.out _ _ L32.out) (fun hHeld => ?_)
            clear hK
            refine wpAnyH_take (i := 9) (oi := { dst := some 55, op := Op.fieldAddr 25 (Operand.tmp 5) 0, type := 0, pos := "ref.go:39", after := #[{ on := 0, ground := Ground.phase }, { on := 1, ground := Ground.phase }, { on := 2, ground := Ground.phase }, { on := 3, ground := Ground.phase }, { on := 4, ground := Ground.phase }, { on := 5, ground := Ground.phase }, { on := 6, ground := Ground.phase }, { on := 7, ground := Ground.phase }, { on := 8, ground := Ground.phase }], guard := none }) (v := ?_) rfl (by kernel_rfl) (by kernel_rfl) (by kernel_rfl) (fun _ _ _ h => h) (Or.inl ⟨by rfl, ?_⟩) hHeld ?_
            rotate_left
            · intro w hSw; (try dsimp only at hSw); go_simp; (try with_reducible rfl)
            simp only [Act.put, List.setIfInBounds_toArray, List.set_cons_zero, List.set_cons_succ]
            refine wpAnyH_ready (rs := [10]) (by kernel_rfl) (by simp) ?_
            refine AllReadyH.cons (o := { dst := none, op := Op.store 22 (Operand.tmp 55) (Operand.tmp 54), type := 0, pos := "ref.go:39", after := #[{ on := 9, ground := Ground.data }, { on := 8, ground := Ground.data }, { on := 8, ground := Ground.chain }, { on := 0, ground := Ground.phase }, { on := 1, ground := Ground.phase }, { on := 2, ground := Ground.phase }, { on := 3, ground := Ground.phase }, { on := 4, ground := Ground.phase }, { on := 5, ground := Ground.phase }, { on := 6, ground := Ground.phase }, { on := 7, ground := Ground.phase }, { on := 8, ground := Ground.phase }], guard := none }) rfl (fun K hK => ?_) AllReadyH.nil
            obtain ⟨o0, o1, _⟩ := cells2 L32.out.out
            go_simp
            clear o0 o1
            have L33 : Hid (LaidW w (z32.setCell ⟨g3, 0, none⟩ (.slice q32 acc32.length m32)) w.heap.size g1 g2 g3 base (.cells #[.slice (some ⟨bb, o, none⟩) R.length c, .slice b sn d] 25 (0, 0)) (.cells #[.string fn, .bool fs, .slice fa fvv.length fcp] 29 (0, 0)) (.cells #[.slice none 0 0, .slice none 0 0] 25 (0, 0)) (.slice q32 acc32.length m32) (.slice b sn d)) := L32.out.put SD.out _
            have R33 := hid (RowF.other (p := 0) (u := .slice q32 acc32.length m32) R32.out SD.out.n3)
            clear L32 R32
            refine hK.out _ _ (KH.out _ _ L33.out) (fun hHeld => ?_)
            clear hK
            refine wpAnyH_done (by kernel_rfl) ?_ _
            clear hHeld
            go_wp2
            exact ⟨⟨j + 1, true, acc32, q32, m32, by omega, rfl, by go_num, L33, R33, (by show _ ≤ j + 1 + 1; rw [HL32.out]; have := HLEN.out; omega), HA32, HW32⟩, by simp [intOf]; omega⟩
          · obtain ⟨z34, hz34⟩ : ∃ W, W28.drew.alloc (.cells #[.string xn, .bool xs, .slice xa xv.length xc] 29) = W := ⟨_, rfl⟩
            go_simp
            have hb : Below W28.drew.heap.size W28.drew z34 := by rw [← hz34]; exact (gr_new _ _).below
            have NF : Hid (∀ i u, (fc ⟨⟨xn, xs, xv⟩, xa, xc⟩)[i]? = some u → z34.cell? ((⟨W28.heap.size, 0, none⟩ : Addr).add i) = some u) := by unfold Hid; rw [← hz34]; exact new_fc _ _ _
            have L34 : Hid (LaidW w z34 w.heap.size g1 g2 g3 base (.cells #[.slice (some ⟨bb, o, none⟩) R.length c, .slice b sn d] 25 (0, 0)) (.cells #[.string fn, .bool fs, .slice fa fvv.length fcp] 29 (0, 0)) (.cells #[.slice none 0 0, .slice none 0 0] 25 (0, 0)) (.slice q0 acc0.length m0) (.slice b sn d)) := L29.out.low SD.out (low_of_new L29.out.sz hb)
            have R34 := hid (R29.out.keep hb)
            clear hb hz34 L29 R29
            refine hK.out _ _ (KH.out _ _ L34.out) (fun hHeld => ?_)
            clear hK
            refine wpAnyH_ready (rs := [1]) (by kernel_rfl) (by simp) ?_
            refine AllReadyH.cons (o := { dst := some 47, op := Op.load 22 (Operand.tmp 46), type := 22, pos := "ref.go:39", after := #[{ on := 0, ground := Ground.data }], guard := none }) rfl (fun K hK => ?_) AllReadyH.nil
            obtain ⟨o0, o1, _⟩ := cells2 L34.out.out
            go_simp
            clear o0 o1
            refine hK.out _ _ (KH.out _ _ L34.out) (fun hHeld => ?_)
            clear hK
            refine wpAnyH_ready (rs := [8]) (by kernel_rfl) (by simp) ?_
            refine AllReadyH.cons (o := { dst := some 54, op := Op.call { callee := Callee.builtin Builtin.append, args := #[Operand.tmp 47, Operand.tmp 53], argTypes := #[22, 22] }, type := 22, pos := "ref.go:39", after := #[{ on := 1, ground := Ground.data }, { on := 7, ground := Ground.data }], guard := none }) rfl (fun K hK => ?_) AllReadyH.nil
            refine step_append_own (by rfl) _ _ (by rfl) base (.slice q0 acc0.length m0) acc0 (by rfl) R34.out ⟨W28.heap.size, 0, none⟩ 1 ⟨⟨xn, xs, xv⟩, xa, xc⟩ (by rfl) NF.out (by have := HLN.out; omega) L34.out.sz ?_
            intro q36 m36 z36 hrow hg
            have L36 : Hid (LaidW w z36 w.heap.size g1 g2 g3 base (.cells #[.slice (some ⟨bb, o, none⟩) R.length c, .slice b sn d] 25 (0, 0)) (.cells #[.string fn, .bool fs, .slice fa fvv.length fcp] 29 (0, 0)) (.cells #[.slice none 0 0, .slice none 0 0] 25 (0, 0)) (.slice q0 acc0.length m0) (.slice b sn d)) := L34.out.low SD.out (low_of_grown L34.out.sz R34.out hg)
            obtain ⟨acc36, hacc36⟩ : ∃ l, acc0 ++ [(⟨⟨xn, xs, xv⟩, xa, xc⟩ : Cel)] = l := ⟨_, rfl⟩
            rw [hacc36] at hrow ⊢
            have R36 := hid hrow
            have HL36 : Hid (acc36.length = acc0.length + 1) := by unfold Hid; rw [← hacc36, List.length_append]; rfl
            have HA36 : Hid (∀ x ∈ acc36, OneAt w x) := by unfold Hid; rw [← hacc36]; exact all_snoc hall.out HX.out
            have HW36 : Hid (M.wloop ⟨fn, fs, fvv⟩ true (fldOf acc36) ((fldOf R).drop (j + 1)) = M.wloop ⟨fn, fs, fvv⟩ false [] (fldOf R)) := by unfold Hid; rw [← hacc36, fldOf_snoc]; exact wl_take HW.out HE.out
            clear hrow hg hacc36 NF L34 R34
            refine hK.out _ _ (KH.out _ _ L36.out) (fun hHeld => ?_)
            clear hK
            refine wpAnyH_take (i := 9) (oi := { dst := some 55, op := Op.fieldAddr 25 (Operand.tmp 5) 0, type := 0, pos := "ref.go:39", after := #[{ on := 0, ground := Ground.phase }, { on := 1, ground := Ground.phase }, { on := 2, ground := Ground.phase }, { on := 3, ground := Ground.phase }, { on := 4, ground := Ground.phase }, { on := 5, ground := Ground.phase }, { on := 6, ground := Ground.phase }, { on := 7, ground := Ground.phase }, { on := 8, ground := Ground.phase }], guard := none }) (v := ?_) rfl (by kernel_rfl) (by kernel_rfl) (by kernel_rfl) (fun _ _ _ h => h) (Or.inl ⟨by rfl, ?_⟩) hHeld ?_
            rotate_left
            · intro w hSw; (try dsimp only at hSw); go_simp; (try with_reducible rfl)
            simp only [Act.put, List.setIfInBounds_toArray, List.set_cons_zero, List.set_cons_succ]
            refine wpAnyH_ready (rs := [10]) (by kernel_rfl) (by simp) ?_
            refine AllReadyH.cons (o := { dst := none, op := Op.store 22 (Operand.tmp 55) (Operand.tmp 54), type := 0, pos := "ref.go:39", after := #[{ on := 9, ground := Ground.data }, { on := 8, ground := Ground.data }, { on := 8, ground := Ground.chain }, { on := 0, ground := Ground.phase }, { on := 1, ground := Ground.phase }, { on := 2, ground := Ground.phase }, { on := 3, ground := Ground.phase }, { on := 4, ground := Ground.phase }, { on := 5, ground := Ground.phase }, { on := 6, ground := Ground.phase }, { on := 7, ground := Ground.phase }, { on := 8, ground := Ground.phase }], guard := none }) rfl (fun K hK => ?_) AllReadyH.nil
            obtain ⟨o0, o1, _⟩ := cells2 L36.out.out
            go_simp
            clear o0 o1
            have L37 : Hid (LaidW w (z36.setCell ⟨g3, 0, none⟩ (.slice q36 acc36.length m36)) w.heap.size g1 g2 g3 base (.cells #[.slice (some ⟨bb, o, none⟩) R.length c, .slice b sn d] 25 (0, 0)) (.cells #[.string fn, .bool fs, .slice fa fvv.length fcp] 29 (0, 0)) (.cells #[.slice none 0 0, .slice none 0 0] 25 (0, 0)) (.slice q36 acc36.length m36) (.slice b sn d)) := L36.out.put SD.out _
            have R37 := hid (RowF.other (p := 0) (u := .slice q36 acc36.length m36) R36.out SD.out.n3)
            clear L36 R36
            refine hK.out _ _ (KH.out _ _ L37.out) (fun hHeld => ?_)
            clear hK
            refine wpAnyH_done (by kernel_rfl) ?_ _
            clear hHeld
            go_wp2
            exact ⟨⟨j + 1, true, acc36, q36, m36, by omega, rfl, by go_num, L37, R37, (by show _ ≤ j + 1 + 1; rw [HL36.out]; have := HLEN.out; omega), HA36, HW36⟩, by simp [intOf]; omega⟩
    · rcases laid with _ | _
      · have HLEN : Hid (acc0.length ≤ j + 0) := HLEN
        obtain ⟨s0, s1, _⟩ := cells2 hl.out.a1
        obtain ⟨f0, f1, f2, _⟩ := cells3 hl.out.a2
        obtain ⟨o0, o1, _⟩ := cells2 hl.out.out
        have hrw := hrow.out.keep (gr_new wr (.cells #[.string fn, .bool fs, .slice fa fvv.length fcp] 29)).below
        have hsz : base ≤ (wr.alloc (.cells #[.string fn, .bool fs, .slice fa fvv.length fcp] 29)).heap.size := Nat.le_trans hl.out.sz (gr_new wr (.cells #[.string fn, .bool fs, .slice fa fvv.length fcp] 29)).below.size
        have hlen : acc0.length ≤ 100001 := by have := HLEN.out; omega
        go_wp2_with (at_builtin; refine wpList_append_own _ rfl _ _ 22 rfl base 29 i0 (.agg #[.string ⟨#[]⟩, .bool false, .slice none 0 0]) 3 48 Try.underlying22 hi hz0 hz1 hz2 rfl (by decide) (.slice q0 acc0.length m0) acc0.length (acc0.flatMap fc) rfl hrw ⟨wr.heap.size, 0, none⟩ 1 1 (fc ⟨⟨fn, fs, fvv⟩, fa, fcp⟩) rfl rfl (new_fc wr ⟨⟨fn, fs, fvv⟩, fa, fcp⟩ _) (by intro u hu; simp [fc] at hu; rcases hu with rfl | rfl | rfl <;> rfl) (by unfold maxLen; omega) (by omega) hsz ?_; intro v38 w38 hown hgrow _; refine stopHere ?_)
        refine stopAt ?_
        have L38 : Hid (LaidW w w38 w.heap.size g1 g2 g3 base (.cells #[.slice a R.length c, .slice b sn d] 25 (0, 0)) (.cells #[.string fn, .bool fs, .slice fa fvv.length fcp] 29 (0, 0)) (.cells #[.slice none 0 0, .slice none 0 0] 25 (0, 0)) (.slice q0 acc0.length m0) (.slice b sn d)) := (hl.out.low SD.out (low_of_new hl.out.sz (gr_new wr (.cells #[.string fn, .bool fs, .slice fa fvv.length fcp] 29)).below)).low SD.out (low_of_grown hsz hrw hgrow)
        have hown2 := RowF.snoc (x := ⟨⟨fn, fs, fvv⟩, fa, fcp⟩) hown
        obtain ⟨acc38, hacc38⟩ : ∃ l, acc0 ++ [(⟨⟨fn, fs, fvv⟩, fa, fcp⟩ : Cel)] = l := ⟨_, rfl⟩
        rw [hacc38] at hown2
        obtain ⟨q38, m38, rfl⟩ := hown2.form
        have R38 := hid hown2
        have HL38 : Hid (acc38.length = acc0.length + 1) := by unfold Hid; rw [← hacc38, List.length_append]; rfl
        have HA38 : Hid (∀ x ∈ acc38, OneAt w x) := by unfold Hid; rw [← hacc38]; exact all_snoc hall.out HFO.out
        have HW38 : Hid (M.wloop ⟨fn, fs, fvv⟩ true (fldOf acc38) ((fldOf R).drop j) = M.wloop ⟨fn, fs, fvv⟩ false [] (fldOf R)) := by unfold Hid; rw [← hacc38, fldOf_snoc]; exact (by have h := HW.out; rw [List.drop_eq_nil_of_le (by rw [fldOf_len]; omega)] at h ⊢; exact h)
        clear hown hown2 hgrow hrw hsz hlen hacc38 s0 s1 f0 f1 f2 o0 o1 hl hrow
        obtain ⟨o0, o1, _⟩ := cells2 L38.out.out
        obtain ⟨r0, r1, rf⟩ := cells2 L38.out.a3
        have LP := hid (L38.out.put SD.out (.slice q38 acc38.length m38))
        have RP := hid (RowF.other (p := 0) (u := .slice q38 acc38.length m38) R38.out SD.out.n3)
        obtain ⟨WP, hWP⟩ : ∃ W, w38.setCell ⟨g3, 0, none⟩ (.slice q38 acc38.length m38) = W := ⟨_, rfl⟩
        rw [hWP] at LP RP
        clear r0 r1 rf
        obtain ⟨r0, r1, rf⟩ := cells2 LP.out.a3
        obtain ⟨p0, p1, _⟩ := cells2 LP.out.out
        go_wp2
        refine bodyPost_ret (v := .agg #[.slice q38 acc38.length m38, .slice b sn d]) (by simp [results, Try.results37, go_sem, r0, r1]) rfl ?_
        have hrowz := RowF.other (p := 1) (u := .slice b sn d) (RowF.other (p := 0) (u := .slice q38 acc38.length m38) RP.out (Nat.lt_trans SD.out.n2 SD.out.n3)) (Nat.lt_trans SD.out.n2 SD.out.n3)
        have hbz := set2b LP.out.bel SD.out.l2 (.slice q38 acc38.length m38) (.slice b sn d)
        have hE : fldOf acc38 = M.withF ⟨fn, fs, fvv⟩ (fldOf R) := by
          have h := HW38.out
          rw [List.drop_eq_nil_of_le (by rw [fldOf_len]; omega)] at h
          rw [M.wloop_false _ _ _ (by rw [← HF.out]; exact HRIS.out), List.nil_append] at h
          exact h
        exact ⟨_, rfl, ⟨_, _, rfl, ⟨acc38, by show _ = M.withF _ s.fs; rw [HF.out]; exact hE, hrowz.at fun x hx => (HA38.out x hx).bel hbz⟩, HP.out.bel hbz⟩, hbz⟩
      · obtain ⟨s0, s1, _⟩ := cells2 hl.out.a1
        obtain ⟨o0, o1, _⟩ := cells2 hl.out.out
        obtain ⟨r0, r1, rf⟩ := cells2 hl.out.a3
        go_wp2
        refine bodyPost_ret (v := .agg #[.slice q0 acc0.length m0, .slice b sn d]) (by simp [results, Try.results37, go_sem, r0, r1]) rfl ?_
        have hrowz := RowF.other (p := 1) (u := .slice b sn d) (RowF.other (p := 0) (u := .slice q0 acc0.length m0) hrow.out (Nat.lt_trans SD.out.n2 SD.out.n3)) (Nat.lt_trans SD.out.n2 SD.out.n3)
        have hbz := set2b hl.out.bel SD.out.l2 (.slice q0 acc0.length m0) (.slice b sn d)
        have hE : fldOf acc0 = M.withF ⟨fn, fs, fvv⟩ (fldOf R) := by
          have h := HW.out
          rw [List.drop_eq_nil_of_le (by rw [fldOf_len]; omega)] at h
          rw [M.wloop_false _ _ _ (by rw [← HF.out]; exact HRIS.out), List.nil_append] at h
          exact h
        exact ⟨_, rfl, ⟨_, _, rfl, ⟨acc0, by show _ = M.withF _ s.fs; rw [HF.out]; exact hE, hrowz.at fun x hx => (hall.out x hx).bel hbz⟩, HP.out.bel hbz⟩, hbz⟩
end Go.Proofs.Ytcnikcfnfohoeaa
