/-
  The walk of the law AtomsIn: over atoms that lie in memory the call returns true and leaves all that was there as it was. Conditions: that the table of powers lies as it should.
-/
import Derived.Test.YtabffpecpfopkaaDoorB6
set_option linter.unusedVariables false
set_option linter.unusedSimpArgs false
namespace Go.Proofs.YtabffpecpfopkaaDoor
open Go.RowKit Go.Sort
namespace AtomsIn
/-- the box of an atom -/
def Bx (w : World) (x : M.Atm) (W : World) : Prop := (W.cell? ⟨w.heap.size, 0, none⟩ = some (.int .i64 x.k) ∧ W.cell? ⟨w.heap.size, 1, none⟩ = some (.int .i64 x.n)) ∧ w.heap.size < W.heap.size
theorem Bx.bel {w : World} {x : M.Atm} {W W' : World} (h : Bx w x W) (hb : Below W.heap.size W W') : Bx w x W' :=
  ⟨⟨by rw [hb.cell (p := ⟨w.heap.size, 0, none⟩) h.2]; exact h.1.1, by rw [hb.cell (p := ⟨w.heap.size, 1, none⟩) h.2]; exact h.1.2⟩, Nat.lt_of_lt_of_le h.2 hb.size⟩
theorem cells_bel {w : World} {x : M.Atm} {W W' : World} (h : Bx w x W) (hb : Below W.heap.size W W') : Bx w x W' := h.bel hb
theorem cells_new (w : World) (x : M.Atm) : Bx w x (w.alloc (.cells #[.int .i64 x.k, .int .i64 x.n] 24)) := by
  obtain ⟨n1, n2⟩ := new_two w (.int .i64 x.k) (.int .i64 x.n) 24
  exact ⟨⟨n1, n2⟩, by simp⟩
set_option maxHeartbeats 4000000 in
set_option maxRecDepth 100000 in
theorem walk (w : World) (va vb : Value) (la lb : List M.Atm) (x : M.Atm) (ha : AtAt w va la) (hb : AtAt w vb lb) (hr : InR x.n) (ht : TabW w) :
    Calls Tryd.prog 7 #[va, vb, av x] w fun e w' => e = .returned (.bool true) ∧ Below w.heap.size w w' := by
  have hbx := ((Gr.refl w).alloc (.cells #[.int .i64 x.k, .int .i64 x.n] 24)).below
  have Ta0 := hid (ha.bel hbx)
  have Tb0 := hid (hb.bel hbx)
  obtain ⟨qa, ma, rfl⟩ := ha.form
  obtain ⟨qb, mb, rfl⟩ := hb.form
  have HT := hid ht
  have HXR := hid hr
  have B0 := hid hbx
  have X0 := hid (cells_new w x)
  unfold av
  clear ht ha hb hr hbx
  by_cases na : la.length ≤ 100
  · by_cases nb : lb.length ≤ 100
    · skip
      cases ya : M.mayL la with
      | false =>
        have Hya := hid ya
        clear ya
        have ca : ¬ ((la.length : Int) > 100) := by omega
        have cb : ¬ ((lb.length : Int) > 100) := by omega
        go_enter Tryd.func7, Tryd.ntmps7
        obtain ⟨x1, x2⟩ := X0.out.1
        go_wp2_with (go_at_call 8; refine stopHere ?_)
        refine stopAt ?_
        refine (fixed_any _ (HT.out.below B0.out)).mono ?_
        rintro e w1 ⟨rfl, hb⟩
        have B1 := hid (B0.out.trans (hb.mono B0.out.size))
        have Ta1 := hid (Ta0.out.bel hb)
        have Tb1 := hid (Tb0.out.bel hb)
        have X1 := hid (cells_bel X0.out hb)
        clear B0 Ta0 Tb0 X0 hb x1 x2
        obtain ⟨x1, x2⟩ := X1.out.1
        go_wp2_with (go_at_call 12; refine stopHere ?_)
        refine stopAt ?_
        refine (may_any _ _ la Ta1.out (by omega)).mono ?_
        rw [Hya.out]
        rintro e w2 ⟨rfl, hg⟩
        have hb := hg.below
        have B2 := hid (B1.out.trans (hb.mono B1.out.size))
        have Ta2 := hid (Ta1.out.bel hb)
        have Tb2 := hid (Tb1.out.bel hb)
        have X2 := hid (cells_bel X1.out hb)
        clear B1 Ta1 Tb1 X1 hb hg x1 x2
        obtain ⟨x1, x2⟩ := X2.out.1
        go_wp2_with (go_at_call 8; refine stopHere ?_)
        refine stopAt ?_
        refine (fixed_any _ (HT.out.below B2.out)).mono ?_
        rintro e w3 ⟨rfl, hb⟩
        have B3 := hid (B2.out.trans (hb.mono B2.out.size))
        have Ta3 := hid (Ta2.out.bel hb)
        have Tb3 := hid (Tb2.out.bel hb)
        have X3 := hid (cells_bel X2.out hb)
        clear B2 Ta2 Tb2 X2 hb x1 x2
        go_wp2
        go_ret
        exact ⟨rfl, B3.out⟩
      | true =>
        have Hya := hid ya
        clear ya
        cases yb : M.mayL lb with
        | false =>
          have Hyb := hid yb
          clear yb
          have ca : ¬ ((la.length : Int) > 100) := by omega
          have cb : ¬ ((lb.length : Int) > 100) := by omega
          go_enter Tryd.func7, Tryd.ntmps7
          obtain ⟨x1, x2⟩ := X0.out.1
          go_wp2_with (go_at_call 8; refine stopHere ?_)
          refine stopAt ?_
          refine (fixed_any _ (HT.out.below B0.out)).mono ?_
          rintro e w1 ⟨rfl, hb⟩
          have B1 := hid (B0.out.trans (hb.mono B0.out.size))
          have Ta1 := hid (Ta0.out.bel hb)
          have Tb1 := hid (Tb0.out.bel hb)
          have X1 := hid (cells_bel X0.out hb)
          clear B0 Ta0 Tb0 X0 hb x1 x2
          obtain ⟨x1, x2⟩ := X1.out.1
          go_wp2_with (go_at_call 12; refine stopHere ?_)
          refine stopAt ?_
          refine (may_any _ _ la Ta1.out (by omega)).mono ?_
          rw [Hya.out]
          rintro e w2 ⟨rfl, hg⟩
          have hb := hg.below
          have B2 := hid (B1.out.trans (hb.mono B1.out.size))
          have Ta2 := hid (Ta1.out.bel hb)
          have Tb2 := hid (Tb1.out.bel hb)
          have X2 := hid (cells_bel X1.out hb)
          clear B1 Ta1 Tb1 X1 hb hg x1 x2
          obtain ⟨x1, x2⟩ := X2.out.1
          go_wp2_with (go_at_call 12; refine stopHere ?_)
          refine stopAt ?_
          refine (may_any _ _ lb Tb2.out (by omega)).mono ?_
          rw [Hyb.out]
          rintro e w3 ⟨rfl, hg⟩
          have hb := hg.below
          have B3 := hid (B2.out.trans (hb.mono B2.out.size))
          have Ta3 := hid (Ta2.out.bel hb)
          have Tb3 := hid (Tb2.out.bel hb)
          have X3 := hid (cells_bel X2.out hb)
          clear B2 Ta2 Tb2 X2 hb hg x1 x2
          obtain ⟨x1, x2⟩ := X3.out.1
          go_wp2_with (go_at_call 8; refine stopHere ?_)
          refine stopAt ?_
          refine (fixed_any _ (HT.out.below B3.out)).mono ?_
          rintro e w4 ⟨rfl, hb⟩
          have B4 := hid (B3.out.trans (hb.mono B3.out.size))
          have Ta4 := hid (Ta3.out.bel hb)
          have Tb4 := hid (Tb3.out.bel hb)
          have X4 := hid (cells_bel X3.out hb)
          clear B3 Ta3 Tb3 X3 hb x1 x2
          go_wp2
          go_ret
          exact ⟨rfl, B4.out⟩
        | true =>
          have Hyb := hid yb
          clear yb
          cases yx : M.mayL [x] with
          | false =>
            have Hyx := hid yx
            clear yx
            have nx : ([x] : List M.Atm).length ≤ 100 := by simp
            have ca : ¬ ((la.length : Int) > 100) := by omega
            have cb : ¬ ((lb.length : Int) > 100) := by omega
            go_enter Tryd.func7, Tryd.ntmps7
            obtain ⟨x1, x2⟩ := X0.out.1
            go_wp2_with (go_at_call 8; refine stopHere ?_)
            refine stopAt ?_
            refine (fixed_any _ (HT.out.below B0.out)).mono ?_
            rintro e w1 ⟨rfl, hb⟩
            have B1 := hid (B0.out.trans (hb.mono B0.out.size))
            have Ta1 := hid (Ta0.out.bel hb)
            have Tb1 := hid (Tb0.out.bel hb)
            have X1 := hid (cells_bel X0.out hb)
            clear B0 Ta0 Tb0 X0 hb x1 x2
            obtain ⟨x1, x2⟩ := X1.out.1
            go_wp2_with (go_at_call 12; refine stopHere ?_)
            refine stopAt ?_
            refine (may_any _ _ la Ta1.out (by omega)).mono ?_
            rw [Hya.out]
            rintro e w2 ⟨rfl, hg⟩
            have hb := hg.below
            have B2 := hid (B1.out.trans (hb.mono B1.out.size))
            have Ta2 := hid (Ta1.out.bel hb)
            have Tb2 := hid (Tb1.out.bel hb)
            have X2 := hid (cells_bel X1.out hb)
            clear B1 Ta1 Tb1 X1 hb hg x1 x2
            obtain ⟨x1, x2⟩ := X2.out.1
            go_wp2_with (go_at_call 12; refine stopHere ?_)
            refine stopAt ?_
            refine (may_any _ _ lb Tb2.out (by omega)).mono ?_
            rw [Hyb.out]
            rintro e w3 ⟨rfl, hg⟩
            have hb := hg.below
            have B3 := hid (B2.out.trans (hb.mono B2.out.size))
            have Ta3 := hid (Ta2.out.bel hb)
            have Tb3 := hid (Tb2.out.bel hb)
            have X3 := hid (cells_bel X2.out hb)
            clear B2 Ta2 Tb2 X2 hb hg x1 x2
            have Tx4 := hid (atAt_new w3 [x] (by simp) (by intro y hy; simp at hy; subst hy; exact HXR.out))
            have B4 := hid (B3.out.alloc B3.out.size (.cells (([x] : List M.Atm).flatMap ac).toArray 24))
            have hba := ((Gr.refl w3).alloc (.cells (([x] : List M.Atm).flatMap ac).toArray 24)).below
            have Ta4 := hid (Ta3.out.bel hba)
            have Tb4 := hid (Tb3.out.bel hba)
            have X4 := hid (cells_bel X3.out hba)
            clear hba B3 Ta3 Tb3
            obtain ⟨x1, x2⟩ := X3.out.1
            go_wp2_with (go_at_call 12; refine stopHere ?_)
            refine stopAt ?_
            refine (may_any _ _ [x] Tx4.out (by omega)).mono ?_
            clear X3
            rw [Hyx.out]
            rintro e w5 ⟨rfl, hg⟩
            have hb := hg.below
            have B5 := hid (B4.out.trans (hb.mono B4.out.size))
            have Ta5 := hid (Ta4.out.bel hb)
            have Tb5 := hid (Tb4.out.bel hb)
            have Tx5 := hid (Tx4.out.bel hb)
            have X5 := hid (cells_bel X4.out hb)
            clear B4 Ta4 Tb4 Tx4 X4 hb hg x1 x2
            obtain ⟨x1, x2⟩ := X5.out.1
            go_wp2_with (go_at_call 8; refine stopHere ?_)
            refine stopAt ?_
            refine (fixed_any _ (HT.out.below B5.out)).mono ?_
            rintro e w6 ⟨rfl, hb⟩
            have B6 := hid (B5.out.trans (hb.mono B5.out.size))
            have Ta6 := hid (Ta5.out.bel hb)
            have Tb6 := hid (Tb5.out.bel hb)
            have X6 := hid (cells_bel X5.out hb)
            clear B5 Ta5 Tb5 X5 hb x1 x2
            go_wp2
            go_ret
            exact ⟨rfl, B6.out⟩
          | true =>
            have Hyx := hid yx
            clear yx
            obtain ⟨lu, hlu⟩ : ∃ l, M.norm (la ++ lb) = l := ⟨_, rfl⟩
            have nu : lu.length ≤ 200 := by rw [← hlu]; have := M.norm_length (la ++ lb); simp at this; omega
            have nx : ([x] : List M.Atm).length ≤ 100 := by simp
            have E1 : Hid (M.has lu x = (M.has la x || M.has lb x)) := by rw [← hlu]; exact M.in_union _ _ (M.may_one Hyx.out)
            have E2 : Hid (M.within lu lb = M.within la lb) := by rw [← hlu]; exact M.within_union Hya.out
            have HU := hid hlu
            clear hlu
            cases ha : M.has la x with
            | false =>
              have Hha := hid ha
              clear ha
              cases hb : M.has lb x with
              | false =>
                have Hhb := hid hb
                clear hb
                cases wa : M.within la lb with
                | false =>
                  have Hwa := hid wa
                  clear wa
                  have ca : ¬ ((la.length : Int) > 100) := by omega
                  have cb : ¬ ((lb.length : Int) > 100) := by omega
                  go_enter Tryd.func7, Tryd.ntmps7
                  obtain ⟨x1, x2⟩ := X0.out.1
                  go_wp2_with (go_at_call 8; refine stopHere ?_)
                  refine stopAt ?_
                  refine (fixed_any _ (HT.out.below B0.out)).mono ?_
                  rintro e w1 ⟨rfl, hb⟩
                  have B1 := hid (B0.out.trans (hb.mono B0.out.size))
                  have Ta1 := hid (Ta0.out.bel hb)
                  have Tb1 := hid (Tb0.out.bel hb)
                  have X1 := hid (cells_bel X0.out hb)
                  clear B0 Ta0 Tb0 X0 hb x1 x2
                  obtain ⟨x1, x2⟩ := X1.out.1
                  go_wp2_with (go_at_call 12; refine stopHere ?_)
                  refine stopAt ?_
                  refine (may_any _ _ la Ta1.out (by omega)).mono ?_
                  rw [Hya.out]
                  rintro e w2 ⟨rfl, hg⟩
                  have hb := hg.below
                  have B2 := hid (B1.out.trans (hb.mono B1.out.size))
                  have Ta2 := hid (Ta1.out.bel hb)
                  have Tb2 := hid (Tb1.out.bel hb)
                  have X2 := hid (cells_bel X1.out hb)
                  clear B1 Ta1 Tb1 X1 hb hg x1 x2
                  obtain ⟨x1, x2⟩ := X2.out.1
                  go_wp2_with (go_at_call 12; refine stopHere ?_)
                  refine stopAt ?_
                  refine (may_any _ _ lb Tb2.out (by omega)).mono ?_
                  rw [Hyb.out]
                  rintro e w3 ⟨rfl, hg⟩
                  have hb := hg.below
                  have B3 := hid (B2.out.trans (hb.mono B2.out.size))
                  have Ta3 := hid (Ta2.out.bel hb)
                  have Tb3 := hid (Tb2.out.bel hb)
                  have X3 := hid (cells_bel X2.out hb)
                  clear B2 Ta2 Tb2 X2 hb hg x1 x2
                  have Tx4 := hid (atAt_new w3 [x] (by simp) (by intro y hy; simp at hy; subst hy; exact HXR.out))
                  have B4 := hid (B3.out.alloc B3.out.size (.cells (([x] : List M.Atm).flatMap ac).toArray 24))
                  have hba := ((Gr.refl w3).alloc (.cells (([x] : List M.Atm).flatMap ac).toArray 24)).below
                  have Ta4 := hid (Ta3.out.bel hba)
                  have Tb4 := hid (Tb3.out.bel hba)
                  have X4 := hid (cells_bel X3.out hba)
                  clear hba B3 Ta3 Tb3
                  obtain ⟨x1, x2⟩ := X3.out.1
                  go_wp2_with (go_at_call 12; refine stopHere ?_)
                  refine stopAt ?_
                  refine (may_any _ _ [x] Tx4.out (by omega)).mono ?_
                  clear X3
                  rw [Hyx.out]
                  rintro e w5 ⟨rfl, hg⟩
                  have hb := hg.below
                  have B5 := hid (B4.out.trans (hb.mono B4.out.size))
                  have Ta5 := hid (Ta4.out.bel hb)
                  have Tb5 := hid (Tb4.out.bel hb)
                  have Tx5 := hid (Tx4.out.bel hb)
                  have X5 := hid (cells_bel X4.out hb)
                  clear B4 Ta4 Tb4 Tx4 X4 hb hg x1 x2
                  obtain ⟨x1, x2⟩ := X5.out.1
                  go_wp2_with (go_at_call 14; refine stopHere ?_)
                  refine stopAt ?_
                  refine (union_any _ _ _ la lb Ta5.out Tb5.out (by omega) (by omega)).mono ?_
                  rintro e w6 ⟨v6, rfl, hA, hb⟩
                  rw [HU.out] at hA
                  have B6 := hid (B5.out.trans (hb.mono B5.out.size))
                  have Ta6 := hid (Ta5.out.bel hb)
                  have Tb6 := hid (Tb5.out.bel hb)
                  have X6 := hid (cells_bel X5.out hb)
                  have Tu6 := hid hA
                  obtain ⟨q6, m6, rfl⟩ := hA.form
                  clear B5 Ta5 Tb5 X5 hA hb x1 x2
                  have KH : Hid (∀ W, Below w6.heap.size w6 W → W.cell? ⟨w.heap.size, 0, none⟩ = some (.int .i64 x.k) ∧ W.cell? ⟨w.heap.size, 1, none⟩ = some (.int .i64 x.n)) := fun W hW => (cells_bel X6.out hW).1
                  have P1 : Hid (∀ W, Below w6.heap.size w6 W → Calls Tryd.prog 18 #[.slice q6 lu.length m6, .agg #[.int .i64 x.k, .int .i64 x.n]] W fun e w' => e = .returned (.bool false) ∧ Below w6.heap.size w6 w') := fun W hW => by
                    refine (has_any W _ lu x (Tu6.out.bel hW) (by omega)).mono fun e w' ⟨h1, h2⟩ => ⟨by rw [h1, show M.has lu x = false by rw [E1.out, Hha.out, Hhb.out]; rfl], ?_⟩
                    exact hW.trans (h2.mono hW.size)
                  have P2 : Hid (∀ W, Below w6.heap.size w6 W → Calls Tryd.prog 18 #[.slice qa la.length ma, .agg #[.int .i64 x.k, .int .i64 x.n]] W fun e w' => e = .returned (.bool false) ∧ Below w6.heap.size w6 w') := fun W hW => by
                    refine (has_any W _ la x (Ta6.out.bel hW) (by omega)).mono fun e w' ⟨h1, h2⟩ => ⟨by rw [h1, Hha.out], ?_⟩
                    exact hW.trans (h2.mono hW.size)
                  have P3 : Hid (∀ W, Below w6.heap.size w6 W → Calls Tryd.prog 18 #[.slice qb lb.length mb, .agg #[.int .i64 x.k, .int .i64 x.n]] W fun e w' => e = .returned (.bool false) ∧ Below w6.heap.size w6 w') := fun W hW => by
                    refine (has_any W _ lb x (Tb6.out.bel hW) (by omega)).mono fun e w' ⟨h1, h2⟩ => ⟨by rw [h1, Hhb.out], ?_⟩
                    exact hW.trans (h2.mono hW.size)
                  have P4 : Hid (∀ W, Below w6.heap.size w6 W → Calls Tryd.prog 16 #[.slice (some ⟨W.heap.size, 0, none⟩) 1 1, .slice qa la.length ma] (W.alloc (.cells #[.int .i64 x.k, .int .i64 x.n] 24)) fun e w' => e = .returned (.bool false) ∧ Below w6.heap.size w6 w') := fun W hW => by
                    refine (within_any _ _ _ [x] la (atAt_new W [x] (by simp) (by intro y hy; simp at hy; subst hy; exact HXR.out)) (Ta6.out.bel (hW.alloc hW.size _)) (by simp) (by omega)).mono fun e w' ⟨h1, h2⟩ => ⟨by rw [h1, M.within_one, Hha.out], ?_⟩
                    exact (hW.alloc hW.size _).trans (h2.mono (hW.alloc hW.size _).size)
                  have P5 : Hid (∀ W, Below w6.heap.size w6 W → Calls Tryd.prog 16 #[.slice q6 lu.length m6, .slice qb lb.length mb] W fun e w' => e = .returned (.bool false) ∧ Below w6.heap.size w6 w') := fun W hW => by
                    refine (within_any W _ _ lu lb (Tu6.out.bel hW) (Tb6.out.bel hW) (by omega) (by omega)).mono fun e w' ⟨h1, h2⟩ => ⟨by rw [h1, E2.out, Hwa.out], ?_⟩
                    exact hW.trans (h2.mono hW.size)
                  have P6 : Hid (∀ W, Below w6.heap.size w6 W → Calls Tryd.prog 16 #[.slice qa la.length ma, .slice qb lb.length mb] W fun e w' => e = .returned (.bool false) ∧ Below w6.heap.size w6 w') := fun W hW => by
                    refine (within_any W _ _ la lb (Ta6.out.bel hW) (Tb6.out.bel hW) (by omega) (by omega)).mono fun e w' ⟨h1, h2⟩ => ⟨by rw [h1, Hwa.out], ?_⟩
                    exact hW.trans (h2.mono hW.size)
                  clear Ta6 Tb6 Tu6
                  go_wp2_with fail
                  first | (go_region_held3 (fun w' => w'.cell? ⟨w.heap.size, 0, none⟩ = some (.int .i64 x.k) ∧ w'.cell? ⟨w.heap.size, 1, none⟩ = some (.int .i64 x.n)) (first | exact KH.out _ (Below.refl _ _) | exact KH.out _ (Below.refl _ _).drew | exact KH.out _ C1 | exact KH.out _ (C1.alloc C1.size _) | exact KH.out _ C2 | exact KH.out _ (C2.alloc C2.size _) | exact KH.out _ C3 | exact KH.out _ (C3.alloc C3.size _) | exact KH.out _ C4 | exact KH.out _ (C4.alloc C4.size _) | exact KH.out _ C5 | exact KH.out _ (C5.alloc C5.size _) | exact KH.out _ C6 | exact KH.out _ (C6.alloc C6.size _) | exact KH.out _ C7 | exact KH.out _ (C7.alloc C7.size _) | go_keep)
                    (first
                      | (go_at_call 18; with_reducible refine (P1.out _ (Below.refl _ _).drew).mono ?_; rintro e z1 ⟨rfl, C1⟩)
                      | (go_at_call 18; with_reducible refine (P2.out _ C1).mono ?_; rintro e z2 ⟨rfl, C2⟩)
                      | (go_at_call 18; with_reducible refine (P3.out _ C2).mono ?_; rintro e z3 ⟨rfl, C3⟩)
                      | (go_at_call 16; with_reducible refine (P4.out _ C3).mono ?_; rintro e z4 ⟨rfl, C4⟩)
                      | (go_at_call 18; with_reducible refine (P2.out _ C4).mono ?_; rintro e z5 ⟨rfl, C5⟩)
                      | (go_at_call 16; with_reducible refine (P5.out _ C5).mono ?_; rintro e z6 ⟨rfl, C6⟩)
                      | (go_at_call 16; with_reducible refine (P6.out _ C6).mono ?_; rintro e z7 ⟨rfl, C7⟩))) | fail
                  all_goals
                    go_wp2_with fail
                    go_ret
                    exact ⟨ret_bool (by first | rfl | simp), B6.out.trans (C7.mono B6.out.size)⟩
                | true =>
                  have Hwa := hid wa
                  clear wa
                  have ca : ¬ ((la.length : Int) > 100) := by omega
                  have cb : ¬ ((lb.length : Int) > 100) := by omega
                  go_enter Tryd.func7, Tryd.ntmps7
                  obtain ⟨x1, x2⟩ := X0.out.1
                  go_wp2_with (go_at_call 8; refine stopHere ?_)
                  refine stopAt ?_
                  refine (fixed_any _ (HT.out.below B0.out)).mono ?_
                  rintro e w1 ⟨rfl, hb⟩
                  have B1 := hid (B0.out.trans (hb.mono B0.out.size))
                  have Ta1 := hid (Ta0.out.bel hb)
                  have Tb1 := hid (Tb0.out.bel hb)
                  have X1 := hid (cells_bel X0.out hb)
                  clear B0 Ta0 Tb0 X0 hb x1 x2
                  obtain ⟨x1, x2⟩ := X1.out.1
                  go_wp2_with (go_at_call 12; refine stopHere ?_)
                  refine stopAt ?_
                  refine (may_any _ _ la Ta1.out (by omega)).mono ?_
                  rw [Hya.out]
                  rintro e w2 ⟨rfl, hg⟩
                  have hb := hg.below
                  have B2 := hid (B1.out.trans (hb.mono B1.out.size))
                  have Ta2 := hid (Ta1.out.bel hb)
                  have Tb2 := hid (Tb1.out.bel hb)
                  have X2 := hid (cells_bel X1.out hb)
                  clear B1 Ta1 Tb1 X1 hb hg x1 x2
                  obtain ⟨x1, x2⟩ := X2.out.1
                  go_wp2_with (go_at_call 12; refine stopHere ?_)
                  refine stopAt ?_
                  refine (may_any _ _ lb Tb2.out (by omega)).mono ?_
                  rw [Hyb.out]
                  rintro e w3 ⟨rfl, hg⟩
                  have hb := hg.below
                  have B3 := hid (B2.out.trans (hb.mono B2.out.size))
                  have Ta3 := hid (Ta2.out.bel hb)
                  have Tb3 := hid (Tb2.out.bel hb)
                  have X3 := hid (cells_bel X2.out hb)
                  clear B2 Ta2 Tb2 X2 hb hg x1 x2
                  have Tx4 := hid (atAt_new w3 [x] (by simp) (by intro y hy; simp at hy; subst hy; exact HXR.out))
                  have B4 := hid (B3.out.alloc B3.out.size (.cells (([x] : List M.Atm).flatMap ac).toArray 24))
                  have hba := ((Gr.refl w3).alloc (.cells (([x] : List M.Atm).flatMap ac).toArray 24)).below
                  have Ta4 := hid (Ta3.out.bel hba)
                  have Tb4 := hid (Tb3.out.bel hba)
                  have X4 := hid (cells_bel X3.out hba)
                  clear hba B3 Ta3 Tb3
                  obtain ⟨x1, x2⟩ := X3.out.1
                  go_wp2_with (go_at_call 12; refine stopHere ?_)
                  refine stopAt ?_
                  refine (may_any _ _ [x] Tx4.out (by omega)).mono ?_
                  clear X3
                  rw [Hyx.out]
                  rintro e w5 ⟨rfl, hg⟩
                  have hb := hg.below
                  have B5 := hid (B4.out.trans (hb.mono B4.out.size))
                  have Ta5 := hid (Ta4.out.bel hb)
                  have Tb5 := hid (Tb4.out.bel hb)
                  have Tx5 := hid (Tx4.out.bel hb)
                  have X5 := hid (cells_bel X4.out hb)
                  clear B4 Ta4 Tb4 Tx4 X4 hb hg x1 x2
                  obtain ⟨x1, x2⟩ := X5.out.1
                  go_wp2_with (go_at_call 14; refine stopHere ?_)
                  refine stopAt ?_
                  refine (union_any _ _ _ la lb Ta5.out Tb5.out (by omega) (by omega)).mono ?_
                  rintro e w6 ⟨v6, rfl, hA, hb⟩
                  rw [HU.out] at hA
                  have B6 := hid (B5.out.trans (hb.mono B5.out.size))
                  have Ta6 := hid (Ta5.out.bel hb)
                  have Tb6 := hid (Tb5.out.bel hb)
                  have X6 := hid (cells_bel X5.out hb)
                  have Tu6 := hid hA
                  obtain ⟨q6, m6, rfl⟩ := hA.form
                  clear B5 Ta5 Tb5 X5 hA hb x1 x2
                  have KH : Hid (∀ W, Below w6.heap.size w6 W → W.cell? ⟨w.heap.size, 0, none⟩ = some (.int .i64 x.k) ∧ W.cell? ⟨w.heap.size, 1, none⟩ = some (.int .i64 x.n)) := fun W hW => (cells_bel X6.out hW).1
                  have P1 : Hid (∀ W, Below w6.heap.size w6 W → Calls Tryd.prog 18 #[.slice q6 lu.length m6, .agg #[.int .i64 x.k, .int .i64 x.n]] W fun e w' => e = .returned (.bool false) ∧ Below w6.heap.size w6 w') := fun W hW => by
                    refine (has_any W _ lu x (Tu6.out.bel hW) (by omega)).mono fun e w' ⟨h1, h2⟩ => ⟨by rw [h1, show M.has lu x = false by rw [E1.out, Hha.out, Hhb.out]; rfl], ?_⟩
                    exact hW.trans (h2.mono hW.size)
                  have P2 : Hid (∀ W, Below w6.heap.size w6 W → Calls Tryd.prog 18 #[.slice qa la.length ma, .agg #[.int .i64 x.k, .int .i64 x.n]] W fun e w' => e = .returned (.bool false) ∧ Below w6.heap.size w6 w') := fun W hW => by
                    refine (has_any W _ la x (Ta6.out.bel hW) (by omega)).mono fun e w' ⟨h1, h2⟩ => ⟨by rw [h1, Hha.out], ?_⟩
                    exact hW.trans (h2.mono hW.size)
                  have P3 : Hid (∀ W, Below w6.heap.size w6 W → Calls Tryd.prog 18 #[.slice qb lb.length mb, .agg #[.int .i64 x.k, .int .i64 x.n]] W fun e w' => e = .returned (.bool false) ∧ Below w6.heap.size w6 w') := fun W hW => by
                    refine (has_any W _ lb x (Tb6.out.bel hW) (by omega)).mono fun e w' ⟨h1, h2⟩ => ⟨by rw [h1, Hhb.out], ?_⟩
                    exact hW.trans (h2.mono hW.size)
                  have P4 : Hid (∀ W, Below w6.heap.size w6 W → Calls Tryd.prog 16 #[.slice (some ⟨W.heap.size, 0, none⟩) 1 1, .slice qa la.length ma] (W.alloc (.cells #[.int .i64 x.k, .int .i64 x.n] 24)) fun e w' => e = .returned (.bool false) ∧ Below w6.heap.size w6 w') := fun W hW => by
                    refine (within_any _ _ _ [x] la (atAt_new W [x] (by simp) (by intro y hy; simp at hy; subst hy; exact HXR.out)) (Ta6.out.bel (hW.alloc hW.size _)) (by simp) (by omega)).mono fun e w' ⟨h1, h2⟩ => ⟨by rw [h1, M.within_one, Hha.out], ?_⟩
                    exact (hW.alloc hW.size _).trans (h2.mono (hW.alloc hW.size _).size)
                  have P5 : Hid (∀ W, Below w6.heap.size w6 W → Calls Tryd.prog 16 #[.slice q6 lu.length m6, .slice qb lb.length mb] W fun e w' => e = .returned (.bool true) ∧ Below w6.heap.size w6 w') := fun W hW => by
                    refine (within_any W _ _ lu lb (Tu6.out.bel hW) (Tb6.out.bel hW) (by omega) (by omega)).mono fun e w' ⟨h1, h2⟩ => ⟨by rw [h1, E2.out, Hwa.out], ?_⟩
                    exact hW.trans (h2.mono hW.size)
                  have P6 : Hid (∀ W, Below w6.heap.size w6 W → Calls Tryd.prog 16 #[.slice qa la.length ma, .slice qb lb.length mb] W fun e w' => e = .returned (.bool true) ∧ Below w6.heap.size w6 w') := fun W hW => by
                    refine (within_any W _ _ la lb (Ta6.out.bel hW) (Tb6.out.bel hW) (by omega) (by omega)).mono fun e w' ⟨h1, h2⟩ => ⟨by rw [h1, Hwa.out], ?_⟩
                    exact hW.trans (h2.mono hW.size)
                  clear Ta6 Tb6 Tu6
                  go_wp2_with fail
                  first | (go_region_held3 (fun w' => w'.cell? ⟨w.heap.size, 0, none⟩ = some (.int .i64 x.k) ∧ w'.cell? ⟨w.heap.size, 1, none⟩ = some (.int .i64 x.n)) (first | exact KH.out _ (Below.refl _ _) | exact KH.out _ (Below.refl _ _).drew | exact KH.out _ C1 | exact KH.out _ (C1.alloc C1.size _) | exact KH.out _ C2 | exact KH.out _ (C2.alloc C2.size _) | exact KH.out _ C3 | exact KH.out _ (C3.alloc C3.size _) | exact KH.out _ C4 | exact KH.out _ (C4.alloc C4.size _) | exact KH.out _ C5 | exact KH.out _ (C5.alloc C5.size _) | exact KH.out _ C6 | exact KH.out _ (C6.alloc C6.size _) | exact KH.out _ C7 | exact KH.out _ (C7.alloc C7.size _) | go_keep)
                    (first
                      | (go_at_call 18; with_reducible refine (P1.out _ (Below.refl _ _).drew).mono ?_; rintro e z1 ⟨rfl, C1⟩)
                      | (go_at_call 18; with_reducible refine (P2.out _ C1).mono ?_; rintro e z2 ⟨rfl, C2⟩)
                      | (go_at_call 18; with_reducible refine (P3.out _ C2).mono ?_; rintro e z3 ⟨rfl, C3⟩)
                      | (go_at_call 16; with_reducible refine (P4.out _ C3).mono ?_; rintro e z4 ⟨rfl, C4⟩)
                      | (go_at_call 18; with_reducible refine (P2.out _ C4).mono ?_; rintro e z5 ⟨rfl, C5⟩)
                      | (go_at_call 16; with_reducible refine (P5.out _ C5).mono ?_; rintro e z6 ⟨rfl, C6⟩)
                      | (go_at_call 16; with_reducible refine (P6.out _ C6).mono ?_; rintro e z7 ⟨rfl, C7⟩))) | fail
                  all_goals
                    go_wp2_with fail
                    go_ret
                    exact ⟨ret_bool (by first | rfl | simp), B6.out.trans (C7.mono B6.out.size)⟩
              | true =>
                have Hhb := hid hb
                clear hb
                cases wa : M.within la lb with
                | false =>
                  have Hwa := hid wa
                  clear wa
                  have ca : ¬ ((la.length : Int) > 100) := by omega
                  have cb : ¬ ((lb.length : Int) > 100) := by omega
                  go_enter Tryd.func7, Tryd.ntmps7
                  obtain ⟨x1, x2⟩ := X0.out.1
                  go_wp2_with (go_at_call 8; refine stopHere ?_)
                  refine stopAt ?_
                  refine (fixed_any _ (HT.out.below B0.out)).mono ?_
                  rintro e w1 ⟨rfl, hb⟩
                  have B1 := hid (B0.out.trans (hb.mono B0.out.size))
                  have Ta1 := hid (Ta0.out.bel hb)
                  have Tb1 := hid (Tb0.out.bel hb)
                  have X1 := hid (cells_bel X0.out hb)
                  clear B0 Ta0 Tb0 X0 hb x1 x2
                  obtain ⟨x1, x2⟩ := X1.out.1
                  go_wp2_with (go_at_call 12; refine stopHere ?_)
                  refine stopAt ?_
                  refine (may_any _ _ la Ta1.out (by omega)).mono ?_
                  rw [Hya.out]
                  rintro e w2 ⟨rfl, hg⟩
                  have hb := hg.below
                  have B2 := hid (B1.out.trans (hb.mono B1.out.size))
                  have Ta2 := hid (Ta1.out.bel hb)
                  have Tb2 := hid (Tb1.out.bel hb)
                  have X2 := hid (cells_bel X1.out hb)
                  clear B1 Ta1 Tb1 X1 hb hg x1 x2
                  obtain ⟨x1, x2⟩ := X2.out.1
                  go_wp2_with (go_at_call 12; refine stopHere ?_)
                  refine stopAt ?_
                  refine (may_any _ _ lb Tb2.out (by omega)).mono ?_
                  rw [Hyb.out]
                  rintro e w3 ⟨rfl, hg⟩
                  have hb := hg.below
                  have B3 := hid (B2.out.trans (hb.mono B2.out.size))
                  have Ta3 := hid (Ta2.out.bel hb)
                  have Tb3 := hid (Tb2.out.bel hb)
                  have X3 := hid (cells_bel X2.out hb)
                  clear B2 Ta2 Tb2 X2 hb hg x1 x2
                  have Tx4 := hid (atAt_new w3 [x] (by simp) (by intro y hy; simp at hy; subst hy; exact HXR.out))
                  have B4 := hid (B3.out.alloc B3.out.size (.cells (([x] : List M.Atm).flatMap ac).toArray 24))
                  have hba := ((Gr.refl w3).alloc (.cells (([x] : List M.Atm).flatMap ac).toArray 24)).below
                  have Ta4 := hid (Ta3.out.bel hba)
                  have Tb4 := hid (Tb3.out.bel hba)
                  have X4 := hid (cells_bel X3.out hba)
                  clear hba B3 Ta3 Tb3
                  obtain ⟨x1, x2⟩ := X3.out.1
                  go_wp2_with (go_at_call 12; refine stopHere ?_)
                  refine stopAt ?_
                  refine (may_any _ _ [x] Tx4.out (by omega)).mono ?_
                  clear X3
                  rw [Hyx.out]
                  rintro e w5 ⟨rfl, hg⟩
                  have hb := hg.below
                  have B5 := hid (B4.out.trans (hb.mono B4.out.size))
                  have Ta5 := hid (Ta4.out.bel hb)
                  have Tb5 := hid (Tb4.out.bel hb)
                  have Tx5 := hid (Tx4.out.bel hb)
                  have X5 := hid (cells_bel X4.out hb)
                  clear B4 Ta4 Tb4 Tx4 X4 hb hg x1 x2
                  obtain ⟨x1, x2⟩ := X5.out.1
                  go_wp2_with (go_at_call 14; refine stopHere ?_)
                  refine stopAt ?_
                  refine (union_any _ _ _ la lb Ta5.out Tb5.out (by omega) (by omega)).mono ?_
                  rintro e w6 ⟨v6, rfl, hA, hb⟩
                  rw [HU.out] at hA
                  have B6 := hid (B5.out.trans (hb.mono B5.out.size))
                  have Ta6 := hid (Ta5.out.bel hb)
                  have Tb6 := hid (Tb5.out.bel hb)
                  have X6 := hid (cells_bel X5.out hb)
                  have Tu6 := hid hA
                  obtain ⟨q6, m6, rfl⟩ := hA.form
                  clear B5 Ta5 Tb5 X5 hA hb x1 x2
                  have KH : Hid (∀ W, Below w6.heap.size w6 W → W.cell? ⟨w.heap.size, 0, none⟩ = some (.int .i64 x.k) ∧ W.cell? ⟨w.heap.size, 1, none⟩ = some (.int .i64 x.n)) := fun W hW => (cells_bel X6.out hW).1
                  have P1 : Hid (∀ W, Below w6.heap.size w6 W → Calls Tryd.prog 18 #[.slice q6 lu.length m6, .agg #[.int .i64 x.k, .int .i64 x.n]] W fun e w' => e = .returned (.bool true) ∧ Below w6.heap.size w6 w') := fun W hW => by
                    refine (has_any W _ lu x (Tu6.out.bel hW) (by omega)).mono fun e w' ⟨h1, h2⟩ => ⟨by rw [h1, show M.has lu x = true by rw [E1.out, Hha.out, Hhb.out]; rfl], ?_⟩
                    exact hW.trans (h2.mono hW.size)
                  have P2 : Hid (∀ W, Below w6.heap.size w6 W → Calls Tryd.prog 18 #[.slice qa la.length ma, .agg #[.int .i64 x.k, .int .i64 x.n]] W fun e w' => e = .returned (.bool false) ∧ Below w6.heap.size w6 w') := fun W hW => by
                    refine (has_any W _ la x (Ta6.out.bel hW) (by omega)).mono fun e w' ⟨h1, h2⟩ => ⟨by rw [h1, Hha.out], ?_⟩
                    exact hW.trans (h2.mono hW.size)
                  have P3 : Hid (∀ W, Below w6.heap.size w6 W → Calls Tryd.prog 18 #[.slice qb lb.length mb, .agg #[.int .i64 x.k, .int .i64 x.n]] W fun e w' => e = .returned (.bool true) ∧ Below w6.heap.size w6 w') := fun W hW => by
                    refine (has_any W _ lb x (Tb6.out.bel hW) (by omega)).mono fun e w' ⟨h1, h2⟩ => ⟨by rw [h1, Hhb.out], ?_⟩
                    exact hW.trans (h2.mono hW.size)
                  have P4 : Hid (∀ W, Below w6.heap.size w6 W → Calls Tryd.prog 16 #[.slice (some ⟨W.heap.size, 0, none⟩) 1 1, .slice qa la.length ma] (W.alloc (.cells #[.int .i64 x.k, .int .i64 x.n] 24)) fun e w' => e = .returned (.bool false) ∧ Below w6.heap.size w6 w') := fun W hW => by
                    refine (within_any _ _ _ [x] la (atAt_new W [x] (by simp) (by intro y hy; simp at hy; subst hy; exact HXR.out)) (Ta6.out.bel (hW.alloc hW.size _)) (by simp) (by omega)).mono fun e w' ⟨h1, h2⟩ => ⟨by rw [h1, M.within_one, Hha.out], ?_⟩
                    exact (hW.alloc hW.size _).trans (h2.mono (hW.alloc hW.size _).size)
                  have P5 : Hid (∀ W, Below w6.heap.size w6 W → Calls Tryd.prog 16 #[.slice q6 lu.length m6, .slice qb lb.length mb] W fun e w' => e = .returned (.bool false) ∧ Below w6.heap.size w6 w') := fun W hW => by
                    refine (within_any W _ _ lu lb (Tu6.out.bel hW) (Tb6.out.bel hW) (by omega) (by omega)).mono fun e w' ⟨h1, h2⟩ => ⟨by rw [h1, E2.out, Hwa.out], ?_⟩
                    exact hW.trans (h2.mono hW.size)
                  have P6 : Hid (∀ W, Below w6.heap.size w6 W → Calls Tryd.prog 16 #[.slice qa la.length ma, .slice qb lb.length mb] W fun e w' => e = .returned (.bool false) ∧ Below w6.heap.size w6 w') := fun W hW => by
                    refine (within_any W _ _ la lb (Ta6.out.bel hW) (Tb6.out.bel hW) (by omega) (by omega)).mono fun e w' ⟨h1, h2⟩ => ⟨by rw [h1, Hwa.out], ?_⟩
                    exact hW.trans (h2.mono hW.size)
                  clear Ta6 Tb6 Tu6
                  go_wp2_with fail
                  first | (go_region_held3 (fun w' => w'.cell? ⟨w.heap.size, 0, none⟩ = some (.int .i64 x.k) ∧ w'.cell? ⟨w.heap.size, 1, none⟩ = some (.int .i64 x.n)) (first | exact KH.out _ (Below.refl _ _) | exact KH.out _ (Below.refl _ _).drew | exact KH.out _ C1 | exact KH.out _ (C1.alloc C1.size _) | exact KH.out _ C2 | exact KH.out _ (C2.alloc C2.size _) | exact KH.out _ C3 | exact KH.out _ (C3.alloc C3.size _) | exact KH.out _ C4 | exact KH.out _ (C4.alloc C4.size _) | exact KH.out _ C5 | exact KH.out _ (C5.alloc C5.size _) | exact KH.out _ C6 | exact KH.out _ (C6.alloc C6.size _) | exact KH.out _ C7 | exact KH.out _ (C7.alloc C7.size _) | go_keep)
                    (first
                      | (go_at_call 18; with_reducible refine (P1.out _ (Below.refl _ _).drew).mono ?_; rintro e z1 ⟨rfl, C1⟩)
                      | (go_at_call 18; with_reducible refine (P2.out _ C1).mono ?_; rintro e z2 ⟨rfl, C2⟩)
                      | (go_at_call 18; with_reducible refine (P3.out _ C2).mono ?_; rintro e z3 ⟨rfl, C3⟩)
                      | (go_at_call 16; with_reducible refine (P4.out _ C3).mono ?_; rintro e z4 ⟨rfl, C4⟩)
                      | (go_at_call 18; with_reducible refine (P2.out _ C4).mono ?_; rintro e z5 ⟨rfl, C5⟩)
                      | (go_at_call 16; with_reducible refine (P5.out _ C5).mono ?_; rintro e z6 ⟨rfl, C6⟩)
                      | (go_at_call 16; with_reducible refine (P6.out _ C6).mono ?_; rintro e z7 ⟨rfl, C7⟩))) | fail
                  all_goals
                    go_wp2_with fail
                    go_ret
                    exact ⟨ret_bool (by first | rfl | simp), B6.out.trans (C7.mono B6.out.size)⟩
                | true =>
                  have Hwa := hid wa
                  clear wa
                  have ca : ¬ ((la.length : Int) > 100) := by omega
                  have cb : ¬ ((lb.length : Int) > 100) := by omega
                  go_enter Tryd.func7, Tryd.ntmps7
                  obtain ⟨x1, x2⟩ := X0.out.1
                  go_wp2_with (go_at_call 8; refine stopHere ?_)
                  refine stopAt ?_
                  refine (fixed_any _ (HT.out.below B0.out)).mono ?_
                  rintro e w1 ⟨rfl, hb⟩
                  have B1 := hid (B0.out.trans (hb.mono B0.out.size))
                  have Ta1 := hid (Ta0.out.bel hb)
                  have Tb1 := hid (Tb0.out.bel hb)
                  have X1 := hid (cells_bel X0.out hb)
                  clear B0 Ta0 Tb0 X0 hb x1 x2
                  obtain ⟨x1, x2⟩ := X1.out.1
                  go_wp2_with (go_at_call 12; refine stopHere ?_)
                  refine stopAt ?_
                  refine (may_any _ _ la Ta1.out (by omega)).mono ?_
                  rw [Hya.out]
                  rintro e w2 ⟨rfl, hg⟩
                  have hb := hg.below
                  have B2 := hid (B1.out.trans (hb.mono B1.out.size))
                  have Ta2 := hid (Ta1.out.bel hb)
                  have Tb2 := hid (Tb1.out.bel hb)
                  have X2 := hid (cells_bel X1.out hb)
                  clear B1 Ta1 Tb1 X1 hb hg x1 x2
                  obtain ⟨x1, x2⟩ := X2.out.1
                  go_wp2_with (go_at_call 12; refine stopHere ?_)
                  refine stopAt ?_
                  refine (may_any _ _ lb Tb2.out (by omega)).mono ?_
                  rw [Hyb.out]
                  rintro e w3 ⟨rfl, hg⟩
                  have hb := hg.below
                  have B3 := hid (B2.out.trans (hb.mono B2.out.size))
                  have Ta3 := hid (Ta2.out.bel hb)
                  have Tb3 := hid (Tb2.out.bel hb)
                  have X3 := hid (cells_bel X2.out hb)
                  clear B2 Ta2 Tb2 X2 hb hg x1 x2
                  have Tx4 := hid (atAt_new w3 [x] (by simp) (by intro y hy; simp at hy; subst hy; exact HXR.out))
                  have B4 := hid (B3.out.alloc B3.out.size (.cells (([x] : List M.Atm).flatMap ac).toArray 24))
                  have hba := ((Gr.refl w3).alloc (.cells (([x] : List M.Atm).flatMap ac).toArray 24)).below
                  have Ta4 := hid (Ta3.out.bel hba)
                  have Tb4 := hid (Tb3.out.bel hba)
                  have X4 := hid (cells_bel X3.out hba)
                  clear hba B3 Ta3 Tb3
                  obtain ⟨x1, x2⟩ := X3.out.1
                  go_wp2_with (go_at_call 12; refine stopHere ?_)
                  refine stopAt ?_
                  refine (may_any _ _ [x] Tx4.out (by omega)).mono ?_
                  clear X3
                  rw [Hyx.out]
                  rintro e w5 ⟨rfl, hg⟩
                  have hb := hg.below
                  have B5 := hid (B4.out.trans (hb.mono B4.out.size))
                  have Ta5 := hid (Ta4.out.bel hb)
                  have Tb5 := hid (Tb4.out.bel hb)
                  have Tx5 := hid (Tx4.out.bel hb)
                  have X5 := hid (cells_bel X4.out hb)
                  clear B4 Ta4 Tb4 Tx4 X4 hb hg x1 x2
                  obtain ⟨x1, x2⟩ := X5.out.1
                  go_wp2_with (go_at_call 14; refine stopHere ?_)
                  refine stopAt ?_
                  refine (union_any _ _ _ la lb Ta5.out Tb5.out (by omega) (by omega)).mono ?_
                  rintro e w6 ⟨v6, rfl, hA, hb⟩
                  rw [HU.out] at hA
                  have B6 := hid (B5.out.trans (hb.mono B5.out.size))
                  have Ta6 := hid (Ta5.out.bel hb)
                  have Tb6 := hid (Tb5.out.bel hb)
                  have X6 := hid (cells_bel X5.out hb)
                  have Tu6 := hid hA
                  obtain ⟨q6, m6, rfl⟩ := hA.form
                  clear B5 Ta5 Tb5 X5 hA hb x1 x2
                  have KH : Hid (∀ W, Below w6.heap.size w6 W → W.cell? ⟨w.heap.size, 0, none⟩ = some (.int .i64 x.k) ∧ W.cell? ⟨w.heap.size, 1, none⟩ = some (.int .i64 x.n)) := fun W hW => (cells_bel X6.out hW).1
                  have P1 : Hid (∀ W, Below w6.heap.size w6 W → Calls Tryd.prog 18 #[.slice q6 lu.length m6, .agg #[.int .i64 x.k, .int .i64 x.n]] W fun e w' => e = .returned (.bool true) ∧ Below w6.heap.size w6 w') := fun W hW => by
                    refine (has_any W _ lu x (Tu6.out.bel hW) (by omega)).mono fun e w' ⟨h1, h2⟩ => ⟨by rw [h1, show M.has lu x = true by rw [E1.out, Hha.out, Hhb.out]; rfl], ?_⟩
                    exact hW.trans (h2.mono hW.size)
                  have P2 : Hid (∀ W, Below w6.heap.size w6 W → Calls Tryd.prog 18 #[.slice qa la.length ma, .agg #[.int .i64 x.k, .int .i64 x.n]] W fun e w' => e = .returned (.bool false) ∧ Below w6.heap.size w6 w') := fun W hW => by
                    refine (has_any W _ la x (Ta6.out.bel hW) (by omega)).mono fun e w' ⟨h1, h2⟩ => ⟨by rw [h1, Hha.out], ?_⟩
                    exact hW.trans (h2.mono hW.size)
                  have P3 : Hid (∀ W, Below w6.heap.size w6 W → Calls Tryd.prog 18 #[.slice qb lb.length mb, .agg #[.int .i64 x.k, .int .i64 x.n]] W fun e w' => e = .returned (.bool true) ∧ Below w6.heap.size w6 w') := fun W hW => by
                    refine (has_any W _ lb x (Tb6.out.bel hW) (by omega)).mono fun e w' ⟨h1, h2⟩ => ⟨by rw [h1, Hhb.out], ?_⟩
                    exact hW.trans (h2.mono hW.size)
                  have P4 : Hid (∀ W, Below w6.heap.size w6 W → Calls Tryd.prog 16 #[.slice (some ⟨W.heap.size, 0, none⟩) 1 1, .slice qa la.length ma] (W.alloc (.cells #[.int .i64 x.k, .int .i64 x.n] 24)) fun e w' => e = .returned (.bool false) ∧ Below w6.heap.size w6 w') := fun W hW => by
                    refine (within_any _ _ _ [x] la (atAt_new W [x] (by simp) (by intro y hy; simp at hy; subst hy; exact HXR.out)) (Ta6.out.bel (hW.alloc hW.size _)) (by simp) (by omega)).mono fun e w' ⟨h1, h2⟩ => ⟨by rw [h1, M.within_one, Hha.out], ?_⟩
                    exact (hW.alloc hW.size _).trans (h2.mono (hW.alloc hW.size _).size)
                  have P5 : Hid (∀ W, Below w6.heap.size w6 W → Calls Tryd.prog 16 #[.slice q6 lu.length m6, .slice qb lb.length mb] W fun e w' => e = .returned (.bool true) ∧ Below w6.heap.size w6 w') := fun W hW => by
                    refine (within_any W _ _ lu lb (Tu6.out.bel hW) (Tb6.out.bel hW) (by omega) (by omega)).mono fun e w' ⟨h1, h2⟩ => ⟨by rw [h1, E2.out, Hwa.out], ?_⟩
                    exact hW.trans (h2.mono hW.size)
                  have P6 : Hid (∀ W, Below w6.heap.size w6 W → Calls Tryd.prog 16 #[.slice qa la.length ma, .slice qb lb.length mb] W fun e w' => e = .returned (.bool true) ∧ Below w6.heap.size w6 w') := fun W hW => by
                    refine (within_any W _ _ la lb (Ta6.out.bel hW) (Tb6.out.bel hW) (by omega) (by omega)).mono fun e w' ⟨h1, h2⟩ => ⟨by rw [h1, Hwa.out], ?_⟩
                    exact hW.trans (h2.mono hW.size)
                  clear Ta6 Tb6 Tu6
                  go_wp2_with fail
                  first | (go_region_held3 (fun w' => w'.cell? ⟨w.heap.size, 0, none⟩ = some (.int .i64 x.k) ∧ w'.cell? ⟨w.heap.size, 1, none⟩ = some (.int .i64 x.n)) (first | exact KH.out _ (Below.refl _ _) | exact KH.out _ (Below.refl _ _).drew | exact KH.out _ C1 | exact KH.out _ (C1.alloc C1.size _) | exact KH.out _ C2 | exact KH.out _ (C2.alloc C2.size _) | exact KH.out _ C3 | exact KH.out _ (C3.alloc C3.size _) | exact KH.out _ C4 | exact KH.out _ (C4.alloc C4.size _) | exact KH.out _ C5 | exact KH.out _ (C5.alloc C5.size _) | exact KH.out _ C6 | exact KH.out _ (C6.alloc C6.size _) | exact KH.out _ C7 | exact KH.out _ (C7.alloc C7.size _) | go_keep)
                    (first
                      | (go_at_call 18; with_reducible refine (P1.out _ (Below.refl _ _).drew).mono ?_; rintro e z1 ⟨rfl, C1⟩)
                      | (go_at_call 18; with_reducible refine (P2.out _ C1).mono ?_; rintro e z2 ⟨rfl, C2⟩)
                      | (go_at_call 18; with_reducible refine (P3.out _ C2).mono ?_; rintro e z3 ⟨rfl, C3⟩)
                      | (go_at_call 16; with_reducible refine (P4.out _ C3).mono ?_; rintro e z4 ⟨rfl, C4⟩)
                      | (go_at_call 18; with_reducible refine (P2.out _ C4).mono ?_; rintro e z5 ⟨rfl, C5⟩)
                      | (go_at_call 16; with_reducible refine (P5.out _ C5).mono ?_; rintro e z6 ⟨rfl, C6⟩)
                      | (go_at_call 16; with_reducible refine (P6.out _ C6).mono ?_; rintro e z7 ⟨rfl, C7⟩))) | fail
                  all_goals
                    go_wp2_with fail
                    go_ret
                    exact ⟨ret_bool (by first | rfl | simp), B6.out.trans (C7.mono B6.out.size)⟩
            | true =>
              have Hha := hid ha
              clear ha
              cases wa : M.within la lb with
              | false =>
                have Hwa := hid wa
                clear wa
                have ca : ¬ ((la.length : Int) > 100) := by omega
                have cb : ¬ ((lb.length : Int) > 100) := by omega
                go_enter Tryd.func7, Tryd.ntmps7
                obtain ⟨x1, x2⟩ := X0.out.1
                go_wp2_with (go_at_call 8; refine stopHere ?_)
                refine stopAt ?_
                refine (fixed_any _ (HT.out.below B0.out)).mono ?_
                rintro e w1 ⟨rfl, hb⟩
                have B1 := hid (B0.out.trans (hb.mono B0.out.size))
                have Ta1 := hid (Ta0.out.bel hb)
                have Tb1 := hid (Tb0.out.bel hb)
                have X1 := hid (cells_bel X0.out hb)
                clear B0 Ta0 Tb0 X0 hb x1 x2
                obtain ⟨x1, x2⟩ := X1.out.1
                go_wp2_with (go_at_call 12; refine stopHere ?_)
                refine stopAt ?_
                refine (may_any _ _ la Ta1.out (by omega)).mono ?_
                rw [Hya.out]
                rintro e w2 ⟨rfl, hg⟩
                have hb := hg.below
                have B2 := hid (B1.out.trans (hb.mono B1.out.size))
                have Ta2 := hid (Ta1.out.bel hb)
                have Tb2 := hid (Tb1.out.bel hb)
                have X2 := hid (cells_bel X1.out hb)
                clear B1 Ta1 Tb1 X1 hb hg x1 x2
                obtain ⟨x1, x2⟩ := X2.out.1
                go_wp2_with (go_at_call 12; refine stopHere ?_)
                refine stopAt ?_
                refine (may_any _ _ lb Tb2.out (by omega)).mono ?_
                rw [Hyb.out]
                rintro e w3 ⟨rfl, hg⟩
                have hb := hg.below
                have B3 := hid (B2.out.trans (hb.mono B2.out.size))
                have Ta3 := hid (Ta2.out.bel hb)
                have Tb3 := hid (Tb2.out.bel hb)
                have X3 := hid (cells_bel X2.out hb)
                clear B2 Ta2 Tb2 X2 hb hg x1 x2
                have Tx4 := hid (atAt_new w3 [x] (by simp) (by intro y hy; simp at hy; subst hy; exact HXR.out))
                have B4 := hid (B3.out.alloc B3.out.size (.cells (([x] : List M.Atm).flatMap ac).toArray 24))
                have hba := ((Gr.refl w3).alloc (.cells (([x] : List M.Atm).flatMap ac).toArray 24)).below
                have Ta4 := hid (Ta3.out.bel hba)
                have Tb4 := hid (Tb3.out.bel hba)
                have X4 := hid (cells_bel X3.out hba)
                clear hba B3 Ta3 Tb3
                obtain ⟨x1, x2⟩ := X3.out.1
                go_wp2_with (go_at_call 12; refine stopHere ?_)
                refine stopAt ?_
                refine (may_any _ _ [x] Tx4.out (by omega)).mono ?_
                clear X3
                rw [Hyx.out]
                rintro e w5 ⟨rfl, hg⟩
                have hb := hg.below
                have B5 := hid (B4.out.trans (hb.mono B4.out.size))
                have Ta5 := hid (Ta4.out.bel hb)
                have Tb5 := hid (Tb4.out.bel hb)
                have Tx5 := hid (Tx4.out.bel hb)
                have X5 := hid (cells_bel X4.out hb)
                clear B4 Ta4 Tb4 Tx4 X4 hb hg x1 x2
                obtain ⟨x1, x2⟩ := X5.out.1
                go_wp2_with (go_at_call 14; refine stopHere ?_)
                refine stopAt ?_
                refine (union_any _ _ _ la lb Ta5.out Tb5.out (by omega) (by omega)).mono ?_
                rintro e w6 ⟨v6, rfl, hA, hb⟩
                rw [HU.out] at hA
                have B6 := hid (B5.out.trans (hb.mono B5.out.size))
                have Ta6 := hid (Ta5.out.bel hb)
                have Tb6 := hid (Tb5.out.bel hb)
                have X6 := hid (cells_bel X5.out hb)
                have Tu6 := hid hA
                obtain ⟨q6, m6, rfl⟩ := hA.form
                clear B5 Ta5 Tb5 X5 hA hb x1 x2
                have KH : Hid (∀ W, Below w6.heap.size w6 W → W.cell? ⟨w.heap.size, 0, none⟩ = some (.int .i64 x.k) ∧ W.cell? ⟨w.heap.size, 1, none⟩ = some (.int .i64 x.n)) := fun W hW => (cells_bel X6.out hW).1
                have P1 : Hid (∀ W, Below w6.heap.size w6 W → Calls Tryd.prog 18 #[.slice q6 lu.length m6, .agg #[.int .i64 x.k, .int .i64 x.n]] W fun e w' => e = .returned (.bool true) ∧ Below w6.heap.size w6 w') := fun W hW => by
                  refine (has_any W _ lu x (Tu6.out.bel hW) (by omega)).mono fun e w' ⟨h1, h2⟩ => ⟨by rw [h1, show M.has lu x = true by rw [E1.out, Hha.out]; rfl], ?_⟩
                  exact hW.trans (h2.mono hW.size)
                have P2 : Hid (∀ W, Below w6.heap.size w6 W → Calls Tryd.prog 18 #[.slice qa la.length ma, .agg #[.int .i64 x.k, .int .i64 x.n]] W fun e w' => e = .returned (.bool true) ∧ Below w6.heap.size w6 w') := fun W hW => by
                  refine (has_any W _ la x (Ta6.out.bel hW) (by omega)).mono fun e w' ⟨h1, h2⟩ => ⟨by rw [h1, Hha.out], ?_⟩
                  exact hW.trans (h2.mono hW.size)
                have P4 : Hid (∀ W, Below w6.heap.size w6 W → Calls Tryd.prog 16 #[.slice (some ⟨W.heap.size, 0, none⟩) 1 1, .slice qa la.length ma] (W.alloc (.cells #[.int .i64 x.k, .int .i64 x.n] 24)) fun e w' => e = .returned (.bool true) ∧ Below w6.heap.size w6 w') := fun W hW => by
                  refine (within_any _ _ _ [x] la (atAt_new W [x] (by simp) (by intro y hy; simp at hy; subst hy; exact HXR.out)) (Ta6.out.bel (hW.alloc hW.size _)) (by simp) (by omega)).mono fun e w' ⟨h1, h2⟩ => ⟨by rw [h1, M.within_one, Hha.out], ?_⟩
                  exact (hW.alloc hW.size _).trans (h2.mono (hW.alloc hW.size _).size)
                have P5 : Hid (∀ W, Below w6.heap.size w6 W → Calls Tryd.prog 16 #[.slice q6 lu.length m6, .slice qb lb.length mb] W fun e w' => e = .returned (.bool false) ∧ Below w6.heap.size w6 w') := fun W hW => by
                  refine (within_any W _ _ lu lb (Tu6.out.bel hW) (Tb6.out.bel hW) (by omega) (by omega)).mono fun e w' ⟨h1, h2⟩ => ⟨by rw [h1, E2.out, Hwa.out], ?_⟩
                  exact hW.trans (h2.mono hW.size)
                have P6 : Hid (∀ W, Below w6.heap.size w6 W → Calls Tryd.prog 16 #[.slice qa la.length ma, .slice qb lb.length mb] W fun e w' => e = .returned (.bool false) ∧ Below w6.heap.size w6 w') := fun W hW => by
                  refine (within_any W _ _ la lb (Ta6.out.bel hW) (Tb6.out.bel hW) (by omega) (by omega)).mono fun e w' ⟨h1, h2⟩ => ⟨by rw [h1, Hwa.out], ?_⟩
                  exact hW.trans (h2.mono hW.size)
                clear Ta6 Tb6 Tu6
                go_wp2_with fail
                refine wp_region_held_drew (S := (fun w' => w'.cell? ⟨w.heap.size, 0, none⟩ = some (.int .i64 x.k) ∧ w'.cell? ⟨w.heap.size, 1, none⟩ = some (.int .i64 x.n))) (by kernel_rfl) (KH.out _ (Below.refl _ _).drew) (fun hHeld => ?_)
                refine wpAnyH_take (i := 0) (oi := { dst := some 40, op := Op.move (Operand.tmp 7), type := 22, pos := "law.go:70", after := #[], guard := none }) (v := ?_) rfl (by kernel_rfl) (by kernel_rfl) (by kernel_rfl) (fun _ _ _ h => h) (Or.inl ⟨by rfl, ?_⟩) hHeld ?_
                rotate_left
                · intro w hSw; (try dsimp only at hSw); go_simp; (try with_reducible rfl)
                simp only [Act.put, List.setIfInBounds_toArray, List.set_cons_zero, List.set_cons_succ]
                refine wpAnyH_take (i := 1) (oi := { dst := some 41, op := Op.load 24 (Operand.tmp 5), type := 24, pos := "law.go:70", after := #[], guard := none }) (v := ?_) rfl (by kernel_rfl) (by kernel_rfl) (by kernel_rfl) (fun _ _ _ h => h) (Or.inl ⟨by rfl, ?_⟩) hHeld ?_
                rotate_left
                · intro w hSw; (try dsimp only at hSw); go_simp; (try with_reducible rfl)
                simp only [Act.put, List.setIfInBounds_toArray, List.set_cons_zero, List.set_cons_succ]
                refine wpAnyH_take (i := 3) (oi := { dst := some 43, op := Op.move (Operand.tmp 0), type := 22, pos := "law.go:70", after := #[], guard := none }) (v := ?_) rfl (by kernel_rfl) (by kernel_rfl) (by kernel_rfl) (fun _ _ _ h => h) (Or.inl ⟨by rfl, ?_⟩) hHeld ?_
                rotate_left
                · intro w hSw; (try dsimp only at hSw); go_simp; (try with_reducible rfl)
                simp only [Act.put, List.setIfInBounds_toArray, List.set_cons_zero, List.set_cons_succ]
                refine wpAnyH_take (i := 4) (oi := { dst := some 44, op := Op.load 24 (Operand.tmp 5), type := 24, pos := "law.go:70", after := #[], guard := none }) (v := ?_) rfl (by kernel_rfl) (by kernel_rfl) (by kernel_rfl) (fun _ _ _ h => h) (Or.inl ⟨by rfl, ?_⟩) hHeld ?_
                rotate_left
                · intro w hSw; (try dsimp only at hSw); go_simp; (try with_reducible rfl)
                simp only [Act.put, List.setIfInBounds_toArray, List.set_cons_zero, List.set_cons_succ]
                refine wpAnyH_ready (rs := [2]) (by kernel_rfl) (by simp) ?_
                refine AllReadyH.cons (o := { dst := some 42, op := Op.call { callee := Callee.value (Operand.func 18), args := #[Operand.tmp 40, Operand.tmp 41], argTypes := #[22, 24] }, type := 4, pos := "law.go:70", after := #[{ on := 0, ground := Ground.data }, { on := 1, ground := Ground.data }], guard := none }) rfl (fun K hK => ?_) AllReadyH.nil
                go_simp
                refine (P1.out _ (Below.refl _ _).drew).mono ?_
                rintro e z1 ⟨rfl, C1⟩
                refine hK.out _ _ (KH.out _ C1) (fun hHeld => ?_)
                refine wpAnyH_ready (rs := [5]) (by kernel_rfl) (by simp) ?_
                refine AllReadyH.cons (o := { dst := some 45, op := Op.call { callee := Callee.value (Operand.func 18), args := #[Operand.tmp 43, Operand.tmp 44], argTypes := #[22, 24] }, type := 4, pos := "law.go:70", after := #[{ on := 3, ground := Ground.data }, { on := 4, ground := Ground.data }, { on := 2, ground := Ground.chain }], guard := none }) rfl (fun K hK => ?_) AllReadyH.nil
                go_simp
                refine (P2.out _ C1).mono ?_
                rintro e z2 ⟨rfl, C2⟩
                refine hK.out _ _ (KH.out _ C2) (fun hHeld => ?_)
                refine wpAnyH_take (i := 6) (oi := { dst := some 46, op := Op.move (Operand.tmp 45), type := 4, pos := "law.go:70", after := #[{ on := 5, ground := Ground.data }, { on := 5, ground := Ground.chain }], guard := none }) (v := ?_) rfl (by kernel_rfl) (by kernel_rfl) (by kernel_rfl) (fun _ _ _ h => h) (Or.inl ⟨by rfl, ?_⟩) hHeld ?_
                rotate_left
                · intro w hSw; (try dsimp only at hSw); go_simp; (try with_reducible rfl)
                simp only [Act.put, List.setIfInBounds_toArray, List.set_cons_zero, List.set_cons_succ]
                refine wpAnyH_take (i := 7) (oi := { dst := some 47, op := Op.move (Operand.tmp 1), type := 22, pos := "law.go:70", after := #[{ on := 6, ground := Ground.guard }], guard := some (6, false) }) (v := undef) rfl (by kernel_rfl) (by kernel_rfl) (by kernel_rfl) (fun _ _ _ h => h) (Or.inr ⟨by rfl, rfl⟩) hHeld ?_
                simp only [Act.put, List.setIfInBounds_toArray, List.set_cons_zero, List.set_cons_succ]
                refine wpAnyH_take (i := 8) (oi := { dst := some 48, op := Op.load 24 (Operand.tmp 5), type := 24, pos := "law.go:70", after := #[{ on := 6, ground := Ground.guard }], guard := some (6, false) }) (v := undef) rfl (by kernel_rfl) (by kernel_rfl) (by kernel_rfl) (fun _ _ _ h => h) (Or.inr ⟨by rfl, rfl⟩) hHeld ?_
                simp only [Act.put, List.setIfInBounds_toArray, List.set_cons_zero, List.set_cons_succ]
                refine wpAnyH_take (i := 9) (oi := { dst := some 49, op := Op.call { callee := Callee.value (Operand.func 18), args := #[Operand.tmp 47, Operand.tmp 48], argTypes := #[22, 24] }, type := 4, pos := "law.go:70", after := #[{ on := 7, ground := Ground.data }, { on := 8, ground := Ground.data }, { on := 6, ground := Ground.chain }, { on := 6, ground := Ground.guard }], guard := some (6, false) }) (v := undef) rfl (by kernel_rfl) (by kernel_rfl) (by kernel_rfl) (fun _ _ _ h => h) (Or.inr ⟨by rfl, rfl⟩) hHeld ?_
                simp only [Act.put, List.setIfInBounds_toArray, List.set_cons_zero, List.set_cons_succ]
                refine wpAnyH_take (i := 10) (oi := { dst := some 50, op := Op.pick (Operand.tmp 46) (Operand.const (Value.bool true)) (Operand.tmp 49), type := 4, pos := "law.go:70", after := #[{ on := 6, ground := Ground.data }, { on := 9, ground := Ground.data }], guard := none }) (v := ?_) rfl (by kernel_rfl) (by kernel_rfl) (by kernel_rfl) (fun _ _ _ h => h) (Or.inl ⟨by rfl, ?_⟩) hHeld ?_
                rotate_left
                · intro w hSw; (try dsimp only at hSw); go_simp; (try with_reducible rfl)
                simp only [Act.put, List.setIfInBounds_toArray, List.set_cons_zero, List.set_cons_succ]
                refine wpAnyH_take (i := 11) (oi := { dst := some 51, op := Op.binOp BinOp.eql 4 (Operand.tmp 42) (Operand.tmp 50) 4, type := 4, pos := "law.go:70", after := #[{ on := 2, ground := Ground.data }, { on := 10, ground := Ground.data }], guard := none }) (v := ?_) rfl (by kernel_rfl) (by kernel_rfl) (by kernel_rfl) (fun _ _ _ h => h) (Or.inl ⟨by rfl, ?_⟩) hHeld ?_
                rotate_left
                · intro w hSw; (try dsimp only at hSw); go_simp; (try with_reducible rfl)
                simp only [Act.put, List.setIfInBounds_toArray, List.set_cons_zero, List.set_cons_succ]
                refine wpAnyH_take (i := 12) (oi := { dst := some 52, op := Op.move (Operand.tmp 51), type := 4, pos := "law.go:70", after := #[{ on := 11, ground := Ground.data }, { on := 9, ground := Ground.chain }], guard := none }) (v := ?_) rfl (by kernel_rfl) (by kernel_rfl) (by kernel_rfl) (fun _ _ _ h => h) (Or.inl ⟨by rfl, ?_⟩) hHeld ?_
                rotate_left
                · intro w hSw; (try dsimp only at hSw); go_simp; (try with_reducible rfl)
                simp only [Act.put, List.setIfInBounds_toArray, List.set_cons_zero, List.set_cons_succ]
                refine wpAnyH_take (i := 13) (oi := { dst := some 53, op := Op.load 24 (Operand.tmp 5), type := 24, pos := "law.go:70", after := #[{ on := 12, ground := Ground.guard }], guard := some (12, true) }) (v := ?_) rfl (by kernel_rfl) (by kernel_rfl) (by kernel_rfl) (fun _ _ _ h => h) (Or.inl ⟨by rfl, ?_⟩) hHeld ?_
                rotate_left
                · intro w hSw; (try dsimp only at hSw); go_simp; (try with_reducible rfl)
                simp only [Act.put, List.setIfInBounds_toArray, List.set_cons_zero, List.set_cons_succ]
                refine wpAnyH_take (i := 15) (oi := { dst := some 55, op := Op.move (Operand.tmp 0), type := 22, pos := "law.go:70", after := #[{ on := 12, ground := Ground.guard }], guard := some (12, true) }) (v := ?_) rfl (by kernel_rfl) (by kernel_rfl) (by kernel_rfl) (fun _ _ _ h => h) (Or.inl ⟨by rfl, ?_⟩) hHeld ?_
                rotate_left
                · intro w hSw; (try dsimp only at hSw); go_simp; (try with_reducible rfl)
                simp only [Act.put, List.setIfInBounds_toArray, List.set_cons_zero, List.set_cons_succ]
                refine wpAnyH_take (i := 17) (oi := { dst := some 57, op := Op.move (Operand.tmp 0), type := 22, pos := "law.go:70", after := #[{ on := 12, ground := Ground.guard }], guard := some (12, true) }) (v := ?_) rfl (by kernel_rfl) (by kernel_rfl) (by kernel_rfl) (fun _ _ _ h => h) (Or.inl ⟨by rfl, ?_⟩) hHeld ?_
                rotate_left
                · intro w hSw; (try dsimp only at hSw); go_simp; (try with_reducible rfl)
                simp only [Act.put, List.setIfInBounds_toArray, List.set_cons_zero, List.set_cons_succ]
                refine wpAnyH_take (i := 18) (oi := { dst := some 58, op := Op.load 24 (Operand.tmp 5), type := 24, pos := "law.go:70", after := #[{ on := 12, ground := Ground.guard }], guard := some (12, true) }) (v := ?_) rfl (by kernel_rfl) (by kernel_rfl) (by kernel_rfl) (fun _ _ _ h => h) (Or.inl ⟨by rfl, ?_⟩) hHeld ?_
                rotate_left
                · intro w hSw; (try dsimp only at hSw); go_simp; (try with_reducible rfl)
                simp only [Act.put, List.setIfInBounds_toArray, List.set_cons_zero, List.set_cons_succ]
                refine wpAnyH_ready (rs := [14]) (by kernel_rfl) (by simp) ?_
                refine AllReadyH.cons (o := { dst := some 54, op := Op.buildSlice 22 1 #[(0, Operand.tmp 53)], type := 22, pos := "law.go:70", after := #[{ on := 13, ground := Ground.data }, { on := 12, ground := Ground.guard }], guard := some (12, true) }) rfl (fun K hK => ?_) AllReadyH.nil
                go_simp
                refine hK.out _ _ (KH.out _ (C2.alloc C2.size _)) (fun hHeld => ?_)
                refine wpAnyH_ready (rs := [16]) (by kernel_rfl) (by simp) ?_
                refine AllReadyH.cons (o := { dst := some 56, op := Op.call { callee := Callee.value (Operand.func 16), args := #[Operand.tmp 54, Operand.tmp 55], argTypes := #[22, 22] }, type := 4, pos := "law.go:70", after := #[{ on := 14, ground := Ground.data }, { on := 15, ground := Ground.data }, { on := 12, ground := Ground.chain }, { on := 12, ground := Ground.guard }], guard := some (12, true) }) rfl (fun K hK => ?_) AllReadyH.nil
                go_simp
                refine (P4.out _ C2).mono ?_
                rintro e z3 ⟨rfl, C3⟩
                refine hK.out _ _ (KH.out _ C3) (fun hHeld => ?_)
                refine wpAnyH_ready (rs := [19]) (by kernel_rfl) (by simp) ?_
                refine AllReadyH.cons (o := { dst := some 59, op := Op.call { callee := Callee.value (Operand.func 18), args := #[Operand.tmp 57, Operand.tmp 58], argTypes := #[22, 24] }, type := 4, pos := "law.go:70", after := #[{ on := 17, ground := Ground.data }, { on := 18, ground := Ground.data }, { on := 16, ground := Ground.chain }, { on := 12, ground := Ground.guard }], guard := some (12, true) }) rfl (fun K hK => ?_) AllReadyH.nil
                go_simp
                refine (P2.out _ C3).mono ?_
                rintro e z4 ⟨rfl, C4⟩
                refine hK.out _ _ (KH.out _ C4) (fun hHeld => ?_)
                refine wpAnyH_take (i := 20) (oi := { dst := some 60, op := Op.binOp BinOp.eql 4 (Operand.tmp 56) (Operand.tmp 59) 4, type := 4, pos := "law.go:70", after := #[{ on := 16, ground := Ground.data }, { on := 19, ground := Ground.data }, { on := 12, ground := Ground.guard }], guard := some (12, true) }) (v := ?_) rfl (by kernel_rfl) (by kernel_rfl) (by kernel_rfl) (fun _ _ _ h => h) (Or.inl ⟨by rfl, ?_⟩) hHeld ?_
                rotate_left
                · intro w hSw; (try dsimp only at hSw); go_simp; (try with_reducible rfl)
                simp only [Act.put, List.setIfInBounds_toArray, List.set_cons_zero, List.set_cons_succ]
                refine wpAnyH_take (i := 21) (oi := { dst := some 61, op := Op.pick (Operand.tmp 52) (Operand.tmp 60) (Operand.const (Value.bool false)), type := 4, pos := "law.go:70", after := #[{ on := 12, ground := Ground.data }, { on := 20, ground := Ground.data }], guard := none }) (v := ?_) rfl (by kernel_rfl) (by kernel_rfl) (by kernel_rfl) (fun _ _ _ h => h) (Or.inl ⟨by rfl, ?_⟩) hHeld ?_
                rotate_left
                · intro w hSw; (try dsimp only at hSw); go_simp; (try with_reducible rfl)
                simp only [Act.put, List.setIfInBounds_toArray, List.set_cons_zero, List.set_cons_succ]
                refine wpAnyH_take (i := 22) (oi := { dst := some 62, op := Op.move (Operand.tmp 61), type := 4, pos := "law.go:70", after := #[{ on := 21, ground := Ground.data }, { on := 19, ground := Ground.chain }], guard := none }) (v := ?_) rfl (by kernel_rfl) (by kernel_rfl) (by kernel_rfl) (fun _ _ _ h => h) (Or.inl ⟨by rfl, ?_⟩) hHeld ?_
                rotate_left
                · intro w hSw; (try dsimp only at hSw); go_simp; (try with_reducible rfl)
                simp only [Act.put, List.setIfInBounds_toArray, List.set_cons_zero, List.set_cons_succ]
                refine wpAnyH_take (i := 23) (oi := { dst := some 63, op := Op.move (Operand.tmp 7), type := 22, pos := "law.go:70", after := #[{ on := 22, ground := Ground.guard }], guard := some (22, true) }) (v := ?_) rfl (by kernel_rfl) (by kernel_rfl) (by kernel_rfl) (fun _ _ _ h => h) (Or.inl ⟨by rfl, ?_⟩) hHeld ?_
                rotate_left
                · intro w hSw; (try dsimp only at hSw); go_simp; (try with_reducible rfl)
                simp only [Act.put, List.setIfInBounds_toArray, List.set_cons_zero, List.set_cons_succ]
                refine wpAnyH_take (i := 24) (oi := { dst := some 64, op := Op.move (Operand.tmp 1), type := 22, pos := "law.go:70", after := #[{ on := 22, ground := Ground.guard }], guard := some (22, true) }) (v := ?_) rfl (by kernel_rfl) (by kernel_rfl) (by kernel_rfl) (fun _ _ _ h => h) (Or.inl ⟨by rfl, ?_⟩) hHeld ?_
                rotate_left
                · intro w hSw; (try dsimp only at hSw); go_simp; (try with_reducible rfl)
                simp only [Act.put, List.setIfInBounds_toArray, List.set_cons_zero, List.set_cons_succ]
                refine wpAnyH_take (i := 26) (oi := { dst := some 66, op := Op.move (Operand.tmp 0), type := 22, pos := "law.go:70", after := #[{ on := 22, ground := Ground.guard }], guard := some (22, true) }) (v := ?_) rfl (by kernel_rfl) (by kernel_rfl) (by kernel_rfl) (fun _ _ _ h => h) (Or.inl ⟨by rfl, ?_⟩) hHeld ?_
                rotate_left
                · intro w hSw; (try dsimp only at hSw); go_simp; (try with_reducible rfl)
                simp only [Act.put, List.setIfInBounds_toArray, List.set_cons_zero, List.set_cons_succ]
                refine wpAnyH_take (i := 27) (oi := { dst := some 67, op := Op.move (Operand.tmp 1), type := 22, pos := "law.go:70", after := #[{ on := 22, ground := Ground.guard }], guard := some (22, true) }) (v := ?_) rfl (by kernel_rfl) (by kernel_rfl) (by kernel_rfl) (fun _ _ _ h => h) (Or.inl ⟨by rfl, ?_⟩) hHeld ?_
                rotate_left
                · intro w hSw; (try dsimp only at hSw); go_simp; (try with_reducible rfl)
                simp only [Act.put, List.setIfInBounds_toArray, List.set_cons_zero, List.set_cons_succ]
                refine wpAnyH_ready (rs := [25]) (by kernel_rfl) (by simp) ?_
                refine AllReadyH.cons (o := { dst := some 65, op := Op.call { callee := Callee.value (Operand.func 16), args := #[Operand.tmp 63, Operand.tmp 64], argTypes := #[22, 22] }, type := 4, pos := "law.go:70", after := #[{ on := 23, ground := Ground.data }, { on := 24, ground := Ground.data }, { on := 22, ground := Ground.chain }, { on := 22, ground := Ground.guard }], guard := some (22, true) }) rfl (fun K hK => ?_) AllReadyH.nil
                go_simp
                refine (P5.out _ C4).mono ?_
                rintro e z5 ⟨rfl, C5⟩
                refine hK.out _ _ (KH.out _ C5) (fun hHeld => ?_)
                refine wpAnyH_ready (rs := [28]) (by kernel_rfl) (by simp) ?_
                refine AllReadyH.cons (o := { dst := some 68, op := Op.call { callee := Callee.value (Operand.func 16), args := #[Operand.tmp 66, Operand.tmp 67], argTypes := #[22, 22] }, type := 4, pos := "law.go:70", after := #[{ on := 26, ground := Ground.data }, { on := 27, ground := Ground.data }, { on := 25, ground := Ground.chain }, { on := 22, ground := Ground.guard }], guard := some (22, true) }) rfl (fun K hK => ?_) AllReadyH.nil
                go_simp
                refine (P6.out _ C5).mono ?_
                rintro e z6 ⟨rfl, C6⟩
                refine hK.out _ _ (KH.out _ C6) (fun hHeld => ?_)
                refine wpAnyH_take (i := 29) (oi := { dst := some 69, op := Op.binOp BinOp.eql 4 (Operand.tmp 65) (Operand.tmp 68) 4, type := 4, pos := "law.go:70", after := #[{ on := 25, ground := Ground.data }, { on := 28, ground := Ground.data }, { on := 22, ground := Ground.guard }], guard := some (22, true) }) (v := ?_) rfl (by kernel_rfl) (by kernel_rfl) (by kernel_rfl) (fun _ _ _ h => h) (Or.inl ⟨by rfl, ?_⟩) hHeld ?_
                rotate_left
                · intro w hSw; (try dsimp only at hSw); go_simp; (try with_reducible rfl)
                simp only [Act.put, List.setIfInBounds_toArray, List.set_cons_zero, List.set_cons_succ]
                refine wpAnyH_take (i := 30) (oi := { dst := some 70, op := Op.pick (Operand.tmp 62) (Operand.tmp 69) (Operand.const (Value.bool false)), type := 4, pos := "law.go:70", after := #[{ on := 22, ground := Ground.data }, { on := 29, ground := Ground.data }], guard := none }) (v := ?_) rfl (by kernel_rfl) (by kernel_rfl) (by kernel_rfl) (fun _ _ _ h => h) (Or.inl ⟨by rfl, ?_⟩) hHeld ?_
                rotate_left
                · intro w hSw; (try dsimp only at hSw); go_simp; (try with_reducible rfl)
                simp only [Act.put, List.setIfInBounds_toArray, List.set_cons_zero, List.set_cons_succ]
                refine wpAnyH_take (i := 31) (oi := { dst := some 6, op := Op.assign (Operand.tmp 70), type := 4, pos := "law.go:70", after := #[{ on := 30, ground := Ground.data }, { on := 28, ground := Ground.chain }, { on := 0, ground := Ground.phase }, { on := 1, ground := Ground.phase }, { on := 2, ground := Ground.phase }, { on := 3, ground := Ground.phase }, { on := 4, ground := Ground.phase }, { on := 5, ground := Ground.phase }, { on := 6, ground := Ground.phase }, { on := 7, ground := Ground.phase }, { on := 8, ground := Ground.phase }, { on := 9, ground := Ground.phase }, { on := 10, ground := Ground.phase }, { on := 11, ground := Ground.phase }, { on := 12, ground := Ground.phase }, { on := 13, ground := Ground.phase }, { on := 14, ground := Ground.phase }, { on := 15, ground := Ground.phase }, { on := 16, ground := Ground.phase }, { on := 17, ground := Ground.phase }, { on := 18, ground := Ground.phase }, { on := 19, ground := Ground.phase }, { on := 20, ground := Ground.phase }, { on := 21, ground := Ground.phase }, { on := 22, ground := Ground.phase }, { on := 23, ground := Ground.phase }, { on := 24, ground := Ground.phase }, { on := 25, ground := Ground.phase }, { on := 26, ground := Ground.phase }, { on := 27, ground := Ground.phase }, { on := 28, ground := Ground.phase }, { on := 29, ground := Ground.phase }, { on := 30, ground := Ground.phase }], guard := none }) (v := ?_) rfl (by kernel_rfl) (by kernel_rfl) (by kernel_rfl) (fun _ _ _ h => h) (Or.inl ⟨by rfl, ?_⟩) hHeld ?_
                rotate_left
                · intro w hSw; (try dsimp only at hSw); go_simp; (try with_reducible rfl)
                simp only [Act.put, List.setIfInBounds_toArray, List.set_cons_zero, List.set_cons_succ]
                refine wpAnyH_done (by kernel_rfl) ?_ _
                go_wp2_with fail
                go_ret
                exact ⟨ret_bool (by first | rfl | simp), B6.out.trans (C6.mono B6.out.size)⟩
              | true =>
                have Hwa := hid wa
                clear wa
                have ca : ¬ ((la.length : Int) > 100) := by omega
                have cb : ¬ ((lb.length : Int) > 100) := by omega
                go_enter Tryd.func7, Tryd.ntmps7
                obtain ⟨x1, x2⟩ := X0.out.1
                go_wp2_with (go_at_call 8; refine stopHere ?_)
                refine stopAt ?_
                refine (fixed_any _ (HT.out.below B0.out)).mono ?_
                rintro e w1 ⟨rfl, hb⟩
                have B1 := hid (B0.out.trans (hb.mono B0.out.size))
                have Ta1 := hid (Ta0.out.bel hb)
                have Tb1 := hid (Tb0.out.bel hb)
                have X1 := hid (cells_bel X0.out hb)
                clear B0 Ta0 Tb0 X0 hb x1 x2
                obtain ⟨x1, x2⟩ := X1.out.1
                go_wp2_with (go_at_call 12; refine stopHere ?_)
                refine stopAt ?_
                refine (may_any _ _ la Ta1.out (by omega)).mono ?_
                rw [Hya.out]
                rintro e w2 ⟨rfl, hg⟩
                have hb := hg.below
                have B2 := hid (B1.out.trans (hb.mono B1.out.size))
                have Ta2 := hid (Ta1.out.bel hb)
                have Tb2 := hid (Tb1.out.bel hb)
                have X2 := hid (cells_bel X1.out hb)
                clear B1 Ta1 Tb1 X1 hb hg x1 x2
                obtain ⟨x1, x2⟩ := X2.out.1
                go_wp2_with (go_at_call 12; refine stopHere ?_)
                refine stopAt ?_
                refine (may_any _ _ lb Tb2.out (by omega)).mono ?_
                rw [Hyb.out]
                rintro e w3 ⟨rfl, hg⟩
                have hb := hg.below
                have B3 := hid (B2.out.trans (hb.mono B2.out.size))
                have Ta3 := hid (Ta2.out.bel hb)
                have Tb3 := hid (Tb2.out.bel hb)
                have X3 := hid (cells_bel X2.out hb)
                clear B2 Ta2 Tb2 X2 hb hg x1 x2
                have Tx4 := hid (atAt_new w3 [x] (by simp) (by intro y hy; simp at hy; subst hy; exact HXR.out))
                have B4 := hid (B3.out.alloc B3.out.size (.cells (([x] : List M.Atm).flatMap ac).toArray 24))
                have hba := ((Gr.refl w3).alloc (.cells (([x] : List M.Atm).flatMap ac).toArray 24)).below
                have Ta4 := hid (Ta3.out.bel hba)
                have Tb4 := hid (Tb3.out.bel hba)
                have X4 := hid (cells_bel X3.out hba)
                clear hba B3 Ta3 Tb3
                obtain ⟨x1, x2⟩ := X3.out.1
                go_wp2_with (go_at_call 12; refine stopHere ?_)
                refine stopAt ?_
                refine (may_any _ _ [x] Tx4.out (by omega)).mono ?_
                clear X3
                rw [Hyx.out]
                rintro e w5 ⟨rfl, hg⟩
                have hb := hg.below
                have B5 := hid (B4.out.trans (hb.mono B4.out.size))
                have Ta5 := hid (Ta4.out.bel hb)
                have Tb5 := hid (Tb4.out.bel hb)
                have Tx5 := hid (Tx4.out.bel hb)
                have X5 := hid (cells_bel X4.out hb)
                clear B4 Ta4 Tb4 Tx4 X4 hb hg x1 x2
                obtain ⟨x1, x2⟩ := X5.out.1
                go_wp2_with (go_at_call 14; refine stopHere ?_)
                refine stopAt ?_
                refine (union_any _ _ _ la lb Ta5.out Tb5.out (by omega) (by omega)).mono ?_
                rintro e w6 ⟨v6, rfl, hA, hb⟩
                rw [HU.out] at hA
                have B6 := hid (B5.out.trans (hb.mono B5.out.size))
                have Ta6 := hid (Ta5.out.bel hb)
                have Tb6 := hid (Tb5.out.bel hb)
                have X6 := hid (cells_bel X5.out hb)
                have Tu6 := hid hA
                obtain ⟨q6, m6, rfl⟩ := hA.form
                clear B5 Ta5 Tb5 X5 hA hb x1 x2
                have KH : Hid (∀ W, Below w6.heap.size w6 W → W.cell? ⟨w.heap.size, 0, none⟩ = some (.int .i64 x.k) ∧ W.cell? ⟨w.heap.size, 1, none⟩ = some (.int .i64 x.n)) := fun W hW => (cells_bel X6.out hW).1
                have P1 : Hid (∀ W, Below w6.heap.size w6 W → Calls Tryd.prog 18 #[.slice q6 lu.length m6, .agg #[.int .i64 x.k, .int .i64 x.n]] W fun e w' => e = .returned (.bool true) ∧ Below w6.heap.size w6 w') := fun W hW => by
                  refine (has_any W _ lu x (Tu6.out.bel hW) (by omega)).mono fun e w' ⟨h1, h2⟩ => ⟨by rw [h1, show M.has lu x = true by rw [E1.out, Hha.out]; rfl], ?_⟩
                  exact hW.trans (h2.mono hW.size)
                have P2 : Hid (∀ W, Below w6.heap.size w6 W → Calls Tryd.prog 18 #[.slice qa la.length ma, .agg #[.int .i64 x.k, .int .i64 x.n]] W fun e w' => e = .returned (.bool true) ∧ Below w6.heap.size w6 w') := fun W hW => by
                  refine (has_any W _ la x (Ta6.out.bel hW) (by omega)).mono fun e w' ⟨h1, h2⟩ => ⟨by rw [h1, Hha.out], ?_⟩
                  exact hW.trans (h2.mono hW.size)
                have P4 : Hid (∀ W, Below w6.heap.size w6 W → Calls Tryd.prog 16 #[.slice (some ⟨W.heap.size, 0, none⟩) 1 1, .slice qa la.length ma] (W.alloc (.cells #[.int .i64 x.k, .int .i64 x.n] 24)) fun e w' => e = .returned (.bool true) ∧ Below w6.heap.size w6 w') := fun W hW => by
                  refine (within_any _ _ _ [x] la (atAt_new W [x] (by simp) (by intro y hy; simp at hy; subst hy; exact HXR.out)) (Ta6.out.bel (hW.alloc hW.size _)) (by simp) (by omega)).mono fun e w' ⟨h1, h2⟩ => ⟨by rw [h1, M.within_one, Hha.out], ?_⟩
                  exact (hW.alloc hW.size _).trans (h2.mono (hW.alloc hW.size _).size)
                have P5 : Hid (∀ W, Below w6.heap.size w6 W → Calls Tryd.prog 16 #[.slice q6 lu.length m6, .slice qb lb.length mb] W fun e w' => e = .returned (.bool true) ∧ Below w6.heap.size w6 w') := fun W hW => by
                  refine (within_any W _ _ lu lb (Tu6.out.bel hW) (Tb6.out.bel hW) (by omega) (by omega)).mono fun e w' ⟨h1, h2⟩ => ⟨by rw [h1, E2.out, Hwa.out], ?_⟩
                  exact hW.trans (h2.mono hW.size)
                have P6 : Hid (∀ W, Below w6.heap.size w6 W → Calls Tryd.prog 16 #[.slice qa la.length ma, .slice qb lb.length mb] W fun e w' => e = .returned (.bool true) ∧ Below w6.heap.size w6 w') := fun W hW => by
                  refine (within_any W _ _ la lb (Ta6.out.bel hW) (Tb6.out.bel hW) (by omega) (by omega)).mono fun e w' ⟨h1, h2⟩ => ⟨by rw [h1, Hwa.out], ?_⟩
                  exact hW.trans (h2.mono hW.size)
                clear Ta6 Tb6 Tu6
                go_wp2_with fail
                refine wp_region_held_drew (S := (fun w' => w'.cell? ⟨w.heap.size, 0, none⟩ = some (.int .i64 x.k) ∧ w'.cell? ⟨w.heap.size, 1, none⟩ = some (.int .i64 x.n))) (by kernel_rfl) (KH.out _ (Below.refl _ _).drew) (fun hHeld => ?_)
                refine wpAnyH_take (i := 0) (oi := { dst := some 40, op := Op.move (Operand.tmp 7), type := 22, pos := "law.go:70", after := #[], guard := none }) (v := ?_) rfl (by kernel_rfl) (by kernel_rfl) (by kernel_rfl) (fun _ _ _ h => h) (Or.inl ⟨by rfl, ?_⟩) hHeld ?_
                rotate_left
                · intro w hSw; (try dsimp only at hSw); go_simp; (try with_reducible rfl)
                simp only [Act.put, List.setIfInBounds_toArray, List.set_cons_zero, List.set_cons_succ]
                refine wpAnyH_take (i := 1) (oi := { dst := some 41, op := Op.load 24 (Operand.tmp 5), type := 24, pos := "law.go:70", after := #[], guard := none }) (v := ?_) rfl (by kernel_rfl) (by kernel_rfl) (by kernel_rfl) (fun _ _ _ h => h) (Or.inl ⟨by rfl, ?_⟩) hHeld ?_
                rotate_left
                · intro w hSw; (try dsimp only at hSw); go_simp; (try with_reducible rfl)
                simp only [Act.put, List.setIfInBounds_toArray, List.set_cons_zero, List.set_cons_succ]
                refine wpAnyH_take (i := 3) (oi := { dst := some 43, op := Op.move (Operand.tmp 0), type := 22, pos := "law.go:70", after := #[], guard := none }) (v := ?_) rfl (by kernel_rfl) (by kernel_rfl) (by kernel_rfl) (fun _ _ _ h => h) (Or.inl ⟨by rfl, ?_⟩) hHeld ?_
                rotate_left
                · intro w hSw; (try dsimp only at hSw); go_simp; (try with_reducible rfl)
                simp only [Act.put, List.setIfInBounds_toArray, List.set_cons_zero, List.set_cons_succ]
                refine wpAnyH_take (i := 4) (oi := { dst := some 44, op := Op.load 24 (Operand.tmp 5), type := 24, pos := "law.go:70", after := #[], guard := none }) (v := ?_) rfl (by kernel_rfl) (by kernel_rfl) (by kernel_rfl) (fun _ _ _ h => h) (Or.inl ⟨by rfl, ?_⟩) hHeld ?_
                rotate_left
                · intro w hSw; (try dsimp only at hSw); go_simp; (try with_reducible rfl)
                simp only [Act.put, List.setIfInBounds_toArray, List.set_cons_zero, List.set_cons_succ]
                refine wpAnyH_ready (rs := [2]) (by kernel_rfl) (by simp) ?_
                refine AllReadyH.cons (o := { dst := some 42, op := Op.call { callee := Callee.value (Operand.func 18), args := #[Operand.tmp 40, Operand.tmp 41], argTypes := #[22, 24] }, type := 4, pos := "law.go:70", after := #[{ on := 0, ground := Ground.data }, { on := 1, ground := Ground.data }], guard := none }) rfl (fun K hK => ?_) AllReadyH.nil
                go_simp
                refine (P1.out _ (Below.refl _ _).drew).mono ?_
                rintro e z1 ⟨rfl, C1⟩
                refine hK.out _ _ (KH.out _ C1) (fun hHeld => ?_)
                refine wpAnyH_ready (rs := [5]) (by kernel_rfl) (by simp) ?_
                refine AllReadyH.cons (o := { dst := some 45, op := Op.call { callee := Callee.value (Operand.func 18), args := #[Operand.tmp 43, Operand.tmp 44], argTypes := #[22, 24] }, type := 4, pos := "law.go:70", after := #[{ on := 3, ground := Ground.data }, { on := 4, ground := Ground.data }, { on := 2, ground := Ground.chain }], guard := none }) rfl (fun K hK => ?_) AllReadyH.nil
                go_simp
                refine (P2.out _ C1).mono ?_
                rintro e z2 ⟨rfl, C2⟩
                refine hK.out _ _ (KH.out _ C2) (fun hHeld => ?_)
                refine wpAnyH_take (i := 6) (oi := { dst := some 46, op := Op.move (Operand.tmp 45), type := 4, pos := "law.go:70", after := #[{ on := 5, ground := Ground.data }, { on := 5, ground := Ground.chain }], guard := none }) (v := ?_) rfl (by kernel_rfl) (by kernel_rfl) (by kernel_rfl) (fun _ _ _ h => h) (Or.inl ⟨by rfl, ?_⟩) hHeld ?_
                rotate_left
                · intro w hSw; (try dsimp only at hSw); go_simp; (try with_reducible rfl)
                simp only [Act.put, List.setIfInBounds_toArray, List.set_cons_zero, List.set_cons_succ]
                refine wpAnyH_take (i := 7) (oi := { dst := some 47, op := Op.move (Operand.tmp 1), type := 22, pos := "law.go:70", after := #[{ on := 6, ground := Ground.guard }], guard := some (6, false) }) (v := undef) rfl (by kernel_rfl) (by kernel_rfl) (by kernel_rfl) (fun _ _ _ h => h) (Or.inr ⟨by rfl, rfl⟩) hHeld ?_
                simp only [Act.put, List.setIfInBounds_toArray, List.set_cons_zero, List.set_cons_succ]
                refine wpAnyH_take (i := 8) (oi := { dst := some 48, op := Op.load 24 (Operand.tmp 5), type := 24, pos := "law.go:70", after := #[{ on := 6, ground := Ground.guard }], guard := some (6, false) }) (v := undef) rfl (by kernel_rfl) (by kernel_rfl) (by kernel_rfl) (fun _ _ _ h => h) (Or.inr ⟨by rfl, rfl⟩) hHeld ?_
                simp only [Act.put, List.setIfInBounds_toArray, List.set_cons_zero, List.set_cons_succ]
                refine wpAnyH_take (i := 9) (oi := { dst := some 49, op := Op.call { callee := Callee.value (Operand.func 18), args := #[Operand.tmp 47, Operand.tmp 48], argTypes := #[22, 24] }, type := 4, pos := "law.go:70", after := #[{ on := 7, ground := Ground.data }, { on := 8, ground := Ground.data }, { on := 6, ground := Ground.chain }, { on := 6, ground := Ground.guard }], guard := some (6, false) }) (v := undef) rfl (by kernel_rfl) (by kernel_rfl) (by kernel_rfl) (fun _ _ _ h => h) (Or.inr ⟨by rfl, rfl⟩) hHeld ?_
                simp only [Act.put, List.setIfInBounds_toArray, List.set_cons_zero, List.set_cons_succ]
                refine wpAnyH_take (i := 10) (oi := { dst := some 50, op := Op.pick (Operand.tmp 46) (Operand.const (Value.bool true)) (Operand.tmp 49), type := 4, pos := "law.go:70", after := #[{ on := 6, ground := Ground.data }, { on := 9, ground := Ground.data }], guard := none }) (v := ?_) rfl (by kernel_rfl) (by kernel_rfl) (by kernel_rfl) (fun _ _ _ h => h) (Or.inl ⟨by rfl, ?_⟩) hHeld ?_
                rotate_left
                · intro w hSw; (try dsimp only at hSw); go_simp; (try with_reducible rfl)
                simp only [Act.put, List.setIfInBounds_toArray, List.set_cons_zero, List.set_cons_succ]
                refine wpAnyH_take (i := 11) (oi := { dst := some 51, op := Op.binOp BinOp.eql 4 (Operand.tmp 42) (Operand.tmp 50) 4, type := 4, pos := "law.go:70", after := #[{ on := 2, ground := Ground.data }, { on := 10, ground := Ground.data }], guard := none }) (v := ?_) rfl (by kernel_rfl) (by kernel_rfl) (by kernel_rfl) (fun _ _ _ h => h) (Or.inl ⟨by rfl, ?_⟩) hHeld ?_
                rotate_left
                · intro w hSw; (try dsimp only at hSw); go_simp; (try with_reducible rfl)
                simp only [Act.put, List.setIfInBounds_toArray, List.set_cons_zero, List.set_cons_succ]
                refine wpAnyH_take (i := 12) (oi := { dst := some 52, op := Op.move (Operand.tmp 51), type := 4, pos := "law.go:70", after := #[{ on := 11, ground := Ground.data }, { on := 9, ground := Ground.chain }], guard := none }) (v := ?_) rfl (by kernel_rfl) (by kernel_rfl) (by kernel_rfl) (fun _ _ _ h => h) (Or.inl ⟨by rfl, ?_⟩) hHeld ?_
                rotate_left
                · intro w hSw; (try dsimp only at hSw); go_simp; (try with_reducible rfl)
                simp only [Act.put, List.setIfInBounds_toArray, List.set_cons_zero, List.set_cons_succ]
                refine wpAnyH_take (i := 13) (oi := { dst := some 53, op := Op.load 24 (Operand.tmp 5), type := 24, pos := "law.go:70", after := #[{ on := 12, ground := Ground.guard }], guard := some (12, true) }) (v := ?_) rfl (by kernel_rfl) (by kernel_rfl) (by kernel_rfl) (fun _ _ _ h => h) (Or.inl ⟨by rfl, ?_⟩) hHeld ?_
                rotate_left
                · intro w hSw; (try dsimp only at hSw); go_simp; (try with_reducible rfl)
                simp only [Act.put, List.setIfInBounds_toArray, List.set_cons_zero, List.set_cons_succ]
                refine wpAnyH_take (i := 15) (oi := { dst := some 55, op := Op.move (Operand.tmp 0), type := 22, pos := "law.go:70", after := #[{ on := 12, ground := Ground.guard }], guard := some (12, true) }) (v := ?_) rfl (by kernel_rfl) (by kernel_rfl) (by kernel_rfl) (fun _ _ _ h => h) (Or.inl ⟨by rfl, ?_⟩) hHeld ?_
                rotate_left
                · intro w hSw; (try dsimp only at hSw); go_simp; (try with_reducible rfl)
                simp only [Act.put, List.setIfInBounds_toArray, List.set_cons_zero, List.set_cons_succ]
                refine wpAnyH_take (i := 17) (oi := { dst := some 57, op := Op.move (Operand.tmp 0), type := 22, pos := "law.go:70", after := #[{ on := 12, ground := Ground.guard }], guard := some (12, true) }) (v := ?_) rfl (by kernel_rfl) (by kernel_rfl) (by kernel_rfl) (fun _ _ _ h => h) (Or.inl ⟨by rfl, ?_⟩) hHeld ?_
                rotate_left
                · intro w hSw; (try dsimp only at hSw); go_simp; (try with_reducible rfl)
                simp only [Act.put, List.setIfInBounds_toArray, List.set_cons_zero, List.set_cons_succ]
                refine wpAnyH_take (i := 18) (oi := { dst := some 58, op := Op.load 24 (Operand.tmp 5), type := 24, pos := "law.go:70", after := #[{ on := 12, ground := Ground.guard }], guard := some (12, true) }) (v := ?_) rfl (by kernel_rfl) (by kernel_rfl) (by kernel_rfl) (fun _ _ _ h => h) (Or.inl ⟨by rfl, ?_⟩) hHeld ?_
                rotate_left
                · intro w hSw; (try dsimp only at hSw); go_simp; (try with_reducible rfl)
                simp only [Act.put, List.setIfInBounds_toArray, List.set_cons_zero, List.set_cons_succ]
                refine wpAnyH_ready (rs := [14]) (by kernel_rfl) (by simp) ?_
                refine AllReadyH.cons (o := { dst := some 54, op := Op.buildSlice 22 1 #[(0, Operand.tmp 53)], type := 22, pos := "law.go:70", after := #[{ on := 13, ground := Ground.data }, { on := 12, ground := Ground.guard }], guard := some (12, true) }) rfl (fun K hK => ?_) AllReadyH.nil
                go_simp
                refine hK.out _ _ (KH.out _ (C2.alloc C2.size _)) (fun hHeld => ?_)
                refine wpAnyH_ready (rs := [16]) (by kernel_rfl) (by simp) ?_
                refine AllReadyH.cons (o := { dst := some 56, op := Op.call { callee := Callee.value (Operand.func 16), args := #[Operand.tmp 54, Operand.tmp 55], argTypes := #[22, 22] }, type := 4, pos := "law.go:70", after := #[{ on := 14, ground := Ground.data }, { on := 15, ground := Ground.data }, { on := 12, ground := Ground.chain }, { on := 12, ground := Ground.guard }], guard := some (12, true) }) rfl (fun K hK => ?_) AllReadyH.nil
                go_simp
                refine (P4.out _ C2).mono ?_
                rintro e z3 ⟨rfl, C3⟩
                refine hK.out _ _ (KH.out _ C3) (fun hHeld => ?_)
                refine wpAnyH_ready (rs := [19]) (by kernel_rfl) (by simp) ?_
                refine AllReadyH.cons (o := { dst := some 59, op := Op.call { callee := Callee.value (Operand.func 18), args := #[Operand.tmp 57, Operand.tmp 58], argTypes := #[22, 24] }, type := 4, pos := "law.go:70", after := #[{ on := 17, ground := Ground.data }, { on := 18, ground := Ground.data }, { on := 16, ground := Ground.chain }, { on := 12, ground := Ground.guard }], guard := some (12, true) }) rfl (fun K hK => ?_) AllReadyH.nil
                go_simp
                refine (P2.out _ C3).mono ?_
                rintro e z4 ⟨rfl, C4⟩
                refine hK.out _ _ (KH.out _ C4) (fun hHeld => ?_)
                refine wpAnyH_take (i := 20) (oi := { dst := some 60, op := Op.binOp BinOp.eql 4 (Operand.tmp 56) (Operand.tmp 59) 4, type := 4, pos := "law.go:70", after := #[{ on := 16, ground := Ground.data }, { on := 19, ground := Ground.data }, { on := 12, ground := Ground.guard }], guard := some (12, true) }) (v := ?_) rfl (by kernel_rfl) (by kernel_rfl) (by kernel_rfl) (fun _ _ _ h => h) (Or.inl ⟨by rfl, ?_⟩) hHeld ?_
                rotate_left
                · intro w hSw; (try dsimp only at hSw); go_simp; (try with_reducible rfl)
                simp only [Act.put, List.setIfInBounds_toArray, List.set_cons_zero, List.set_cons_succ]
                refine wpAnyH_take (i := 21) (oi := { dst := some 61, op := Op.pick (Operand.tmp 52) (Operand.tmp 60) (Operand.const (Value.bool false)), type := 4, pos := "law.go:70", after := #[{ on := 12, ground := Ground.data }, { on := 20, ground := Ground.data }], guard := none }) (v := ?_) rfl (by kernel_rfl) (by kernel_rfl) (by kernel_rfl) (fun _ _ _ h => h) (Or.inl ⟨by rfl, ?_⟩) hHeld ?_
                rotate_left
                · intro w hSw; (try dsimp only at hSw); go_simp; (try with_reducible rfl)
                simp only [Act.put, List.setIfInBounds_toArray, List.set_cons_zero, List.set_cons_succ]
                refine wpAnyH_take (i := 22) (oi := { dst := some 62, op := Op.move (Operand.tmp 61), type := 4, pos := "law.go:70", after := #[{ on := 21, ground := Ground.data }, { on := 19, ground := Ground.chain }], guard := none }) (v := ?_) rfl (by kernel_rfl) (by kernel_rfl) (by kernel_rfl) (fun _ _ _ h => h) (Or.inl ⟨by rfl, ?_⟩) hHeld ?_
                rotate_left
                · intro w hSw; (try dsimp only at hSw); go_simp; (try with_reducible rfl)
                simp only [Act.put, List.setIfInBounds_toArray, List.set_cons_zero, List.set_cons_succ]
                refine wpAnyH_take (i := 23) (oi := { dst := some 63, op := Op.move (Operand.tmp 7), type := 22, pos := "law.go:70", after := #[{ on := 22, ground := Ground.guard }], guard := some (22, true) }) (v := ?_) rfl (by kernel_rfl) (by kernel_rfl) (by kernel_rfl) (fun _ _ _ h => h) (Or.inl ⟨by rfl, ?_⟩) hHeld ?_
                rotate_left
                · intro w hSw; (try dsimp only at hSw); go_simp; (try with_reducible rfl)
                simp only [Act.put, List.setIfInBounds_toArray, List.set_cons_zero, List.set_cons_succ]
                refine wpAnyH_take (i := 24) (oi := { dst := some 64, op := Op.move (Operand.tmp 1), type := 22, pos := "law.go:70", after := #[{ on := 22, ground := Ground.guard }], guard := some (22, true) }) (v := ?_) rfl (by kernel_rfl) (by kernel_rfl) (by kernel_rfl) (fun _ _ _ h => h) (Or.inl ⟨by rfl, ?_⟩) hHeld ?_
                rotate_left
                · intro w hSw; (try dsimp only at hSw); go_simp; (try with_reducible rfl)
                simp only [Act.put, List.setIfInBounds_toArray, List.set_cons_zero, List.set_cons_succ]
                refine wpAnyH_take (i := 26) (oi := { dst := some 66, op := Op.move (Operand.tmp 0), type := 22, pos := "law.go:70", after := #[{ on := 22, ground := Ground.guard }], guard := some (22, true) }) (v := ?_) rfl (by kernel_rfl) (by kernel_rfl) (by kernel_rfl) (fun _ _ _ h => h) (Or.inl ⟨by rfl, ?_⟩) hHeld ?_
                rotate_left
                · intro w hSw; (try dsimp only at hSw); go_simp; (try with_reducible rfl)
                simp only [Act.put, List.setIfInBounds_toArray, List.set_cons_zero, List.set_cons_succ]
                refine wpAnyH_take (i := 27) (oi := { dst := some 67, op := Op.move (Operand.tmp 1), type := 22, pos := "law.go:70", after := #[{ on := 22, ground := Ground.guard }], guard := some (22, true) }) (v := ?_) rfl (by kernel_rfl) (by kernel_rfl) (by kernel_rfl) (fun _ _ _ h => h) (Or.inl ⟨by rfl, ?_⟩) hHeld ?_
                rotate_left
                · intro w hSw; (try dsimp only at hSw); go_simp; (try with_reducible rfl)
                simp only [Act.put, List.setIfInBounds_toArray, List.set_cons_zero, List.set_cons_succ]
                refine wpAnyH_ready (rs := [25]) (by kernel_rfl) (by simp) ?_
                refine AllReadyH.cons (o := { dst := some 65, op := Op.call { callee := Callee.value (Operand.func 16), args := #[Operand.tmp 63, Operand.tmp 64], argTypes := #[22, 22] }, type := 4, pos := "law.go:70", after := #[{ on := 23, ground := Ground.data }, { on := 24, ground := Ground.data }, { on := 22, ground := Ground.chain }, { on := 22, ground := Ground.guard }], guard := some (22, true) }) rfl (fun K hK => ?_) AllReadyH.nil
                go_simp
                refine (P5.out _ C4).mono ?_
                rintro e z5 ⟨rfl, C5⟩
                refine hK.out _ _ (KH.out _ C5) (fun hHeld => ?_)
                refine wpAnyH_ready (rs := [28]) (by kernel_rfl) (by simp) ?_
                refine AllReadyH.cons (o := { dst := some 68, op := Op.call { callee := Callee.value (Operand.func 16), args := #[Operand.tmp 66, Operand.tmp 67], argTypes := #[22, 22] }, type := 4, pos := "law.go:70", after := #[{ on := 26, ground := Ground.data }, { on := 27, ground := Ground.data }, { on := 25, ground := Ground.chain }, { on := 22, ground := Ground.guard }], guard := some (22, true) }) rfl (fun K hK => ?_) AllReadyH.nil
                go_simp
                refine (P6.out _ C5).mono ?_
                rintro e z6 ⟨rfl, C6⟩
                refine hK.out _ _ (KH.out _ C6) (fun hHeld => ?_)
                refine wpAnyH_take (i := 29) (oi := { dst := some 69, op := Op.binOp BinOp.eql 4 (Operand.tmp 65) (Operand.tmp 68) 4, type := 4, pos := "law.go:70", after := #[{ on := 25, ground := Ground.data }, { on := 28, ground := Ground.data }, { on := 22, ground := Ground.guard }], guard := some (22, true) }) (v := ?_) rfl (by kernel_rfl) (by kernel_rfl) (by kernel_rfl) (fun _ _ _ h => h) (Or.inl ⟨by rfl, ?_⟩) hHeld ?_
                rotate_left
                · intro w hSw; (try dsimp only at hSw); go_simp; (try with_reducible rfl)
                simp only [Act.put, List.setIfInBounds_toArray, List.set_cons_zero, List.set_cons_succ]
                refine wpAnyH_take (i := 30) (oi := { dst := some 70, op := Op.pick (Operand.tmp 62) (Operand.tmp 69) (Operand.const (Value.bool false)), type := 4, pos := "law.go:70", after := #[{ on := 22, ground := Ground.data }, { on := 29, ground := Ground.data }], guard := none }) (v := ?_) rfl (by kernel_rfl) (by kernel_rfl) (by kernel_rfl) (fun _ _ _ h => h) (Or.inl ⟨by rfl, ?_⟩) hHeld ?_
                rotate_left
                · intro w hSw; (try dsimp only at hSw); go_simp; (try with_reducible rfl)
                simp only [Act.put, List.setIfInBounds_toArray, List.set_cons_zero, List.set_cons_succ]
                refine wpAnyH_take (i := 31) (oi := { dst := some 6, op := Op.assign (Operand.tmp 70), type := 4, pos := "law.go:70", after := #[{ on := 30, ground := Ground.data }, { on := 28, ground := Ground.chain }, { on := 0, ground := Ground.phase }, { on := 1, ground := Ground.phase }, { on := 2, ground := Ground.phase }, { on := 3, ground := Ground.phase }, { on := 4, ground := Ground.phase }, { on := 5, ground := Ground.phase }, { on := 6, ground := Ground.phase }, { on := 7, ground := Ground.phase }, { on := 8, ground := Ground.phase }, { on := 9, ground := Ground.phase }, { on := 10, ground := Ground.phase }, { on := 11, ground := Ground.phase }, { on := 12, ground := Ground.phase }, { on := 13, ground := Ground.phase }, { on := 14, ground := Ground.phase }, { on := 15, ground := Ground.phase }, { on := 16, ground := Ground.phase }, { on := 17, ground := Ground.phase }, { on := 18, ground := Ground.phase }, { on := 19, ground := Ground.phase }, { on := 20, ground := Ground.phase }, { on := 21, ground := Ground.phase }, { on := 22, ground := Ground.phase }, { on := 23, ground := Ground.phase }, { on := 24, ground := Ground.phase }, { on := 25, ground := Ground.phase }, { on := 26, ground := Ground.phase }, { on := 27, ground := Ground.phase }, { on := 28, ground := Ground.phase }, { on := 29, ground := Ground.phase }, { on := 30, ground := Ground.phase }], guard := none }) (v := ?_) rfl (by kernel_rfl) (by kernel_rfl) (by kernel_rfl) (fun _ _ _ h => h) (Or.inl ⟨by rfl, ?_⟩) hHeld ?_
                rotate_left
                · intro w hSw; (try dsimp only at hSw); go_simp; (try with_reducible rfl)
                simp only [Act.put, List.setIfInBounds_toArray, List.set_cons_zero, List.set_cons_succ]
                refine wpAnyH_done (by kernel_rfl) ?_ _
                go_wp2_with fail
                go_ret
                exact ⟨ret_bool (by first | rfl | simp), B6.out.trans (C6.mono B6.out.size)⟩
    · have cb : ((lb.length : Int) > 100) := by omega
      have ca : ¬ ((la.length : Int) > 100) := by omega
      go_enter Tryd.func7, Tryd.ntmps7
      obtain ⟨x1, x2⟩ := X0.out.1
      go_wp2_with (go_at_call 8; refine stopHere ?_)
      refine stopAt ?_
      refine (fixed_any _ (HT.out.below B0.out)).mono ?_
      rintro e w1 ⟨rfl, hb⟩
      have B1 := hid (B0.out.trans (hb.mono B0.out.size))
      have Ta1 := hid (Ta0.out.bel hb)
      have Tb1 := hid (Tb0.out.bel hb)
      have X1 := hid (cells_bel X0.out hb)
      clear B0 Ta0 Tb0 X0 hb x1 x2
      obtain ⟨x1, x2⟩ := X1.out.1
      go_wp2_with (go_at_call 8; refine stopHere ?_)
      refine stopAt ?_
      refine (fixed_any _ (HT.out.below B1.out)).mono ?_
      rintro e w2 ⟨rfl, hb⟩
      have B2 := hid (B1.out.trans (hb.mono B1.out.size))
      have Ta2 := hid (Ta1.out.bel hb)
      have Tb2 := hid (Tb1.out.bel hb)
      have X2 := hid (cells_bel X1.out hb)
      clear B1 Ta1 Tb1 X1 hb x1 x2
      go_wp2
      go_ret
      exact ⟨rfl, B2.out⟩
  · have ca : ((la.length : Int) > 100) := by omega
    go_enter Tryd.func7, Tryd.ntmps7
    obtain ⟨x1, x2⟩ := X0.out.1
    go_wp2_with (go_at_call 8; refine stopHere ?_)
    refine stopAt ?_
    refine (fixed_any _ (HT.out.below B0.out)).mono ?_
    rintro e w1 ⟨rfl, hb⟩
    have B1 := hid (B0.out.trans (hb.mono B0.out.size))
    have Ta1 := hid (Ta0.out.bel hb)
    have Tb1 := hid (Tb0.out.bel hb)
    have X1 := hid (cells_bel X0.out hb)
    clear B0 Ta0 Tb0 X0 hb x1 x2
    obtain ⟨x1, x2⟩ := X1.out.1
    go_wp2_with (go_at_call 8; refine stopHere ?_)
    refine stopAt ?_
    refine (fixed_any _ (HT.out.below B1.out)).mono ?_
    rintro e w2 ⟨rfl, hb⟩
    have B2 := hid (B1.out.trans (hb.mono B1.out.size))
    have Ta2 := hid (Ta1.out.bel hb)
    have Tb2 := hid (Tb1.out.bel hb)
    have X2 := hid (cells_bel X1.out hb)
    clear B1 Ta1 Tb1 X1 hb x1 x2
    go_wp2
    go_ret
    exact ⟨rfl, B2.out⟩
end AtomsIn
end Go.Proofs.YtabffpecpfopkaaDoor
