/-
  The walk of the law AtomsTells: over atoms that lie in memory the call returns true and leaves all that was there as it was. Conditions: that the table of powers lies as it should.
-/
import Derived.Test.YtabffpecpfopkaaDoorR4
import Derived.Test.YtabffpecpfopkaaDoorB5
set_option linter.unusedVariables false
set_option linter.unusedSimpArgs false
namespace Go.Proofs.YtabffpecpfopkaaDoor
open Go.RowKit Go.Sort
namespace AtomsTells
set_option maxHeartbeats 8000000 in
set_option maxRecDepth 100000 in
theorem walk (w : World) (va vb : Value) (la lb : List M.Atm) (x : M.Atm) (ha : AtAt w va la) (hb : AtAt w vb lb) (hr : InR x.n) (ht : TabW w) :
    Calls Tryd.prog 3 #[va, vb, av x] w fun e w' => e = .returned (.bool true) ∧ Below w.heap.size w w' := by
  have hbx := ((Gr.refl w).alloc (.cells #[.int .i64 x.k, .int .i64 x.n] 24)).below
  have Ta := hid (ha.bel hbx)
  have Tb := hid (hb.bel hbx)
  obtain ⟨qa, ma, rfl⟩ := ha.form
  obtain ⟨qb, mb, rfl⟩ := hb.form
  have HT := hid (ht.below hbx)
  have B0 := hid hbx
  have X0 := hid (new_two w (.int .i64 x.k) (.int .i64 x.n) 24)
  unfold av
  clear ht ha hb hr hbx
  by_cases na : la.length ≤ 200
  · by_cases nb : lb.length ≤ 200
    · skip
      obtain ⟨ln, hln⟩ : ∃ l, M.norm la = l := ⟨_, rfl⟩
      obtain ⟨lu, hlu⟩ : ∃ l, M.norm (la ++ lb) = l := ⟨_, rfl⟩
      obtain ⟨lr, hlr⟩ : ∃ l, M.rename la x.n = l := ⟨_, rfl⟩
      have nn : ln.length ≤ 200 := by rw [← hln]; have := M.norm_length la; omega
      have nu : lu.length ≤ 400 := by rw [← hlu]; have := M.norm_length (la ++ lb); simp at this; omega
      have nr : lr.length ≤ 200 := by rw [← hlr]; have := M.norm_length (la.map (M.ren x.n)); simp at this; unfold M.rename; omega
      obtain ⟨bm, hbm⟩ : ∃ b, M.mayL la = b := ⟨_, rfl⟩
      obtain ⟨bw, hbw⟩ : ∃ b, M.within la lb = b := ⟨_, rfl⟩
      obtain ⟨bh, hbh⟩ : ∃ b, M.has la x = b := ⟨_, rfl⟩
      obtain ⟨st, hst⟩ : ∃ s, bs (M.textB la) = s := ⟨_, rfl⟩
      have F0 : Hid (∀ W, Below (w.alloc (.cells #[.int .i64 x.k, .int .i64 x.n] 24)).heap.size (w.alloc (.cells #[.int .i64 x.k, .int .i64 x.n] 24)) W → Calls Tryd.prog 8 #[] W fun e w' => e = .returned (.bool true) ∧ Below (w.alloc (.cells #[.int .i64 x.k, .int .i64 x.n] 24)).heap.size (w.alloc (.cells #[.int .i64 x.k, .int .i64 x.n] 24)) w') := fun W hW => by
        refine (fixed_any W (HT.out.below hW)).mono fun e w' ⟨h1, h2⟩ => ⟨h1, hW.trans (h2.mono hW.size)⟩
      have P1 : Hid (∀ W, Below (w.alloc (.cells #[.int .i64 x.k, .int .i64 x.n] 24)).heap.size (w.alloc (.cells #[.int .i64 x.k, .int .i64 x.n] 24)) W → Calls Tryd.prog 10 #[.slice qa la.length ma] W fun e w' => ∃ q m, e = .returned (.slice q ln.length m) ∧ AtAt w' (.slice q ln.length m) ln ∧ Below (w.alloc (.cells #[.int .i64 x.k, .int .i64 x.n] 24)).heap.size (w.alloc (.cells #[.int .i64 x.k, .int .i64 x.n] 24)) w' ∧ Below W.heap.size W w') := fun W hW => by
        refine (norm_any W _ la (Ta.out.bel hW) (by omega)).mono fun e w' ⟨v, h1, h2, h3⟩ => ?_
        rw [hln] at h2
        obtain ⟨q, m, rfl⟩ := h2.form
        exact ⟨q, m, h1, h2, hW.trans (h3.mono hW.size), h3⟩
      have P2 : Hid (∀ W, Below (w.alloc (.cells #[.int .i64 x.k, .int .i64 x.n] 24)).heap.size (w.alloc (.cells #[.int .i64 x.k, .int .i64 x.n] 24)) W → Calls Tryd.prog 11 #[.slice qa la.length ma] W fun e w' => ∃ q m, e = .returned (.slice q ln.length m) ∧ AtAt w' (.slice q ln.length m) ln ∧ Below (w.alloc (.cells #[.int .i64 x.k, .int .i64 x.n] 24)).heap.size (w.alloc (.cells #[.int .i64 x.k, .int .i64 x.n] 24)) w' ∧ Below W.heap.size W w') := fun W hW => by
        refine (rnorm_any W _ la (Ta.out.bel hW) (by omega)).mono fun e w' ⟨v, h1, h2, h3⟩ => ?_
        rw [hln] at h2
        obtain ⟨q, m, rfl⟩ := h2.form
        exact ⟨q, m, h1, h2, hW.trans (h3.mono hW.size), h3⟩
      have S1 : Hid (∀ W q m q' m', AtAt W (.slice q ln.length m) ln → AtAt W (.slice q' ln.length m') ln → Below (w.alloc (.cells #[.int .i64 x.k, .int .i64 x.n] 24)).heap.size (w.alloc (.cells #[.int .i64 x.k, .int .i64 x.n] 24)) W → Calls Tryd.prog 9 #[.slice q ln.length m, .slice q' ln.length m'] W fun e w' => e = .returned (.bool true) ∧ Below (w.alloc (.cells #[.int .i64 x.k, .int .i64 x.n] 24)).heap.size (w.alloc (.cells #[.int .i64 x.k, .int .i64 x.n] 24)) w') := fun W q m q' m' hA hB hW => by
        refine (same_any W _ _ ln ln hA hB (by omega)).mono fun e w' ⟨h1, h2⟩ => ⟨by rw [h1, show M.sameB ln ln = true from decide_eq_true rfl], hW.trans (h2.mono hW.size)⟩
      have M1 : Hid (∀ W, Below (w.alloc (.cells #[.int .i64 x.k, .int .i64 x.n] 24)).heap.size (w.alloc (.cells #[.int .i64 x.k, .int .i64 x.n] 24)) W → Calls Tryd.prog 12 #[.slice qa la.length ma] W fun e w' => e = .returned (.bool bm) ∧ Below (w.alloc (.cells #[.int .i64 x.k, .int .i64 x.n] 24)).heap.size (w.alloc (.cells #[.int .i64 x.k, .int .i64 x.n] 24)) w') := fun W hW => by
        refine (may_any W _ la (Ta.out.bel hW) (by omega)).mono fun e w' ⟨h1, h2⟩ => ⟨by rw [h1, hbm], hW.trans (h2.below.mono hW.size)⟩
      have M2 : Hid (∀ W, Below (w.alloc (.cells #[.int .i64 x.k, .int .i64 x.n] 24)).heap.size (w.alloc (.cells #[.int .i64 x.k, .int .i64 x.n] 24)) W → Calls Tryd.prog 13 #[.slice qa la.length ma] W fun e w' => e = .returned (.bool bm) ∧ Below (w.alloc (.cells #[.int .i64 x.k, .int .i64 x.n] 24)).heap.size (w.alloc (.cells #[.int .i64 x.k, .int .i64 x.n] 24)) w') := fun W hW => by
        refine (rmay_any W _ la (Ta.out.bel hW) (by omega)).mono fun e w' ⟨h1, h2⟩ => ⟨by rw [h1, hbm], hW.trans (h2.mono hW.size)⟩
      have U1 : Hid (∀ W, Below (w.alloc (.cells #[.int .i64 x.k, .int .i64 x.n] 24)).heap.size (w.alloc (.cells #[.int .i64 x.k, .int .i64 x.n] 24)) W → Calls Tryd.prog 14 #[.slice qa la.length ma, .slice qb lb.length mb] W fun e w' => ∃ q m, e = .returned (.slice q lu.length m) ∧ AtAt w' (.slice q lu.length m) lu ∧ Below (w.alloc (.cells #[.int .i64 x.k, .int .i64 x.n] 24)).heap.size (w.alloc (.cells #[.int .i64 x.k, .int .i64 x.n] 24)) w' ∧ Below W.heap.size W w') := fun W hW => by
        refine (union_any W _ _ la lb (Ta.out.bel hW) (Tb.out.bel hW) (by omega) (by omega)).mono fun e w' ⟨v, h1, h2, h3⟩ => ?_
        rw [hlu] at h2
        obtain ⟨q, m, rfl⟩ := h2.form
        exact ⟨q, m, h1, h2, hW.trans (h3.mono hW.size), h3⟩
      have U2 : Hid (∀ W, Below (w.alloc (.cells #[.int .i64 x.k, .int .i64 x.n] 24)).heap.size (w.alloc (.cells #[.int .i64 x.k, .int .i64 x.n] 24)) W → Calls Tryd.prog 15 #[.slice qa la.length ma, .slice qb lb.length mb] W fun e w' => ∃ q m, e = .returned (.slice q lu.length m) ∧ AtAt w' (.slice q lu.length m) lu ∧ Below (w.alloc (.cells #[.int .i64 x.k, .int .i64 x.n] 24)).heap.size (w.alloc (.cells #[.int .i64 x.k, .int .i64 x.n] 24)) w' ∧ Below W.heap.size W w') := fun W hW => by
        refine (runion_any W _ _ la lb (Ta.out.bel hW) (Tb.out.bel hW) (by omega) (by omega)).mono fun e w' ⟨v, h1, h2, h3⟩ => ?_
        rw [hlu] at h2
        obtain ⟨q, m, rfl⟩ := h2.form
        exact ⟨q, m, h1, h2, hW.trans (h3.mono hW.size), h3⟩
      have S2 : Hid (∀ W q m q' m', AtAt W (.slice q lu.length m) lu → AtAt W (.slice q' lu.length m') lu → Below (w.alloc (.cells #[.int .i64 x.k, .int .i64 x.n] 24)).heap.size (w.alloc (.cells #[.int .i64 x.k, .int .i64 x.n] 24)) W → Calls Tryd.prog 9 #[.slice q lu.length m, .slice q' lu.length m'] W fun e w' => e = .returned (.bool true) ∧ Below (w.alloc (.cells #[.int .i64 x.k, .int .i64 x.n] 24)).heap.size (w.alloc (.cells #[.int .i64 x.k, .int .i64 x.n] 24)) w') := fun W q m q' m' hA hB hW => by
        refine (same_any W _ _ lu lu hA hB (by omega)).mono fun e w' ⟨h1, h2⟩ => ⟨by rw [h1, show M.sameB lu lu = true from decide_eq_true rfl], hW.trans (h2.mono hW.size)⟩
      have W1 : Hid (∀ W, Below (w.alloc (.cells #[.int .i64 x.k, .int .i64 x.n] 24)).heap.size (w.alloc (.cells #[.int .i64 x.k, .int .i64 x.n] 24)) W → Calls Tryd.prog 16 #[.slice qa la.length ma, .slice qb lb.length mb] W fun e w' => e = .returned (.bool bw) ∧ Below (w.alloc (.cells #[.int .i64 x.k, .int .i64 x.n] 24)).heap.size (w.alloc (.cells #[.int .i64 x.k, .int .i64 x.n] 24)) w') := fun W hW => by
        refine (within_any W _ _ la lb (Ta.out.bel hW) (Tb.out.bel hW) (by omega) (by omega)).mono fun e w' ⟨h1, h2⟩ => ⟨by rw [h1, hbw], hW.trans (h2.mono hW.size)⟩
      have W2 : Hid (∀ W, Below (w.alloc (.cells #[.int .i64 x.k, .int .i64 x.n] 24)).heap.size (w.alloc (.cells #[.int .i64 x.k, .int .i64 x.n] 24)) W → Calls Tryd.prog 17 #[.slice qa la.length ma, .slice qb lb.length mb] W fun e w' => e = .returned (.bool bw) ∧ Below (w.alloc (.cells #[.int .i64 x.k, .int .i64 x.n] 24)).heap.size (w.alloc (.cells #[.int .i64 x.k, .int .i64 x.n] 24)) w') := fun W hW => by
        refine (rwithin_any W _ _ la lb (Ta.out.bel hW) (Tb.out.bel hW) (by omega) (by omega)).mono fun e w' ⟨h1, h2⟩ => ⟨by rw [h1, hbw], hW.trans (h2.mono hW.size)⟩
      have H1 : Hid (∀ W, Below (w.alloc (.cells #[.int .i64 x.k, .int .i64 x.n] 24)).heap.size (w.alloc (.cells #[.int .i64 x.k, .int .i64 x.n] 24)) W → Calls Tryd.prog 18 #[.slice qa la.length ma, .agg #[.int .i64 x.k, .int .i64 x.n]] W fun e w' => e = .returned (.bool bh) ∧ Below (w.alloc (.cells #[.int .i64 x.k, .int .i64 x.n] 24)).heap.size (w.alloc (.cells #[.int .i64 x.k, .int .i64 x.n] 24)) w') := fun W hW => by
        refine (has_any W _ la x (Ta.out.bel hW) (by omega)).mono fun e w' ⟨h1, h2⟩ => ⟨by rw [h1, hbh], hW.trans (h2.mono hW.size)⟩
      have H2 : Hid (∀ W, Below (w.alloc (.cells #[.int .i64 x.k, .int .i64 x.n] 24)).heap.size (w.alloc (.cells #[.int .i64 x.k, .int .i64 x.n] 24)) W → Calls Tryd.prog 19 #[.slice qa la.length ma, .agg #[.int .i64 x.k, .int .i64 x.n]] W fun e w' => e = .returned (.bool bh) ∧ Below (w.alloc (.cells #[.int .i64 x.k, .int .i64 x.n] 24)).heap.size (w.alloc (.cells #[.int .i64 x.k, .int .i64 x.n] 24)) w') := fun W hW => by
        refine (rhas_any W _ la x (Ta.out.bel hW) (by omega)).mono fun e w' ⟨h1, h2⟩ => ⟨by rw [h1, hbh], hW.trans (h2.below.mono hW.size)⟩
      have N1 : Hid (∀ W, Below (w.alloc (.cells #[.int .i64 x.k, .int .i64 x.n] 24)).heap.size (w.alloc (.cells #[.int .i64 x.k, .int .i64 x.n] 24)) W → Calls Tryd.prog 20 #[.slice qa la.length ma, .int .i64 x.n] W fun e w' => ∃ q m, e = .returned (.slice q lr.length m) ∧ AtAt w' (.slice q lr.length m) lr ∧ Below (w.alloc (.cells #[.int .i64 x.k, .int .i64 x.n] 24)).heap.size (w.alloc (.cells #[.int .i64 x.k, .int .i64 x.n] 24)) w' ∧ Below W.heap.size W w') := fun W hW => by
        refine (rename_any W _ la x.n (Ta.out.bel hW) (by omega)).mono fun e w' ⟨v, h1, h2, h3⟩ => ?_
        rw [hlr] at h2
        obtain ⟨q, m, rfl⟩ := h2.form
        exact ⟨q, m, h1, h2, hW.trans (h3.mono hW.size), h3⟩
      have N2 : Hid (∀ W, Below (w.alloc (.cells #[.int .i64 x.k, .int .i64 x.n] 24)).heap.size (w.alloc (.cells #[.int .i64 x.k, .int .i64 x.n] 24)) W → Calls Tryd.prog 21 #[.slice qa la.length ma, .int .i64 x.n] W fun e w' => ∃ q m, e = .returned (.slice q lr.length m) ∧ AtAt w' (.slice q lr.length m) lr ∧ Below (w.alloc (.cells #[.int .i64 x.k, .int .i64 x.n] 24)).heap.size (w.alloc (.cells #[.int .i64 x.k, .int .i64 x.n] 24)) w' ∧ Below W.heap.size W w') := fun W hW => by
        refine (rrename_any W _ la x.n (Ta.out.bel hW) (by omega)).mono fun e w' ⟨v, h1, h2, h3⟩ => ?_
        rw [hlr] at h2
        obtain ⟨q, m, rfl⟩ := h2.form
        exact ⟨q, m, h1, h2, hW.trans (h3.mono hW.size), h3⟩
      have S3 : Hid (∀ W q m q' m', AtAt W (.slice q lr.length m) lr → AtAt W (.slice q' lr.length m') lr → Below (w.alloc (.cells #[.int .i64 x.k, .int .i64 x.n] 24)).heap.size (w.alloc (.cells #[.int .i64 x.k, .int .i64 x.n] 24)) W → Calls Tryd.prog 9 #[.slice q lr.length m, .slice q' lr.length m'] W fun e w' => e = .returned (.bool true) ∧ Below (w.alloc (.cells #[.int .i64 x.k, .int .i64 x.n] 24)).heap.size (w.alloc (.cells #[.int .i64 x.k, .int .i64 x.n] 24)) w') := fun W q m q' m' hA hB hW => by
        refine (same_any W _ _ lr lr hA hB (by omega)).mono fun e w' ⟨h1, h2⟩ => ⟨by rw [h1, show M.sameB lr lr = true from decide_eq_true rfl], hW.trans (h2.mono hW.size)⟩
      have X1 : Hid (∀ W, Below (w.alloc (.cells #[.int .i64 x.k, .int .i64 x.n] 24)).heap.size (w.alloc (.cells #[.int .i64 x.k, .int .i64 x.n] 24)) W → Calls Tryd.prog 22 #[.slice qa la.length ma] W fun e w' => e = .returned (.string st) ∧ Below (w.alloc (.cells #[.int .i64 x.k, .int .i64 x.n] 24)).heap.size (w.alloc (.cells #[.int .i64 x.k, .int .i64 x.n] 24)) w') := fun W hW => by
        refine (text_any W _ la (Ta.out.bel hW) (by omega) (HT.out.below hW)).mono fun e w' ⟨h1, h2⟩ => ⟨by rw [h1, hst], hW.trans (h2.mono hW.size)⟩
      have X2 : Hid (∀ W, Below (w.alloc (.cells #[.int .i64 x.k, .int .i64 x.n] 24)).heap.size (w.alloc (.cells #[.int .i64 x.k, .int .i64 x.n] 24)) W → Calls Tryd.prog 23 #[.slice qa la.length ma] W fun e w' => e = .returned (.string st) ∧ Below (w.alloc (.cells #[.int .i64 x.k, .int .i64 x.n] 24)).heap.size (w.alloc (.cells #[.int .i64 x.k, .int .i64 x.n] 24)) w') := fun W hW => by
        refine (rtext_any W _ la (Ta.out.bel hW) (by omega)).mono fun e w' ⟨h1, h2⟩ => ⟨by rw [h1, hst], hW.trans (h2.mono hW.size)⟩
      have KH : Hid (∀ W, Below (w.alloc (.cells #[.int .i64 x.k, .int .i64 x.n] 24)).heap.size (w.alloc (.cells #[.int .i64 x.k, .int .i64 x.n] 24)) W → W.cell? ⟨w.heap.size, 0, none⟩ = some (.int .i64 x.k) ∧ W.cell? ⟨w.heap.size, 1, none⟩ = some (.int .i64 x.n)) := fun W hW => ⟨by rw [hW.cell (p := ⟨w.heap.size, 0, none⟩) (by simp)]; exact X0.out.1, by rw [hW.cell (p := ⟨w.heap.size, 1, none⟩) (by simp)]; exact X0.out.2⟩
      have ca : ¬ ((la.length : Int) > 200) := by omega
      have cb : ¬ ((lb.length : Int) > 200) := by omega
      clear hln hlu hlr hbm hbw hbh hst Ta Tb X0
      go_enter Tryd.func3, Tryd.ntmps3
      go_wp2_with fail
      go_region_held3 (fun w' => w'.cell? ⟨w.heap.size, 0, none⟩ = some (.int .i64 x.k) ∧ w'.cell? ⟨w.heap.size, 1, none⟩ = some (.int .i64 x.n)) (first | exact KH.out _ (Below.refl _ _) | exact KH.out _ (Below.refl _ _).drew | exact KH.out _ C1 | exact KH.out _ C2 | exact KH.out _ C3 | exact KH.out _ C4 | exact KH.out _ C5 | exact KH.out _ C6 | exact KH.out _ C7 | exact KH.out _ C8 | exact KH.out _ C9 | exact KH.out _ C10 | exact KH.out _ C11 | exact KH.out _ C12 | exact KH.out _ C13 | exact KH.out _ C14 | exact KH.out _ C15 | exact KH.out _ C16 | exact KH.out _ C17 | exact KH.out _ C18 | go_keep)
        (first
          | (go_at_call 8; with_reducible refine (F0.out _ (Below.refl _ _).drew).mono ?_; rintro e z1 ⟨rfl, C1⟩)
          | (go_at_call 10; with_reducible refine (P1.out _ C1).mono ?_; rintro e z2 ⟨q2, m2, rfl, A2, C2, D2⟩)
          | (go_at_call 11; with_reducible refine (P2.out _ C2).mono ?_; rintro e z3 ⟨q3, m3, rfl, A3, C3, D3⟩)
          | (go_at_call 9; with_reducible refine (S1.out _ _ _ _ _ (A2.bel D3) A3 C3).mono ?_; rintro e z4 ⟨rfl, C4⟩)
          | (go_at_call 12; with_reducible refine (M1.out _ C4).mono ?_; rintro e z5 ⟨rfl, C5⟩)
          | (go_at_call 13; with_reducible refine (M2.out _ C5).mono ?_; rintro e z6 ⟨rfl, C6⟩)
          | (go_at_call 14; with_reducible refine (U1.out _ C6).mono ?_; rintro e z7 ⟨q7, m7, rfl, A7, C7, D7⟩)
          | (go_at_call 15; with_reducible refine (U2.out _ C7).mono ?_; rintro e z8 ⟨q8, m8, rfl, A8, C8, D8⟩)
          | (go_at_call 9; with_reducible refine (S2.out _ _ _ _ _ (A7.bel D8) A8 C8).mono ?_; rintro e z9 ⟨rfl, C9⟩)
          | (go_at_call 16; with_reducible refine (W1.out _ C9).mono ?_; rintro e z10 ⟨rfl, C10⟩)
          | (go_at_call 17; with_reducible refine (W2.out _ C10).mono ?_; rintro e z11 ⟨rfl, C11⟩)
          | (go_at_call 18; with_reducible refine (H1.out _ C11).mono ?_; rintro e z12 ⟨rfl, C12⟩)
          | (go_at_call 19; with_reducible refine (H2.out _ C12).mono ?_; rintro e z13 ⟨rfl, C13⟩)
          | (go_at_call 20; with_reducible refine (N1.out _ C13).mono ?_; rintro e z14 ⟨q14, m14, rfl, A14, C14, D14⟩)
          | (go_at_call 21; with_reducible refine (N2.out _ C14).mono ?_; rintro e z15 ⟨q15, m15, rfl, A15, C15, D15⟩)
          | (go_at_call 9; with_reducible refine (S3.out _ _ _ _ _ (A14.bel D15) A15 C15).mono ?_; rintro e z16 ⟨rfl, C16⟩)
          | (go_at_call 22; with_reducible refine (X1.out _ C16).mono ?_; rintro e z17 ⟨rfl, C17⟩)
          | (go_at_call 23; with_reducible refine (X2.out _ C17).mono ?_; rintro e z18 ⟨rfl, C18⟩))
      all_goals
        go_wp2_with fail
        go_ret
        exact ⟨ret_bool (by first | rfl | simp), B0.out.trans (C18.mono B0.out.size)⟩
    · have cb : ((lb.length : Int) > 200) := by omega
      have ca : ¬ ((la.length : Int) > 200) := by omega
      go_enter Tryd.func3, Tryd.ntmps3
      go_wp2_with (go_at_call 8; refine stopHere ?_)
      refine stopAt ?_
      refine (fixed_any _ HT.out).mono ?_
      rintro e w1 ⟨rfl, hb1⟩
      go_wp2
      go_ret
      exact ⟨rfl, B0.out.trans (hb1.mono B0.out.size)⟩
  · have ca : ((la.length : Int) > 200) := by omega
    go_enter Tryd.func3, Tryd.ntmps3
    go_wp2_with (go_at_call 8; refine stopHere ?_)
    refine stopAt ?_
    refine (fixed_any _ HT.out).mono ?_
    rintro e w1 ⟨rfl, hb1⟩
    go_wp2
    go_ret
    exact ⟨rfl, B0.out.trans (hb1.mono B0.out.size)⟩
end AtomsTells
end Go.Proofs.YtabffpecpfopkaaDoor
