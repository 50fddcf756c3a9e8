/-
  The law of what is written, walked. No conditions.
-/
import Derived.Test.YtcnikcfnfohoeaaS19
import Derived.Test.YtcnikcfnfohoeaaS31
import Derived.Test.YtcnikcfnfohoeaaS17
set_option linter.unusedVariables false
set_option linter.unusedSimpArgs false
namespace Go.Proofs.Ytcnikcfnfohoeaa
open Go.RowKit Go.Sort
namespace M
theorem sameS_me (a : Shp) : sameS a a = true := by simp [sameS]
theorem sm_zero {K : Nat} : Sm K zeroS := ⟨Nat.zero_le _, (fun f hf => by cases hf), Nat.zero_le _⟩
theorem sm_strong_if {s : Shp} {n : ByteArray} {l : List Atm} (h : smallB s = true) (hl : l.length ≤ 60) : Sm 100000 (if mayS s then strongS s n l else zeroS) := by
  split
  · exact sm_with (small_sm h) (by decide) (Nat.le_trans (norm_length l) (Nat.le_trans hl (by decide)))
  · exact sm_zero
theorem vsO_small {s : Shp} {n : ByteArray} (h : smallB s = true) : (vsO (getF s.fs n)).length ≤ 60 := by
  cases hg : getF s.fs n with
  | none => exact Nat.zero_le _
  | some f => exact (small_sm h).2.1 f (getF_mem hg)
theorem sm_weak_if {s : Shp} {n : ByteArray} {l : List Atm} (h : smallB s = true) (hl : l.length ≤ 60) : Sm 100000 (if mayS s then weakS s n l else zeroS) := by
  split
  · refine sm_with (small_sm h) (by decide) (Nat.le_trans (norm_length _) ?_)
    have := vsO_small (n := n) h
    rw [List.length_append]; omega
  · exact sm_zero
theorem sm_ren_if {s : Shp} {k : Int} (h : smallB s = true) : Sm 100000 (if mayS s then renS s k else zeroS) := by
  split
  · exact sm_mono (sm_ren (small_sm h) k) (by decide)
  · exact sm_zero
end M
/-- the first atom, as it lies -/
theorem at_first {w : World} {v : Value} {l : List M.Atm} (h : AtAt w v l) (hp : 0 < l.length) : ∃ b o c k, v = .slice (some ⟨b, o, none⟩) l.length c ∧ b < w.heap.size ∧ w.cell? ⟨b, o + 1, none⟩ = some (.int .i64 k) := by
  obtain ⟨_, a, cap, rfl, h1⟩ := h
  rcases h1 with h1 | ⟨b, o, rfl, hlt, hr, hc⟩
  · subst h1; exact absurd hp (by simp)
  · have := (hc 0 hp).2
    exact ⟨b, o, cap, l[0].n, rfl, hlt, by simpa using this⟩
set_option maxHeartbeats 8000000 in
set_option maxRecDepth 100000 in
theorem writes_law (w : World) (va v : Value) (sa : M.Shp) (n : ByteArray) (l : List M.Atm) (ha : ShAt w va sa) (hv : AtAt w v l) : Calls Try.prog 4 #[va, .string n, v] w fun e w' => e = .returned (.bool true) ∧ Below w.heap.size w w' := by
  have mixed := mixedP
  have B0 := hid (Below.refl w.heap.size w)
  obtain ⟨aa, ca, ba, da, rfl⟩ := ha.form
  have Fa := hid ha
  clear ha
  rcases (Bool.eq_false_or_eq_true (M.smallB sa)).symm with hs | hs
  · obtain ⟨x, y, rfl⟩ := hv.form
    have Fv := hid hv
    clear hv
    have HSM := hid hs
    clear hs
    obtain ⟨V1, hV1⟩ : ∃ W, w.alloc (.cells #[.slice aa sa.fs.length ca, .slice ba sa.pr.length da] 25) = W := ⟨_, rfl⟩
    have hbx : Below w.heap.size w V1 := by rw [← hV1]; exact (gr_new _ _).below
    have Nba : Hid (V1.heap[w.heap.size]? = some (.cells #[.slice aa sa.fs.length ca, .slice ba sa.pr.length da] 25 (0, 0))) := by unfold Hid; rw [← hV1]; exact new_at _ _
    have B2 := hid (B0.out.trans (hbx.mono B0.out.size))
    have Fa2 := hid (Fa.out.bel hbx)
    have Fv2 := hid (Fv.out.bel hbx)
    clear B0 Fa Fv
    clear hbx
    go_enter Try.func4, Try.ntmps4
    obtain ⟨xba0, xba1, _⟩ := cells2 Nba.out
    go_wp2_with (first | (go_at_call 9; refine stopHere ?_))
    refine stopAt ?_
    refine (small_any V1 _ sa Fa2.out).mono ?_
    rw [HSM.out]
    rintro e w3 ⟨rfl, hb⟩
    have B3 := hid (B2.out.trans (hb.mono B2.out.size))
    have Fa3 := hid (Fa2.out.bel hb)
    have Fv3 := hid (Fv2.out.bel hb)
    have Fba3 := hid (bx_bel Nba.out hb)
    clear B2 Fa2 Fv2 Nba
    clear hb xba0 xba1 hV1
    obtain ⟨xba0, xba1, _⟩ := cells2 Fba3.out
    go_wp2_with (first | (go_at_call 10; refine stopHere ?_))
    refine stopAt ?_
    refine (fixed_any w3).mono ?_
    rintro e w4 ⟨rfl, hb⟩
    have B4 := hid (B3.out.trans (hb.mono B3.out.size))
    have Fa4 := hid (Fa3.out.bel hb)
    have Fv4 := hid (Fv3.out.bel hb)
    have Fba4 := hid (bx_bel Fba3.out hb)
    clear B3 Fa3 Fv3 Fba3
    clear hb xba0 xba1
    go_wp2
    go_ret
    exact ⟨rfl, B4.out⟩
  by_cases hl : l.length ≤ 60
  · by_cases hp : 0 < l.length
    · obtain ⟨b0, o0, y, k0, rfl, hlt0, hz0⟩ := at_first hv hp
      have Fv := hid hv
      clear hv
      have HZ0 := hid hz0
      clear hz0
      have HSM := hid hs
      clear hs
      obtain ⟨V1, hV1⟩ : ∃ W, w.alloc (.cells #[.slice aa sa.fs.length ca, .slice ba sa.pr.length da] 25) = W := ⟨_, rfl⟩
      have hbx : Below w.heap.size w V1 := by rw [← hV1]; exact (gr_new _ _).below
      have Nba : Hid (V1.heap[w.heap.size]? = some (.cells #[.slice aa sa.fs.length ca, .slice ba sa.pr.length da] 25 (0, 0))) := by unfold Hid; rw [← hV1]; exact new_at _ _
      have B2 := hid (B0.out.trans (hbx.mono B0.out.size))
      have Fa2 := hid (Fa.out.bel hbx)
      have Fv2 := hid (Fv.out.bel hbx)
      clear B0 Fa Fv
      clear hbx
      go_enter Try.func4, Try.ntmps4
      have KA : Hid (M.Sm 100000 sa) := M.sm_of HSM.out
      have h60 : ¬ ((60 : Int) < ((l.length : Nat) : Int)) := by omega
      have hpos : ((0 : Int) < ((l.length : Nat) : Int)) := by omega
      have HL : Hid (l.length ≤ 60) := hl
      clear hl hp
      have HL2 : Hid (l.length ≤ 100000) := Nat.le_trans HL.out (by decide)
      obtain ⟨tS, htS⟩ : ∃ t, (if M.mayS sa then M.strongS sa n l else M.zeroS) = t := ⟨_, rfl⟩
      have KS : Hid (M.Sm 100000 tS) := by unfold Hid; rw [← htS]; exact M.sm_strong_if HSM.out HL.out
      have HS := hid htS
      have ES := hid (M.sameS_me tS)
      clear htS
      obtain ⟨tW, htW⟩ : ∃ t, (if M.mayS sa then M.weakS sa n l else M.zeroS) = t := ⟨_, rfl⟩
      have KW : Hid (M.Sm 100000 tW) := by unfold Hid; rw [← htW]; exact M.sm_weak_if HSM.out HL.out
      have HW := hid htW
      have EW := hid (M.sameS_me tW)
      clear htW
      obtain ⟨tR, htR⟩ : ∃ t, (if M.mayS sa then M.renS sa k0 else M.zeroS) = t := ⟨_, rfl⟩
      have KR : Hid (M.Sm 100000 tR) := by unfold Hid; rw [← htR]; exact M.sm_ren_if HSM.out
      have HR := hid htR
      have ER := hid (M.sameS_me tR)
      clear htR
      obtain ⟨xba0, xba1, _⟩ := cells2 Nba.out
      go_wp2_with (first | (go_at_call 9; refine stopHere ?_))
      refine stopAt ?_
      refine (small_any V1 _ sa Fa2.out).mono ?_
      rw [HSM.out]
      rintro e w3 ⟨rfl, hb⟩
      have B3 := hid (B2.out.trans (hb.mono B2.out.size))
      have Fa3 := hid (Fa2.out.bel hb)
      have Fv3 := hid (Fv2.out.bel hb)
      have Fba3 := hid (bx_bel Nba.out hb)
      clear B2 Fa2 Fv2 Nba
      clear hb xba0 xba1 hV1
      have hcz : w3.cell? ⟨b0, o0 + 1, none⟩ = some (.int .i64 k0) := (B3.out.cell (p := ⟨b0, o0 + 1, none⟩) hlt0).trans HZ0.out
      obtain ⟨xba0, xba1, _⟩ := cells2 Fba3.out
      go_wp2_with fail
      have KH : Hid (∀ W, Below w3.heap.size w3 W → (W.cell? ⟨w.heap.size, 0, none⟩ = some (.slice aa sa.fs.length ca) ∧ W.cell? ⟨w.heap.size, 1, none⟩ = some (.slice ba sa.pr.length da))) := fun W hb => by
        obtain ⟨yba0, yba1, _⟩ := cells2 (bx_bel Fba3.out hb)
        exact ⟨yba0, yba1⟩
      clear xba0 xba1
      refine wp_region_held_drew (S := fun W => W.cell? ⟨w.heap.size, 0, none⟩ = some (.slice aa sa.fs.length ca) ∧ W.cell? ⟨w.heap.size, 1, none⟩ = some (.slice ba sa.pr.length da)) (by kernel_rfl) (KH.out _ (Below.refl _ _).drew) (fun hHeld => ?_)
      have hbd : Below w3.heap.size w3 w3.drew := (Gr.refl _).drew.below
      have RB0 := hid hbd
      have B4 := hid (B3.out.trans (hbd.mono B3.out.size))
      have Fa4 := hid (Fa3.out.bel hbd)
      have Fv4 := hid (Fv3.out.bel hbd)
      have Fba4 := hid (bx_bel Fba3.out hbd)
      clear B3 Fa3 Fv3 Fba3
      clear hbd
      refine wpAnyH_ready (rs := [0]) (by kernel_rfl) (by simp) ?_
      refine AllReadyH.cons (o := { dst := some 24, op := Op.call { callee := Callee.value (Operand.func 10), args := #[], argTypes := #[] }, type := 4, pos := "law.go:56", after := #[], guard := none }) rfl (fun K hK => ?_) AllReadyH.nil
      go_simp
      refine (fixed_any w3.drew).mono ?_
      rintro e z5 ⟨rfl, hb⟩
      have B5 := hid (B4.out.trans (hb.mono B4.out.size))
      have Fa5 := hid (Fa4.out.bel hb)
      have Fv5 := hid (Fv4.out.bel hb)
      have Fba5 := hid (bx_bel Fba4.out hb)
      have RB5 := hid (RB0.out.trans (hb.mono RB0.out.size))
      clear B4 Fa4 Fv4 Fba4 RB0
      clear hb
      refine hK.out _ _ (KH.out _ RB5.out) (fun hHeld => ?_)
      refine wpAnyH_take (i := 1) (oi := { dst := some 25, op := Op.move (Operand.tmp 24), type := 4, pos := "law.go:56", after := #[{ on := 0, ground := Ground.data }, { on := 0, ground := Ground.chain }], guard := none }) (v := ?_) rfl (by kernel_rfl) (by kernel_rfl) (by kernel_rfl) (fun _ _ _ h => h) (Or.inl ⟨by rfl, ?_⟩) hHeld ?_
      rotate_left
      · intro w hSw; (try dsimp only at hSw); go_simp; (try with_reducible rfl)
      simp only [Act.put, List.setIfInBounds_toArray, List.set_cons_zero, List.set_cons_succ]
      refine wpAnyH_take (i := 2) (oi := { dst := some 26, op := Op.load 25 (Operand.tmp 3), type := 25, pos := "law.go:56", after := #[{ on := 1, ground := Ground.guard }], guard := some (1, true) }) (v := ?_) rfl (by kernel_rfl) (by kernel_rfl) (by kernel_rfl) (fun _ _ _ h => h) (Or.inl ⟨by rfl, ?_⟩) hHeld ?_
      rotate_left
      · intro w hSw; (try dsimp only at hSw); go_simp; (try with_reducible rfl)
      simp only [Act.put, List.setIfInBounds_toArray, List.set_cons_zero, List.set_cons_succ]
      refine wpAnyH_take (i := 3) (oi := { dst := some 27, op := Op.move (Operand.tmp 1), type := 9, pos := "law.go:56", after := #[{ on := 1, ground := Ground.guard }], guard := some (1, true) }) (v := ?_) rfl (by kernel_rfl) (by kernel_rfl) (by kernel_rfl) (fun _ _ _ h => h) (Or.inl ⟨by rfl, ?_⟩) hHeld ?_
      rotate_left
      · intro w hSw; (try dsimp only at hSw); go_simp; (try with_reducible rfl)
      simp only [Act.put, List.setIfInBounds_toArray, List.set_cons_zero, List.set_cons_succ]
      refine wpAnyH_take (i := 4) (oi := { dst := some 28, op := Op.move (Operand.tmp 2), type := 23, pos := "law.go:56", after := #[{ on := 1, ground := Ground.guard }], guard := some (1, true) }) (v := ?_) rfl (by kernel_rfl) (by kernel_rfl) (by kernel_rfl) (fun _ _ _ h => h) (Or.inl ⟨by rfl, ?_⟩) hHeld ?_
      rotate_left
      · intro w hSw; (try dsimp only at hSw); go_simp; (try with_reducible rfl)
      simp only [Act.put, List.setIfInBounds_toArray, List.set_cons_zero, List.set_cons_succ]
      refine wpAnyH_take (i := 6) (oi := { dst := some 30, op := Op.load 25 (Operand.tmp 3), type := 25, pos := "law.go:56", after := #[{ on := 1, ground := Ground.guard }], guard := some (1, true) }) (v := ?_) rfl (by kernel_rfl) (by kernel_rfl) (by kernel_rfl) (fun _ _ _ h => h) (Or.inl ⟨by rfl, ?_⟩) hHeld ?_
      rotate_left
      · intro w hSw; (try dsimp only at hSw); go_simp; (try with_reducible rfl)
      simp only [Act.put, List.setIfInBounds_toArray, List.set_cons_zero, List.set_cons_succ]
      refine wpAnyH_take (i := 7) (oi := { dst := some 31, op := Op.move (Operand.tmp 1), type := 9, pos := "law.go:56", after := #[{ on := 1, ground := Ground.guard }], guard := some (1, true) }) (v := ?_) rfl (by kernel_rfl) (by kernel_rfl) (by kernel_rfl) (fun _ _ _ h => h) (Or.inl ⟨by rfl, ?_⟩) hHeld ?_
      rotate_left
      · intro w hSw; (try dsimp only at hSw); go_simp; (try with_reducible rfl)
      simp only [Act.put, List.setIfInBounds_toArray, List.set_cons_zero, List.set_cons_succ]
      refine wpAnyH_take (i := 8) (oi := { dst := some 32, op := Op.move (Operand.tmp 2), type := 23, pos := "law.go:56", after := #[{ on := 1, ground := Ground.guard }], guard := some (1, true) }) (v := ?_) rfl (by kernel_rfl) (by kernel_rfl) (by kernel_rfl) (fun _ _ _ h => h) (Or.inl ⟨by rfl, ?_⟩) hHeld ?_
      rotate_left
      · intro w hSw; (try dsimp only at hSw); go_simp; (try with_reducible rfl)
      simp only [Act.put, List.setIfInBounds_toArray, List.set_cons_zero, List.set_cons_succ]
      refine wpAnyH_ready (rs := [5]) (by kernel_rfl) (by simp) ?_
      refine AllReadyH.cons (o := { dst := some 29, op := Op.call { callee := Callee.value (Operand.func 21), args := #[Operand.tmp 26, Operand.tmp 27, Operand.tmp 28], argTypes := #[25, 9, 23] }, type := 25, pos := "law.go:56", after := #[{ on := 2, ground := Ground.data }, { on := 3, ground := Ground.data }, { on := 4, ground := Ground.data }, { on := 1, ground := Ground.chain }, { on := 1, ground := Ground.guard }], guard := some (1, true) }) rfl (fun K hK => ?_) AllReadyH.nil
      go_simp
      refine (ostrong_any z5 _ sa n _ l Fa5.out KA.out Fv5.out HL2.out).mono ?_
      rintro e z6 ⟨v6, rfl, hsh, hb⟩
      have B6 := hid (B5.out.trans (hb.mono B5.out.size))
      have Fa6 := hid (Fa5.out.bel hb)
      have Fv6 := hid (Fv5.out.bel hb)
      have Fba6 := hid (bx_bel Fba5.out hb)
      have RB6 := hid (RB5.out.trans (hb.mono RB5.out.size))
      clear B5 Fa5 Fv5 Fba5 RB5
      rw [HS.out] at hsh
      have Fx6 := hid hsh.at
      clear hsh
      clear hb
      refine hK.out _ _ (KH.out _ RB6.out) (fun hHeld => ?_)
      refine wpAnyH_ready (rs := [9]) (by kernel_rfl) (by simp) ?_
      refine AllReadyH.cons (o := { dst := some 33, op := Op.call { callee := Callee.value (Operand.func 22), args := #[Operand.tmp 30, Operand.tmp 31, Operand.tmp 32], argTypes := #[25, 9, 23] }, type := 25, pos := "law.go:56", after := #[{ on := 6, ground := Ground.data }, { on := 7, ground := Ground.data }, { on := 8, ground := Ground.data }, { on := 5, ground := Ground.chain }, { on := 1, ground := Ground.guard }], guard := some (1, true) }) rfl (fun K hK => ?_) AllReadyH.nil
      go_simp
      refine (rstrong_any z6 _ _ sa n l Fa6.out KA.out Fv6.out HL2.out).mono ?_
      rintro e z7 ⟨v7, rfl, hsh, hb⟩
      have B7 := hid (B6.out.trans (hb.mono B6.out.size))
      have Fa7 := hid (Fa6.out.bel hb)
      have Fv7 := hid (Fv6.out.bel hb)
      have Fba7 := hid (bx_bel Fba6.out hb)
      have Fx7 := hid (Fx6.out.bel hb)
      have RB7 := hid (RB6.out.trans (hb.mono RB6.out.size))
      clear B6 Fa6 Fv6 Fba6 Fx6 RB6
      rw [HS.out] at hsh
      have Fy7 := hid hsh
      clear hsh
      clear hb
      refine hK.out _ _ (KH.out _ RB7.out) (fun hHeld => ?_)
      refine wpAnyH_ready (rs := [10]) (by kernel_rfl) (by simp) ?_
      refine AllReadyH.cons (o := { dst := some 34, op := Op.call { callee := Callee.value (Operand.func 16), args := #[Operand.tmp 29, Operand.tmp 33], argTypes := #[25, 25] }, type := 4, pos := "law.go:56", after := #[{ on := 5, ground := Ground.data }, { on := 9, ground := Ground.data }, { on := 9, ground := Ground.chain }, { on := 1, ground := Ground.guard }], guard := some (1, true) }) rfl (fun K hK => ?_) AllReadyH.nil
      go_simp
      refine (rsameS_any z7 _ _ tS tS Fx7.out Fy7.out KS.out).mono ?_
      rw [ES.out]
      rintro e z8 ⟨rfl, hb⟩
      have B8 := hid (B7.out.trans (hb.mono B7.out.size))
      have Fa8 := hid (Fa7.out.bel hb)
      have Fv8 := hid (Fv7.out.bel hb)
      have Fba8 := hid (bx_bel Fba7.out hb)
      have Fx8 := hid (Fx7.out.bel hb)
      have Fy8 := hid (Fy7.out.bel hb)
      have RB8 := hid (RB7.out.trans (hb.mono RB7.out.size))
      clear B7 Fa7 Fv7 Fba7 Fx7 Fy7 RB7
      clear hb
      refine hK.out _ _ (KH.out _ RB8.out) (fun hHeld => ?_)
      refine wpAnyH_take (i := 11) (oi := { dst := some 35, op := Op.pick (Operand.tmp 25) (Operand.tmp 34) (Operand.const (Value.bool false)), type := 4, pos := "law.go:56", after := #[{ on := 1, ground := Ground.data }, { on := 10, ground := Ground.data }], guard := none }) (v := ?_) rfl (by kernel_rfl) (by kernel_rfl) (by kernel_rfl) (fun _ _ _ h => h) (Or.inl ⟨by rfl, ?_⟩) hHeld ?_
      rotate_left
      · intro w hSw; (try dsimp only at hSw); go_simp; (try with_reducible rfl)
      simp only [Act.put, List.setIfInBounds_toArray, List.set_cons_zero, List.set_cons_succ]
      refine wpAnyH_take (i := 12) (oi := { dst := some 36, op := Op.move (Operand.tmp 35), type := 4, pos := "law.go:56", after := #[{ on := 11, ground := Ground.data }, { on := 10, ground := Ground.chain }], guard := none }) (v := ?_) rfl (by kernel_rfl) (by kernel_rfl) (by kernel_rfl) (fun _ _ _ h => h) (Or.inl ⟨by rfl, ?_⟩) hHeld ?_
      rotate_left
      · intro w hSw; (try dsimp only at hSw); go_simp; (try with_reducible rfl)
      simp only [Act.put, List.setIfInBounds_toArray, List.set_cons_zero, List.set_cons_succ]
      refine wpAnyH_take (i := 13) (oi := { dst := some 37, op := Op.load 25 (Operand.tmp 3), type := 25, pos := "law.go:56", after := #[{ on := 12, ground := Ground.guard }], guard := some (12, true) }) (v := ?_) rfl (by kernel_rfl) (by kernel_rfl) (by kernel_rfl) (fun _ _ _ h => h) (Or.inl ⟨by rfl, ?_⟩) hHeld ?_
      rotate_left
      · intro w hSw; (try dsimp only at hSw); go_simp; (try with_reducible rfl)
      simp only [Act.put, List.setIfInBounds_toArray, List.set_cons_zero, List.set_cons_succ]
      refine wpAnyH_take (i := 14) (oi := { dst := some 38, op := Op.move (Operand.tmp 1), type := 9, pos := "law.go:56", after := #[{ on := 12, ground := Ground.guard }], guard := some (12, true) }) (v := ?_) rfl (by kernel_rfl) (by kernel_rfl) (by kernel_rfl) (fun _ _ _ h => h) (Or.inl ⟨by rfl, ?_⟩) hHeld ?_
      rotate_left
      · intro w hSw; (try dsimp only at hSw); go_simp; (try with_reducible rfl)
      simp only [Act.put, List.setIfInBounds_toArray, List.set_cons_zero, List.set_cons_succ]
      refine wpAnyH_take (i := 15) (oi := { dst := some 39, op := Op.move (Operand.tmp 2), type := 23, pos := "law.go:56", after := #[{ on := 12, ground := Ground.guard }], guard := some (12, true) }) (v := ?_) rfl (by kernel_rfl) (by kernel_rfl) (by kernel_rfl) (fun _ _ _ h => h) (Or.inl ⟨by rfl, ?_⟩) hHeld ?_
      rotate_left
      · intro w hSw; (try dsimp only at hSw); go_simp; (try with_reducible rfl)
      simp only [Act.put, List.setIfInBounds_toArray, List.set_cons_zero, List.set_cons_succ]
      refine wpAnyH_take (i := 17) (oi := { dst := some 41, op := Op.load 25 (Operand.tmp 3), type := 25, pos := "law.go:56", after := #[{ on := 12, ground := Ground.guard }], guard := some (12, true) }) (v := ?_) rfl (by kernel_rfl) (by kernel_rfl) (by kernel_rfl) (fun _ _ _ h => h) (Or.inl ⟨by rfl, ?_⟩) hHeld ?_
      rotate_left
      · intro w hSw; (try dsimp only at hSw); go_simp; (try with_reducible rfl)
      simp only [Act.put, List.setIfInBounds_toArray, List.set_cons_zero, List.set_cons_succ]
      refine wpAnyH_take (i := 18) (oi := { dst := some 42, op := Op.move (Operand.tmp 1), type := 9, pos := "law.go:56", after := #[{ on := 12, ground := Ground.guard }], guard := some (12, true) }) (v := ?_) rfl (by kernel_rfl) (by kernel_rfl) (by kernel_rfl) (fun _ _ _ h => h) (Or.inl ⟨by rfl, ?_⟩) hHeld ?_
      rotate_left
      · intro w hSw; (try dsimp only at hSw); go_simp; (try with_reducible rfl)
      simp only [Act.put, List.setIfInBounds_toArray, List.set_cons_zero, List.set_cons_succ]
      refine wpAnyH_take (i := 19) (oi := { dst := some 43, op := Op.move (Operand.tmp 2), type := 23, pos := "law.go:56", after := #[{ on := 12, ground := Ground.guard }], guard := some (12, true) }) (v := ?_) rfl (by kernel_rfl) (by kernel_rfl) (by kernel_rfl) (fun _ _ _ h => h) (Or.inl ⟨by rfl, ?_⟩) hHeld ?_
      rotate_left
      · intro w hSw; (try dsimp only at hSw); go_simp; (try with_reducible rfl)
      simp only [Act.put, List.setIfInBounds_toArray, List.set_cons_zero, List.set_cons_succ]
      refine wpAnyH_ready (rs := [16]) (by kernel_rfl) (by simp) ?_
      refine AllReadyH.cons (o := { dst := some 40, op := Op.call { callee := Callee.value (Operand.func 23), args := #[Operand.tmp 37, Operand.tmp 38, Operand.tmp 39], argTypes := #[25, 9, 23] }, type := 25, pos := "law.go:56", after := #[{ on := 13, ground := Ground.data }, { on := 14, ground := Ground.data }, { on := 15, ground := Ground.data }, { on := 12, ground := Ground.chain }, { on := 12, ground := Ground.guard }], guard := some (12, true) }) rfl (fun K hK => ?_) AllReadyH.nil
      go_simp
      refine (oweak_any z8 _ sa n _ l Fa8.out KA.out Fv8.out HL2.out).mono ?_
      rintro e z9 ⟨v9, rfl, hsh, hb⟩
      have B9 := hid (B8.out.trans (hb.mono B8.out.size))
      have Fa9 := hid (Fa8.out.bel hb)
      have Fv9 := hid (Fv8.out.bel hb)
      have Fba9 := hid (bx_bel Fba8.out hb)
      have RB9 := hid (RB8.out.trans (hb.mono RB8.out.size))
      clear B8 Fa8 Fv8 Fba8 RB8
      rw [HW.out] at hsh
      have Fx9 := hid hsh.at
      clear hsh
      clear hb
      refine hK.out _ _ (KH.out _ RB9.out) (fun hHeld => ?_)
      refine wpAnyH_ready (rs := [20]) (by kernel_rfl) (by simp) ?_
      refine AllReadyH.cons (o := { dst := some 44, op := Op.call { callee := Callee.value (Operand.func 24), args := #[Operand.tmp 41, Operand.tmp 42, Operand.tmp 43], argTypes := #[25, 9, 23] }, type := 25, pos := "law.go:56", after := #[{ on := 17, ground := Ground.data }, { on := 18, ground := Ground.data }, { on := 19, ground := Ground.data }, { on := 16, ground := Ground.chain }, { on := 12, ground := Ground.guard }], guard := some (12, true) }) rfl (fun K hK => ?_) AllReadyH.nil
      go_simp
      refine (rweak_any z9 _ _ sa n l Fa9.out KA.out Fv9.out HL2.out).mono ?_
      rintro e z10 ⟨v10, rfl, hsh, hb⟩
      have B10 := hid (B9.out.trans (hb.mono B9.out.size))
      have Fa10 := hid (Fa9.out.bel hb)
      have Fv10 := hid (Fv9.out.bel hb)
      have Fba10 := hid (bx_bel Fba9.out hb)
      have Fx10 := hid (Fx9.out.bel hb)
      have RB10 := hid (RB9.out.trans (hb.mono RB9.out.size))
      clear B9 Fa9 Fv9 Fba9 Fx9 RB9
      rw [HW.out] at hsh
      have Fy10 := hid hsh
      clear hsh
      clear hb
      refine hK.out _ _ (KH.out _ RB10.out) (fun hHeld => ?_)
      refine wpAnyH_ready (rs := [21]) (by kernel_rfl) (by simp) ?_
      refine AllReadyH.cons (o := { dst := some 45, op := Op.call { callee := Callee.value (Operand.func 16), args := #[Operand.tmp 40, Operand.tmp 44], argTypes := #[25, 25] }, type := 4, pos := "law.go:56", after := #[{ on := 16, ground := Ground.data }, { on := 20, ground := Ground.data }, { on := 20, ground := Ground.chain }, { on := 12, ground := Ground.guard }], guard := some (12, true) }) rfl (fun K hK => ?_) AllReadyH.nil
      go_simp
      refine (rsameS_any z10 _ _ tW tW Fx10.out Fy10.out KW.out).mono ?_
      rw [EW.out]
      rintro e z11 ⟨rfl, hb⟩
      have B11 := hid (B10.out.trans (hb.mono B10.out.size))
      have Fa11 := hid (Fa10.out.bel hb)
      have Fv11 := hid (Fv10.out.bel hb)
      have Fba11 := hid (bx_bel Fba10.out hb)
      have Fx11 := hid (Fx10.out.bel hb)
      have Fy11 := hid (Fy10.out.bel hb)
      have RB11 := hid (RB10.out.trans (hb.mono RB10.out.size))
      clear B10 Fa10 Fv10 Fba10 Fx10 Fy10 RB10
      clear hb
      refine hK.out _ _ (KH.out _ RB11.out) (fun hHeld => ?_)
      refine wpAnyH_take (i := 22) (oi := { dst := some 46, op := Op.pick (Operand.tmp 36) (Operand.tmp 45) (Operand.const (Value.bool false)), type := 4, pos := "law.go:56", after := #[{ on := 12, ground := Ground.data }, { on := 21, ground := Ground.data }], guard := none }) (v := ?_) rfl (by kernel_rfl) (by kernel_rfl) (by kernel_rfl) (fun _ _ _ h => h) (Or.inl ⟨by rfl, ?_⟩) hHeld ?_
      rotate_left
      · intro w hSw; (try dsimp only at hSw); go_simp; (try with_reducible rfl)
      simp only [Act.put, List.setIfInBounds_toArray, List.set_cons_zero, List.set_cons_succ]
      refine wpAnyH_take (i := 23) (oi := { dst := some 47, op := Op.move (Operand.tmp 46), type := 4, pos := "law.go:56", after := #[{ on := 22, ground := Ground.data }, { on := 21, ground := Ground.chain }], guard := none }) (v := ?_) rfl (by kernel_rfl) (by kernel_rfl) (by kernel_rfl) (fun _ _ _ h => h) (Or.inl ⟨by rfl, ?_⟩) hHeld ?_
      rotate_left
      · intro w hSw; (try dsimp only at hSw); go_simp; (try with_reducible rfl)
      simp only [Act.put, List.setIfInBounds_toArray, List.set_cons_zero, List.set_cons_succ]
      refine wpAnyH_take (i := 24) (oi := { dst := some 48, op := Op.load 25 (Operand.tmp 3), type := 25, pos := "law.go:56", after := #[{ on := 23, ground := Ground.guard }], guard := some (23, true) }) (v := ?_) rfl (by kernel_rfl) (by kernel_rfl) (by kernel_rfl) (fun _ _ _ h => h) (Or.inl ⟨by rfl, ?_⟩) hHeld ?_
      rotate_left
      · intro w hSw; (try dsimp only at hSw); go_simp; (try with_reducible rfl)
      simp only [Act.put, List.setIfInBounds_toArray, List.set_cons_zero, List.set_cons_succ]
      refine wpAnyH_take (i := 25) (oi := { dst := some 49, op := Op.move (Operand.tmp 7), type := 3, pos := "law.go:56", after := #[{ on := 23, ground := Ground.guard }], guard := some (23, true) }) (v := ?_) rfl (by kernel_rfl) (by kernel_rfl) (by kernel_rfl) (fun _ _ _ h => h) (Or.inl ⟨by rfl, ?_⟩) hHeld ?_
      rotate_left
      · intro w hSw; (try dsimp only at hSw); go_simp; (try with_reducible rfl)
      simp only [Act.put, List.setIfInBounds_toArray, List.set_cons_zero, List.set_cons_succ]
      refine wpAnyH_take (i := 27) (oi := { dst := some 51, op := Op.load 25 (Operand.tmp 3), type := 25, pos := "law.go:56", after := #[{ on := 23, ground := Ground.guard }], guard := some (23, true) }) (v := ?_) rfl (by kernel_rfl) (by kernel_rfl) (by kernel_rfl) (fun _ _ _ h => h) (Or.inl ⟨by rfl, ?_⟩) hHeld ?_
      rotate_left
      · intro w hSw; (try dsimp only at hSw); go_simp; (try with_reducible rfl)
      simp only [Act.put, List.setIfInBounds_toArray, List.set_cons_zero, List.set_cons_succ]
      refine wpAnyH_take (i := 28) (oi := { dst := some 52, op := Op.move (Operand.tmp 7), type := 3, pos := "law.go:56", after := #[{ on := 23, ground := Ground.guard }], guard := some (23, true) }) (v := ?_) rfl (by kernel_rfl) (by kernel_rfl) (by kernel_rfl) (fun _ _ _ h => h) (Or.inl ⟨by rfl, ?_⟩) hHeld ?_
      rotate_left
      · intro w hSw; (try dsimp only at hSw); go_simp; (try with_reducible rfl)
      simp only [Act.put, List.setIfInBounds_toArray, List.set_cons_zero, List.set_cons_succ]
      refine wpAnyH_ready (rs := [26]) (by kernel_rfl) (by simp) ?_
      refine AllReadyH.cons (o := { dst := some 50, op := Op.call { callee := Callee.value (Operand.func 25), args := #[Operand.tmp 48, Operand.tmp 49], argTypes := #[25, 3] }, type := 25, pos := "law.go:56", after := #[{ on := 24, ground := Ground.data }, { on := 25, ground := Ground.data }, { on := 23, ground := Ground.chain }, { on := 23, ground := Ground.guard }], guard := some (23, true) }) rfl (fun K hK => ?_) AllReadyH.nil
      go_simp
      refine (orename_any z11 _ sa k0 Fa11.out KA.out).mono ?_
      rintro e z12 ⟨v12, rfl, hsh, hb⟩
      have B12 := hid (B11.out.trans (hb.mono B11.out.size))
      have Fa12 := hid (Fa11.out.bel hb)
      have Fv12 := hid (Fv11.out.bel hb)
      have Fba12 := hid (bx_bel Fba11.out hb)
      have RB12 := hid (RB11.out.trans (hb.mono RB11.out.size))
      clear B11 Fa11 Fv11 Fba11 RB11
      rw [HR.out] at hsh
      have Fx12 := hid hsh.at
      clear hsh
      clear hb
      refine hK.out _ _ (KH.out _ RB12.out) (fun hHeld => ?_)
      refine wpAnyH_ready (rs := [29]) (by kernel_rfl) (by simp) ?_
      refine AllReadyH.cons (o := { dst := some 53, op := Op.call { callee := Callee.value (Operand.func 26), args := #[Operand.tmp 51, Operand.tmp 52], argTypes := #[25, 3] }, type := 25, pos := "law.go:56", after := #[{ on := 27, ground := Ground.data }, { on := 28, ground := Ground.data }, { on := 26, ground := Ground.chain }, { on := 23, ground := Ground.guard }], guard := some (23, true) }) rfl (fun K hK => ?_) AllReadyH.nil
      go_simp
      refine (rrenameS_any z12 _ sa k0 Fa12.out KA.out).mono ?_
      rintro e z13 ⟨v13, rfl, hsh, hb⟩
      have B13 := hid (B12.out.trans (hb.mono B12.out.size))
      have Fa13 := hid (Fa12.out.bel hb)
      have Fv13 := hid (Fv12.out.bel hb)
      have Fba13 := hid (bx_bel Fba12.out hb)
      have Fx13 := hid (Fx12.out.bel hb)
      have RB13 := hid (RB12.out.trans (hb.mono RB12.out.size))
      clear B12 Fa12 Fv12 Fba12 Fx12 RB12
      rw [HR.out] at hsh
      have Fy13 := hid hsh.at
      clear hsh
      clear hb
      refine hK.out _ _ (KH.out _ RB13.out) (fun hHeld => ?_)
      refine wpAnyH_ready (rs := [30]) (by kernel_rfl) (by simp) ?_
      refine AllReadyH.cons (o := { dst := some 54, op := Op.call { callee := Callee.value (Operand.func 16), args := #[Operand.tmp 50, Operand.tmp 53], argTypes := #[25, 25] }, type := 4, pos := "law.go:56", after := #[{ on := 26, ground := Ground.data }, { on := 29, ground := Ground.data }, { on := 29, ground := Ground.chain }, { on := 23, ground := Ground.guard }], guard := some (23, true) }) rfl (fun K hK => ?_) AllReadyH.nil
      go_simp
      refine (rsameS_any z13 _ _ tR tR Fx13.out Fy13.out KR.out).mono ?_
      rw [ER.out]
      rintro e z14 ⟨rfl, hb⟩
      have B14 := hid (B13.out.trans (hb.mono B13.out.size))
      have Fa14 := hid (Fa13.out.bel hb)
      have Fv14 := hid (Fv13.out.bel hb)
      have Fba14 := hid (bx_bel Fba13.out hb)
      have Fx14 := hid (Fx13.out.bel hb)
      have Fy14 := hid (Fy13.out.bel hb)
      have RB14 := hid (RB13.out.trans (hb.mono RB13.out.size))
      clear B13 Fa13 Fv13 Fba13 Fx13 Fy13 RB13
      clear hb
      refine hK.out _ _ (KH.out _ RB14.out) (fun hHeld => ?_)
      refine wpAnyH_take (i := 31) (oi := { dst := some 55, op := Op.pick (Operand.tmp 47) (Operand.tmp 54) (Operand.const (Value.bool false)), type := 4, pos := "law.go:56", after := #[{ on := 23, ground := Ground.data }, { on := 30, ground := Ground.data }], guard := none }) (v := ?_) rfl (by kernel_rfl) (by kernel_rfl) (by kernel_rfl) (fun _ _ _ h => h) (Or.inl ⟨by rfl, ?_⟩) hHeld ?_
      rotate_left
      · intro w hSw; (try dsimp only at hSw); go_simp; (try with_reducible rfl)
      simp only [Act.put, List.setIfInBounds_toArray, List.set_cons_zero, List.set_cons_succ]
      refine wpAnyH_take (i := 32) (oi := { dst := some 6, op := Op.assign (Operand.tmp 55), type := 4, pos := "law.go:56", after := #[{ on := 31, ground := Ground.data }, { on := 30, ground := Ground.chain }, { on := 0, ground := Ground.phase }, { on := 1, ground := Ground.phase }, { on := 2, ground := Ground.phase }, { on := 3, ground := Ground.phase }, { on := 4, ground := Ground.phase }, { on := 5, ground := Ground.phase }, { on := 6, ground := Ground.phase }, { on := 7, ground := Ground.phase }, { on := 8, ground := Ground.phase }, { on := 9, ground := Ground.phase }, { on := 10, ground := Ground.phase }, { on := 11, ground := Ground.phase }, { on := 12, ground := Ground.phase }, { on := 13, ground := Ground.phase }, { on := 14, ground := Ground.phase }, { on := 15, ground := Ground.phase }, { on := 16, ground := Ground.phase }, { on := 17, ground := Ground.phase }, { on := 18, ground := Ground.phase }, { on := 19, ground := Ground.phase }, { on := 20, ground := Ground.phase }, { on := 21, ground := Ground.phase }, { on := 22, ground := Ground.phase }, { on := 23, ground := Ground.phase }, { on := 24, ground := Ground.phase }, { on := 25, ground := Ground.phase }, { on := 26, ground := Ground.phase }, { on := 27, ground := Ground.phase }, { on := 28, ground := Ground.phase }, { on := 29, ground := Ground.phase }, { on := 30, ground := Ground.phase }, { on := 31, ground := Ground.phase }], guard := none }) (v := ?_) rfl (by kernel_rfl) (by kernel_rfl) (by kernel_rfl) (fun _ _ _ h => h) (Or.inl ⟨by rfl, ?_⟩) hHeld ?_
      rotate_left
      · intro w hSw; (try dsimp only at hSw); go_simp; (try with_reducible rfl)
      simp only [Act.put, List.setIfInBounds_toArray, List.set_cons_zero, List.set_cons_succ]
      refine wpAnyH_done (by kernel_rfl) ?_ _
      clear hHeld KH
      clear RB14
      go_wp2
      go_ret
      exact ⟨rfl, B14.out⟩
    · obtain ⟨x, y, rfl⟩ := hv.form
      have Fv := hid hv
      clear hv
      have HSM := hid hs
      clear hs
      obtain ⟨V1, hV1⟩ : ∃ W, w.alloc (.cells #[.slice aa sa.fs.length ca, .slice ba sa.pr.length da] 25) = W := ⟨_, rfl⟩
      have hbx : Below w.heap.size w V1 := by rw [← hV1]; exact (gr_new _ _).below
      have Nba : Hid (V1.heap[w.heap.size]? = some (.cells #[.slice aa sa.fs.length ca, .slice ba sa.pr.length da] 25 (0, 0))) := by unfold Hid; rw [← hV1]; exact new_at _ _
      have B2 := hid (B0.out.trans (hbx.mono B0.out.size))
      have Fa2 := hid (Fa.out.bel hbx)
      have Fv2 := hid (Fv.out.bel hbx)
      clear B0 Fa Fv
      clear hbx
      go_enter Try.func4, Try.ntmps4
      have KA : Hid (M.Sm 100000 sa) := M.sm_of HSM.out
      have h60 : ¬ ((60 : Int) < ((l.length : Nat) : Int)) := by omega
      have hpos : ¬ ((0 : Int) < ((l.length : Nat) : Int)) := by omega
      have HL : Hid (l.length ≤ 60) := hl
      clear hl hp
      have HL2 : Hid (l.length ≤ 100000) := Nat.le_trans HL.out (by decide)
      obtain ⟨tS, htS⟩ : ∃ t, (if M.mayS sa then M.strongS sa n l else M.zeroS) = t := ⟨_, rfl⟩
      have KS : Hid (M.Sm 100000 tS) := by unfold Hid; rw [← htS]; exact M.sm_strong_if HSM.out HL.out
      have HS := hid htS
      have ES := hid (M.sameS_me tS)
      clear htS
      obtain ⟨tW, htW⟩ : ∃ t, (if M.mayS sa then M.weakS sa n l else M.zeroS) = t := ⟨_, rfl⟩
      have KW : Hid (M.Sm 100000 tW) := by unfold Hid; rw [← htW]; exact M.sm_weak_if HSM.out HL.out
      have HW := hid htW
      have EW := hid (M.sameS_me tW)
      clear htW
      obtain ⟨tR, htR⟩ : ∃ t, (if M.mayS sa then M.renS sa 0 else M.zeroS) = t := ⟨_, rfl⟩
      have KR : Hid (M.Sm 100000 tR) := by unfold Hid; rw [← htR]; exact M.sm_ren_if HSM.out
      have HR := hid htR
      have ER := hid (M.sameS_me tR)
      clear htR
      obtain ⟨xba0, xba1, _⟩ := cells2 Nba.out
      go_wp2_with (first | (go_at_call 9; refine stopHere ?_))
      refine stopAt ?_
      refine (small_any V1 _ sa Fa2.out).mono ?_
      rw [HSM.out]
      rintro e w3 ⟨rfl, hb⟩
      have B3 := hid (B2.out.trans (hb.mono B2.out.size))
      have Fa3 := hid (Fa2.out.bel hb)
      have Fv3 := hid (Fv2.out.bel hb)
      have Fba3 := hid (bx_bel Nba.out hb)
      clear B2 Fa2 Fv2 Nba
      clear hb xba0 xba1 hV1
      obtain ⟨xba0, xba1, _⟩ := cells2 Fba3.out
      go_wp2_with fail
      have KH : Hid (∀ W, Below w3.heap.size w3 W → (W.cell? ⟨w.heap.size, 0, none⟩ = some (.slice aa sa.fs.length ca) ∧ W.cell? ⟨w.heap.size, 1, none⟩ = some (.slice ba sa.pr.length da))) := fun W hb => by
        obtain ⟨yba0, yba1, _⟩ := cells2 (bx_bel Fba3.out hb)
        exact ⟨yba0, yba1⟩
      clear xba0 xba1
      refine wp_region_held_drew (S := fun W => W.cell? ⟨w.heap.size, 0, none⟩ = some (.slice aa sa.fs.length ca) ∧ W.cell? ⟨w.heap.size, 1, none⟩ = some (.slice ba sa.pr.length da)) (by kernel_rfl) (KH.out _ (Below.refl _ _).drew) (fun hHeld => ?_)
      have hbd : Below w3.heap.size w3 w3.drew := (Gr.refl _).drew.below
      have RB0 := hid hbd
      have B4 := hid (B3.out.trans (hbd.mono B3.out.size))
      have Fa4 := hid (Fa3.out.bel hbd)
      have Fv4 := hid (Fv3.out.bel hbd)
      have Fba4 := hid (bx_bel Fba3.out hbd)
      clear B3 Fa3 Fv3 Fba3
      clear hbd
      refine wpAnyH_ready (rs := [0]) (by kernel_rfl) (by simp) ?_
      refine AllReadyH.cons (o := { dst := some 24, op := Op.call { callee := Callee.value (Operand.func 10), args := #[], argTypes := #[] }, type := 4, pos := "law.go:56", after := #[], guard := none }) rfl (fun K hK => ?_) AllReadyH.nil
      go_simp
      refine (fixed_any w3.drew).mono ?_
      rintro e z5 ⟨rfl, hb⟩
      have B5 := hid (B4.out.trans (hb.mono B4.out.size))
      have Fa5 := hid (Fa4.out.bel hb)
      have Fv5 := hid (Fv4.out.bel hb)
      have Fba5 := hid (bx_bel Fba4.out hb)
      have RB5 := hid (RB0.out.trans (hb.mono RB0.out.size))
      clear B4 Fa4 Fv4 Fba4 RB0
      clear hb
      refine hK.out _ _ (KH.out _ RB5.out) (fun hHeld => ?_)
      refine wpAnyH_take (i := 1) (oi := { dst := some 25, op := Op.move (Operand.tmp 24), type := 4, pos := "law.go:56", after := #[{ on := 0, ground := Ground.data }, { on := 0, ground := Ground.chain }], guard := none }) (v := ?_) rfl (by kernel_rfl) (by kernel_rfl) (by kernel_rfl) (fun _ _ _ h => h) (Or.inl ⟨by rfl, ?_⟩) hHeld ?_
      rotate_left
      · intro w hSw; (try dsimp only at hSw); go_simp; (try with_reducible rfl)
      simp only [Act.put, List.setIfInBounds_toArray, List.set_cons_zero, List.set_cons_succ]
      refine wpAnyH_take (i := 2) (oi := { dst := some 26, op := Op.load 25 (Operand.tmp 3), type := 25, pos := "law.go:56", after := #[{ on := 1, ground := Ground.guard }], guard := some (1, true) }) (v := ?_) rfl (by kernel_rfl) (by kernel_rfl) (by kernel_rfl) (fun _ _ _ h => h) (Or.inl ⟨by rfl, ?_⟩) hHeld ?_
      rotate_left
      · intro w hSw; (try dsimp only at hSw); go_simp; (try with_reducible rfl)
      simp only [Act.put, List.setIfInBounds_toArray, List.set_cons_zero, List.set_cons_succ]
      refine wpAnyH_take (i := 3) (oi := { dst := some 27, op := Op.move (Operand.tmp 1), type := 9, pos := "law.go:56", after := #[{ on := 1, ground := Ground.guard }], guard := some (1, true) }) (v := ?_) rfl (by kernel_rfl) (by kernel_rfl) (by kernel_rfl) (fun _ _ _ h => h) (Or.inl ⟨by rfl, ?_⟩) hHeld ?_
      rotate_left
      · intro w hSw; (try dsimp only at hSw); go_simp; (try with_reducible rfl)
      simp only [Act.put, List.setIfInBounds_toArray, List.set_cons_zero, List.set_cons_succ]
      refine wpAnyH_take (i := 4) (oi := { dst := some 28, op := Op.move (Operand.tmp 2), type := 23, pos := "law.go:56", after := #[{ on := 1, ground := Ground.guard }], guard := some (1, true) }) (v := ?_) rfl (by kernel_rfl) (by kernel_rfl) (by kernel_rfl) (fun _ _ _ h => h) (Or.inl ⟨by rfl, ?_⟩) hHeld ?_
      rotate_left
      · intro w hSw; (try dsimp only at hSw); go_simp; (try with_reducible rfl)
      simp only [Act.put, List.setIfInBounds_toArray, List.set_cons_zero, List.set_cons_succ]
      refine wpAnyH_take (i := 6) (oi := { dst := some 30, op := Op.load 25 (Operand.tmp 3), type := 25, pos := "law.go:56", after := #[{ on := 1, ground := Ground.guard }], guard := some (1, true) }) (v := ?_) rfl (by kernel_rfl) (by kernel_rfl) (by kernel_rfl) (fun _ _ _ h => h) (Or.inl ⟨by rfl, ?_⟩) hHeld ?_
      rotate_left
      · intro w hSw; (try dsimp only at hSw); go_simp; (try with_reducible rfl)
      simp only [Act.put, List.setIfInBounds_toArray, List.set_cons_zero, List.set_cons_succ]
      refine wpAnyH_take (i := 7) (oi := { dst := some 31, op := Op.move (Operand.tmp 1), type := 9, pos := "law.go:56", after := #[{ on := 1, ground := Ground.guard }], guard := some (1, true) }) (v := ?_) rfl (by kernel_rfl) (by kernel_rfl) (by kernel_rfl) (fun _ _ _ h => h) (Or.inl ⟨by rfl, ?_⟩) hHeld ?_
      rotate_left
      · intro w hSw; (try dsimp only at hSw); go_simp; (try with_reducible rfl)
      simp only [Act.put, List.setIfInBounds_toArray, List.set_cons_zero, List.set_cons_succ]
      refine wpAnyH_take (i := 8) (oi := { dst := some 32, op := Op.move (Operand.tmp 2), type := 23, pos := "law.go:56", after := #[{ on := 1, ground := Ground.guard }], guard := some (1, true) }) (v := ?_) rfl (by kernel_rfl) (by kernel_rfl) (by kernel_rfl) (fun _ _ _ h => h) (Or.inl ⟨by rfl, ?_⟩) hHeld ?_
      rotate_left
      · intro w hSw; (try dsimp only at hSw); go_simp; (try with_reducible rfl)
      simp only [Act.put, List.setIfInBounds_toArray, List.set_cons_zero, List.set_cons_succ]
      refine wpAnyH_ready (rs := [5]) (by kernel_rfl) (by simp) ?_
      refine AllReadyH.cons (o := { dst := some 29, op := Op.call { callee := Callee.value (Operand.func 21), args := #[Operand.tmp 26, Operand.tmp 27, Operand.tmp 28], argTypes := #[25, 9, 23] }, type := 25, pos := "law.go:56", after := #[{ on := 2, ground := Ground.data }, { on := 3, ground := Ground.data }, { on := 4, ground := Ground.data }, { on := 1, ground := Ground.chain }, { on := 1, ground := Ground.guard }], guard := some (1, true) }) rfl (fun K hK => ?_) AllReadyH.nil
      go_simp
      refine (ostrong_any z5 _ sa n _ l Fa5.out KA.out Fv5.out HL2.out).mono ?_
      rintro e z6 ⟨v6, rfl, hsh, hb⟩
      have B6 := hid (B5.out.trans (hb.mono B5.out.size))
      have Fa6 := hid (Fa5.out.bel hb)
      have Fv6 := hid (Fv5.out.bel hb)
      have Fba6 := hid (bx_bel Fba5.out hb)
      have RB6 := hid (RB5.out.trans (hb.mono RB5.out.size))
      clear B5 Fa5 Fv5 Fba5 RB5
      rw [HS.out] at hsh
      have Fx6 := hid hsh.at
      clear hsh
      clear hb
      refine hK.out _ _ (KH.out _ RB6.out) (fun hHeld => ?_)
      refine wpAnyH_ready (rs := [9]) (by kernel_rfl) (by simp) ?_
      refine AllReadyH.cons (o := { dst := some 33, op := Op.call { callee := Callee.value (Operand.func 22), args := #[Operand.tmp 30, Operand.tmp 31, Operand.tmp 32], argTypes := #[25, 9, 23] }, type := 25, pos := "law.go:56", after := #[{ on := 6, ground := Ground.data }, { on := 7, ground := Ground.data }, { on := 8, ground := Ground.data }, { on := 5, ground := Ground.chain }, { on := 1, ground := Ground.guard }], guard := some (1, true) }) rfl (fun K hK => ?_) AllReadyH.nil
      go_simp
      refine (rstrong_any z6 _ _ sa n l Fa6.out KA.out Fv6.out HL2.out).mono ?_
      rintro e z7 ⟨v7, rfl, hsh, hb⟩
      have B7 := hid (B6.out.trans (hb.mono B6.out.size))
      have Fa7 := hid (Fa6.out.bel hb)
      have Fv7 := hid (Fv6.out.bel hb)
      have Fba7 := hid (bx_bel Fba6.out hb)
      have Fx7 := hid (Fx6.out.bel hb)
      have RB7 := hid (RB6.out.trans (hb.mono RB6.out.size))
      clear B6 Fa6 Fv6 Fba6 Fx6 RB6
      rw [HS.out] at hsh
      have Fy7 := hid hsh
      clear hsh
      clear hb
      refine hK.out _ _ (KH.out _ RB7.out) (fun hHeld => ?_)
      refine wpAnyH_ready (rs := [10]) (by kernel_rfl) (by simp) ?_
      refine AllReadyH.cons (o := { dst := some 34, op := Op.call { callee := Callee.value (Operand.func 16), args := #[Operand.tmp 29, Operand.tmp 33], argTypes := #[25, 25] }, type := 4, pos := "law.go:56", after := #[{ on := 5, ground := Ground.data }, { on := 9, ground := Ground.data }, { on := 9, ground := Ground.chain }, { on := 1, ground := Ground.guard }], guard := some (1, true) }) rfl (fun K hK => ?_) AllReadyH.nil
      go_simp
      refine (rsameS_any z7 _ _ tS tS Fx7.out Fy7.out KS.out).mono ?_
      rw [ES.out]
      rintro e z8 ⟨rfl, hb⟩
      have B8 := hid (B7.out.trans (hb.mono B7.out.size))
      have Fa8 := hid (Fa7.out.bel hb)
      have Fv8 := hid (Fv7.out.bel hb)
      have Fba8 := hid (bx_bel Fba7.out hb)
      have Fx8 := hid (Fx7.out.bel hb)
      have Fy8 := hid (Fy7.out.bel hb)
      have RB8 := hid (RB7.out.trans (hb.mono RB7.out.size))
      clear B7 Fa7 Fv7 Fba7 Fx7 Fy7 RB7
      clear hb
      refine hK.out _ _ (KH.out _ RB8.out) (fun hHeld => ?_)
      refine wpAnyH_take (i := 11) (oi := { dst := some 35, op := Op.pick (Operand.tmp 25) (Operand.tmp 34) (Operand.const (Value.bool false)), type := 4, pos := "law.go:56", after := #[{ on := 1, ground := Ground.data }, { on := 10, ground := Ground.data }], guard := none }) (v := ?_) rfl (by kernel_rfl) (by kernel_rfl) (by kernel_rfl) (fun _ _ _ h => h) (Or.inl ⟨by rfl, ?_⟩) hHeld ?_
      rotate_left
      · intro w hSw; (try dsimp only at hSw); go_simp; (try with_reducible rfl)
      simp only [Act.put, List.setIfInBounds_toArray, List.set_cons_zero, List.set_cons_succ]
      refine wpAnyH_take (i := 12) (oi := { dst := some 36, op := Op.move (Operand.tmp 35), type := 4, pos := "law.go:56", after := #[{ on := 11, ground := Ground.data }, { on := 10, ground := Ground.chain }], guard := none }) (v := ?_) rfl (by kernel_rfl) (by kernel_rfl) (by kernel_rfl) (fun _ _ _ h => h) (Or.inl ⟨by rfl, ?_⟩) hHeld ?_
      rotate_left
      · intro w hSw; (try dsimp only at hSw); go_simp; (try with_reducible rfl)
      simp only [Act.put, List.setIfInBounds_toArray, List.set_cons_zero, List.set_cons_succ]
      refine wpAnyH_take (i := 13) (oi := { dst := some 37, op := Op.load 25 (Operand.tmp 3), type := 25, pos := "law.go:56", after := #[{ on := 12, ground := Ground.guard }], guard := some (12, true) }) (v := ?_) rfl (by kernel_rfl) (by kernel_rfl) (by kernel_rfl) (fun _ _ _ h => h) (Or.inl ⟨by rfl, ?_⟩) hHeld ?_
      rotate_left
      · intro w hSw; (try dsimp only at hSw); go_simp; (try with_reducible rfl)
      simp only [Act.put, List.setIfInBounds_toArray, List.set_cons_zero, List.set_cons_succ]
      refine wpAnyH_take (i := 14) (oi := { dst := some 38, op := Op.move (Operand.tmp 1), type := 9, pos := "law.go:56", after := #[{ on := 12, ground := Ground.guard }], guard := some (12, true) }) (v := ?_) rfl (by kernel_rfl) (by kernel_rfl) (by kernel_rfl) (fun _ _ _ h => h) (Or.inl ⟨by rfl, ?_⟩) hHeld ?_
      rotate_left
      · intro w hSw; (try dsimp only at hSw); go_simp; (try with_reducible rfl)
      simp only [Act.put, List.setIfInBounds_toArray, List.set_cons_zero, List.set_cons_succ]
      refine wpAnyH_take (i := 15) (oi := { dst := some 39, op := Op.move (Operand.tmp 2), type := 23, pos := "law.go:56", after := #[{ on := 12, ground := Ground.guard }], guard := some (12, true) }) (v := ?_) rfl (by kernel_rfl) (by kernel_rfl) (by kernel_rfl) (fun _ _ _ h => h) (Or.inl ⟨by rfl, ?_⟩) hHeld ?_
      rotate_left
      · intro w hSw; (try dsimp only at hSw); go_simp; (try with_reducible rfl)
      simp only [Act.put, List.setIfInBounds_toArray, List.set_cons_zero, List.set_cons_succ]
      refine wpAnyH_take (i := 17) (oi := { dst := some 41, op := Op.load 25 (Operand.tmp 3), type := 25, pos := "law.go:56", after := #[{ on := 12, ground := Ground.guard }], guard := some (12, true) }) (v := ?_) rfl (by kernel_rfl) (by kernel_rfl) (by kernel_rfl) (fun _ _ _ h => h) (Or.inl ⟨by rfl, ?_⟩) hHeld ?_
      rotate_left
      · intro w hSw; (try dsimp only at hSw); go_simp; (try with_reducible rfl)
      simp only [Act.put, List.setIfInBounds_toArray, List.set_cons_zero, List.set_cons_succ]
      refine wpAnyH_take (i := 18) (oi := { dst := some 42, op := Op.move (Operand.tmp 1), type := 9, pos := "law.go:56", after := #[{ on := 12, ground := Ground.guard }], guard := some (12, true) }) (v := ?_) rfl (by kernel_rfl) (by kernel_rfl) (by kernel_rfl) (fun _ _ _ h => h) (Or.inl ⟨by rfl, ?_⟩) hHeld ?_
      rotate_left
      · intro w hSw; (try dsimp only at hSw); go_simp; (try with_reducible rfl)
      simp only [Act.put, List.setIfInBounds_toArray, List.set_cons_zero, List.set_cons_succ]
      refine wpAnyH_take (i := 19) (oi := { dst := some 43, op := Op.move (Operand.tmp 2), type := 23, pos := "law.go:56", after := #[{ on := 12, ground := Ground.guard }], guard := some (12, true) }) (v := ?_) rfl (by kernel_rfl) (by kernel_rfl) (by kernel_rfl) (fun _ _ _ h => h) (Or.inl ⟨by rfl, ?_⟩) hHeld ?_
      rotate_left
      · intro w hSw; (try dsimp only at hSw); go_simp; (try with_reducible rfl)
      simp only [Act.put, List.setIfInBounds_toArray, List.set_cons_zero, List.set_cons_succ]
      refine wpAnyH_ready (rs := [16]) (by kernel_rfl) (by simp) ?_
      refine AllReadyH.cons (o := { dst := some 40, op := Op.call { callee := Callee.value (Operand.func 23), args := #[Operand.tmp 37, Operand.tmp 38, Operand.tmp 39], argTypes := #[25, 9, 23] }, type := 25, pos := "law.go:56", after := #[{ on := 13, ground := Ground.data }, { on := 14, ground := Ground.data }, { on := 15, ground := Ground.data }, { on := 12, ground := Ground.chain }, { on := 12, ground := Ground.guard }], guard := some (12, true) }) rfl (fun K hK => ?_) AllReadyH.nil
      go_simp
      refine (oweak_any z8 _ sa n _ l Fa8.out KA.out Fv8.out HL2.out).mono ?_
      rintro e z9 ⟨v9, rfl, hsh, hb⟩
      have B9 := hid (B8.out.trans (hb.mono B8.out.size))
      have Fa9 := hid (Fa8.out.bel hb)
      have Fv9 := hid (Fv8.out.bel hb)
      have Fba9 := hid (bx_bel Fba8.out hb)
      have RB9 := hid (RB8.out.trans (hb.mono RB8.out.size))
      clear B8 Fa8 Fv8 Fba8 RB8
      rw [HW.out] at hsh
      have Fx9 := hid hsh.at
      clear hsh
      clear hb
      refine hK.out _ _ (KH.out _ RB9.out) (fun hHeld => ?_)
      refine wpAnyH_ready (rs := [20]) (by kernel_rfl) (by simp) ?_
      refine AllReadyH.cons (o := { dst := some 44, op := Op.call { callee := Callee.value (Operand.func 24), args := #[Operand.tmp 41, Operand.tmp 42, Operand.tmp 43], argTypes := #[25, 9, 23] }, type := 25, pos := "law.go:56", after := #[{ on := 17, ground := Ground.data }, { on := 18, ground := Ground.data }, { on := 19, ground := Ground.data }, { on := 16, ground := Ground.chain }, { on := 12, ground := Ground.guard }], guard := some (12, true) }) rfl (fun K hK => ?_) AllReadyH.nil
      go_simp
      refine (rweak_any z9 _ _ sa n l Fa9.out KA.out Fv9.out HL2.out).mono ?_
      rintro e z10 ⟨v10, rfl, hsh, hb⟩
      have B10 := hid (B9.out.trans (hb.mono B9.out.size))
      have Fa10 := hid (Fa9.out.bel hb)
      have Fv10 := hid (Fv9.out.bel hb)
      have Fba10 := hid (bx_bel Fba9.out hb)
      have Fx10 := hid (Fx9.out.bel hb)
      have RB10 := hid (RB9.out.trans (hb.mono RB9.out.size))
      clear B9 Fa9 Fv9 Fba9 Fx9 RB9
      rw [HW.out] at hsh
      have Fy10 := hid hsh
      clear hsh
      clear hb
      refine hK.out _ _ (KH.out _ RB10.out) (fun hHeld => ?_)
      refine wpAnyH_ready (rs := [21]) (by kernel_rfl) (by simp) ?_
      refine AllReadyH.cons (o := { dst := some 45, op := Op.call { callee := Callee.value (Operand.func 16), args := #[Operand.tmp 40, Operand.tmp 44], argTypes := #[25, 25] }, type := 4, pos := "law.go:56", after := #[{ on := 16, ground := Ground.data }, { on := 20, ground := Ground.data }, { on := 20, ground := Ground.chain }, { on := 12, ground := Ground.guard }], guard := some (12, true) }) rfl (fun K hK => ?_) AllReadyH.nil
      go_simp
      refine (rsameS_any z10 _ _ tW tW Fx10.out Fy10.out KW.out).mono ?_
      rw [EW.out]
      rintro e z11 ⟨rfl, hb⟩
      have B11 := hid (B10.out.trans (hb.mono B10.out.size))
      have Fa11 := hid (Fa10.out.bel hb)
      have Fv11 := hid (Fv10.out.bel hb)
      have Fba11 := hid (bx_bel Fba10.out hb)
      have Fx11 := hid (Fx10.out.bel hb)
      have Fy11 := hid (Fy10.out.bel hb)
      have RB11 := hid (RB10.out.trans (hb.mono RB10.out.size))
      clear B10 Fa10 Fv10 Fba10 Fx10 Fy10 RB10
      clear hb
      refine hK.out _ _ (KH.out _ RB11.out) (fun hHeld => ?_)
      refine wpAnyH_take (i := 22) (oi := { dst := some 46, op := Op.pick (Operand.tmp 36) (Operand.tmp 45) (Operand.const (Value.bool false)), type := 4, pos := "law.go:56", after := #[{ on := 12, ground := Ground.data }, { on := 21, ground := Ground.data }], guard := none }) (v := ?_) rfl (by kernel_rfl) (by kernel_rfl) (by kernel_rfl) (fun _ _ _ h => h) (Or.inl ⟨by rfl, ?_⟩) hHeld ?_
      rotate_left
      · intro w hSw; (try dsimp only at hSw); go_simp; (try with_reducible rfl)
      simp only [Act.put, List.setIfInBounds_toArray, List.set_cons_zero, List.set_cons_succ]
      refine wpAnyH_take (i := 23) (oi := { dst := some 47, op := Op.move (Operand.tmp 46), type := 4, pos := "law.go:56", after := #[{ on := 22, ground := Ground.data }, { on := 21, ground := Ground.chain }], guard := none }) (v := ?_) rfl (by kernel_rfl) (by kernel_rfl) (by kernel_rfl) (fun _ _ _ h => h) (Or.inl ⟨by rfl, ?_⟩) hHeld ?_
      rotate_left
      · intro w hSw; (try dsimp only at hSw); go_simp; (try with_reducible rfl)
      simp only [Act.put, List.setIfInBounds_toArray, List.set_cons_zero, List.set_cons_succ]
      refine wpAnyH_take (i := 24) (oi := { dst := some 48, op := Op.load 25 (Operand.tmp 3), type := 25, pos := "law.go:56", after := #[{ on := 23, ground := Ground.guard }], guard := some (23, true) }) (v := ?_) rfl (by kernel_rfl) (by kernel_rfl) (by kernel_rfl) (fun _ _ _ h => h) (Or.inl ⟨by rfl, ?_⟩) hHeld ?_
      rotate_left
      · intro w hSw; (try dsimp only at hSw); go_simp; (try with_reducible rfl)
      simp only [Act.put, List.setIfInBounds_toArray, List.set_cons_zero, List.set_cons_succ]
      refine wpAnyH_take (i := 25) (oi := { dst := some 49, op := Op.move (Operand.tmp 7), type := 3, pos := "law.go:56", after := #[{ on := 23, ground := Ground.guard }], guard := some (23, true) }) (v := ?_) rfl (by kernel_rfl) (by kernel_rfl) (by kernel_rfl) (fun _ _ _ h => h) (Or.inl ⟨by rfl, ?_⟩) hHeld ?_
      rotate_left
      · intro w hSw; (try dsimp only at hSw); go_simp; (try with_reducible rfl)
      simp only [Act.put, List.setIfInBounds_toArray, List.set_cons_zero, List.set_cons_succ]
      refine wpAnyH_take (i := 27) (oi := { dst := some 51, op := Op.load 25 (Operand.tmp 3), type := 25, pos := "law.go:56", after := #[{ on := 23, ground := Ground.guard }], guard := some (23, true) }) (v := ?_) rfl (by kernel_rfl) (by kernel_rfl) (by kernel_rfl) (fun _ _ _ h => h) (Or.inl ⟨by rfl, ?_⟩) hHeld ?_
      rotate_left
      · intro w hSw; (try dsimp only at hSw); go_simp; (try with_reducible rfl)
      simp only [Act.put, List.setIfInBounds_toArray, List.set_cons_zero, List.set_cons_succ]
      refine wpAnyH_take (i := 28) (oi := { dst := some 52, op := Op.move (Operand.tmp 7), type := 3, pos := "law.go:56", after := #[{ on := 23, ground := Ground.guard }], guard := some (23, true) }) (v := ?_) rfl (by kernel_rfl) (by kernel_rfl) (by kernel_rfl) (fun _ _ _ h => h) (Or.inl ⟨by rfl, ?_⟩) hHeld ?_
      rotate_left
      · intro w hSw; (try dsimp only at hSw); go_simp; (try with_reducible rfl)
      simp only [Act.put, List.setIfInBounds_toArray, List.set_cons_zero, List.set_cons_succ]
      refine wpAnyH_ready (rs := [26]) (by kernel_rfl) (by simp) ?_
      refine AllReadyH.cons (o := { dst := some 50, op := Op.call { callee := Callee.value (Operand.func 25), args := #[Operand.tmp 48, Operand.tmp 49], argTypes := #[25, 3] }, type := 25, pos := "law.go:56", after := #[{ on := 24, ground := Ground.data }, { on := 25, ground := Ground.data }, { on := 23, ground := Ground.chain }, { on := 23, ground := Ground.guard }], guard := some (23, true) }) rfl (fun K hK => ?_) AllReadyH.nil
      go_simp
      refine (orename_any z11 _ sa 0 Fa11.out KA.out).mono ?_
      rintro e z12 ⟨v12, rfl, hsh, hb⟩
      have B12 := hid (B11.out.trans (hb.mono B11.out.size))
      have Fa12 := hid (Fa11.out.bel hb)
      have Fv12 := hid (Fv11.out.bel hb)
      have Fba12 := hid (bx_bel Fba11.out hb)
      have RB12 := hid (RB11.out.trans (hb.mono RB11.out.size))
      clear B11 Fa11 Fv11 Fba11 RB11
      rw [HR.out] at hsh
      have Fx12 := hid hsh.at
      clear hsh
      clear hb
      refine hK.out _ _ (KH.out _ RB12.out) (fun hHeld => ?_)
      refine wpAnyH_ready (rs := [29]) (by kernel_rfl) (by simp) ?_
      refine AllReadyH.cons (o := { dst := some 53, op := Op.call { callee := Callee.value (Operand.func 26), args := #[Operand.tmp 51, Operand.tmp 52], argTypes := #[25, 3] }, type := 25, pos := "law.go:56", after := #[{ on := 27, ground := Ground.data }, { on := 28, ground := Ground.data }, { on := 26, ground := Ground.chain }, { on := 23, ground := Ground.guard }], guard := some (23, true) }) rfl (fun K hK => ?_) AllReadyH.nil
      go_simp
      refine (rrenameS_any z12 _ sa 0 Fa12.out KA.out).mono ?_
      rintro e z13 ⟨v13, rfl, hsh, hb⟩
      have B13 := hid (B12.out.trans (hb.mono B12.out.size))
      have Fa13 := hid (Fa12.out.bel hb)
      have Fv13 := hid (Fv12.out.bel hb)
      have Fba13 := hid (bx_bel Fba12.out hb)
      have Fx13 := hid (Fx12.out.bel hb)
      have RB13 := hid (RB12.out.trans (hb.mono RB12.out.size))
      clear B12 Fa12 Fv12 Fba12 Fx12 RB12
      rw [HR.out] at hsh
      have Fy13 := hid hsh.at
      clear hsh
      clear hb
      refine hK.out _ _ (KH.out _ RB13.out) (fun hHeld => ?_)
      refine wpAnyH_ready (rs := [30]) (by kernel_rfl) (by simp) ?_
      refine AllReadyH.cons (o := { dst := some 54, op := Op.call { callee := Callee.value (Operand.func 16), args := #[Operand.tmp 50, Operand.tmp 53], argTypes := #[25, 25] }, type := 4, pos := "law.go:56", after := #[{ on := 26, ground := Ground.data }, { on := 29, ground := Ground.data }, { on := 29, ground := Ground.chain }, { on := 23, ground := Ground.guard }], guard := some (23, true) }) rfl (fun K hK => ?_) AllReadyH.nil
      go_simp
      refine (rsameS_any z13 _ _ tR tR Fx13.out Fy13.out KR.out).mono ?_
      rw [ER.out]
      rintro e z14 ⟨rfl, hb⟩
      have B14 := hid (B13.out.trans (hb.mono B13.out.size))
      have Fa14 := hid (Fa13.out.bel hb)
      have Fv14 := hid (Fv13.out.bel hb)
      have Fba14 := hid (bx_bel Fba13.out hb)
      have Fx14 := hid (Fx13.out.bel hb)
      have Fy14 := hid (Fy13.out.bel hb)
      have RB14 := hid (RB13.out.trans (hb.mono RB13.out.size))
      clear B13 Fa13 Fv13 Fba13 Fx13 Fy13 RB13
      clear hb
      refine hK.out _ _ (KH.out _ RB14.out) (fun hHeld => ?_)
      refine wpAnyH_take (i := 31) (oi := { dst := some 55, op := Op.pick (Operand.tmp 47) (Operand.tmp 54) (Operand.const (Value.bool false)), type := 4, pos := "law.go:56", after := #[{ on := 23, ground := Ground.data }, { on := 30, ground := Ground.data }], guard := none }) (v := ?_) rfl (by kernel_rfl) (by kernel_rfl) (by kernel_rfl) (fun _ _ _ h => h) (Or.inl ⟨by rfl, ?_⟩) hHeld ?_
      rotate_left
      · intro w hSw; (try dsimp only at hSw); go_simp; (try with_reducible rfl)
      simp only [Act.put, List.setIfInBounds_toArray, List.set_cons_zero, List.set_cons_succ]
      refine wpAnyH_take (i := 32) (oi := { dst := some 6, op := Op.assign (Operand.tmp 55), type := 4, pos := "law.go:56", after := #[{ on := 31, ground := Ground.data }, { on := 30, ground := Ground.chain }, { on := 0, ground := Ground.phase }, { on := 1, ground := Ground.phase }, { on := 2, ground := Ground.phase }, { on := 3, ground := Ground.phase }, { on := 4, ground := Ground.phase }, { on := 5, ground := Ground.phase }, { on := 6, ground := Ground.phase }, { on := 7, ground := Ground.phase }, { on := 8, ground := Ground.phase }, { on := 9, ground := Ground.phase }, { on := 10, ground := Ground.phase }, { on := 11, ground := Ground.phase }, { on := 12, ground := Ground.phase }, { on := 13, ground := Ground.phase }, { on := 14, ground := Ground.phase }, { on := 15, ground := Ground.phase }, { on := 16, ground := Ground.phase }, { on := 17, ground := Ground.phase }, { on := 18, ground := Ground.phase }, { on := 19, ground := Ground.phase }, { on := 20, ground := Ground.phase }, { on := 21, ground := Ground.phase }, { on := 22, ground := Ground.phase }, { on := 23, ground := Ground.phase }, { on := 24, ground := Ground.phase }, { on := 25, ground := Ground.phase }, { on := 26, ground := Ground.phase }, { on := 27, ground := Ground.phase }, { on := 28, ground := Ground.phase }, { on := 29, ground := Ground.phase }, { on := 30, ground := Ground.phase }, { on := 31, ground := Ground.phase }], guard := none }) (v := ?_) rfl (by kernel_rfl) (by kernel_rfl) (by kernel_rfl) (fun _ _ _ h => h) (Or.inl ⟨by rfl, ?_⟩) hHeld ?_
      rotate_left
      · intro w hSw; (try dsimp only at hSw); go_simp; (try with_reducible rfl)
      simp only [Act.put, List.setIfInBounds_toArray, List.set_cons_zero, List.set_cons_succ]
      refine wpAnyH_done (by kernel_rfl) ?_ _
      clear hHeld KH
      clear RB14
      go_wp2
      go_ret
      exact ⟨rfl, B14.out⟩
  obtain ⟨x, y, rfl⟩ := hv.form
  have Fv := hid hv
  clear hv
  have hl2 : (60 : Int) < ((l.length : Nat) : Int) := by omega
  clear hl
  have HSM := hid hs
  clear hs
  obtain ⟨V1, hV1⟩ : ∃ W, w.alloc (.cells #[.slice aa sa.fs.length ca, .slice ba sa.pr.length da] 25) = W := ⟨_, rfl⟩
  have hbx : Below w.heap.size w V1 := by rw [← hV1]; exact (gr_new _ _).below
  have Nba : Hid (V1.heap[w.heap.size]? = some (.cells #[.slice aa sa.fs.length ca, .slice ba sa.pr.length da] 25 (0, 0))) := by unfold Hid; rw [← hV1]; exact new_at _ _
  have B2 := hid (B0.out.trans (hbx.mono B0.out.size))
  have Fa2 := hid (Fa.out.bel hbx)
  have Fv2 := hid (Fv.out.bel hbx)
  clear B0 Fa Fv
  clear hbx
  go_enter Try.func4, Try.ntmps4
  obtain ⟨xba0, xba1, _⟩ := cells2 Nba.out
  go_wp2_with (first | (go_at_call 9; refine stopHere ?_))
  refine stopAt ?_
  refine (small_any V1 _ sa Fa2.out).mono ?_
  rw [HSM.out]
  rintro e w3 ⟨rfl, hb⟩
  have B3 := hid (B2.out.trans (hb.mono B2.out.size))
  have Fa3 := hid (Fa2.out.bel hb)
  have Fv3 := hid (Fv2.out.bel hb)
  have Fba3 := hid (bx_bel Nba.out hb)
  clear B2 Fa2 Fv2 Nba
  clear hb xba0 xba1 hV1
  obtain ⟨xba0, xba1, _⟩ := cells2 Fba3.out
  go_wp2_with (first | (go_at_call 10; refine stopHere ?_))
  refine stopAt ?_
  refine (fixed_any w3).mono ?_
  rintro e w4 ⟨rfl, hb⟩
  have B4 := hid (B3.out.trans (hb.mono B3.out.size))
  have Fa4 := hid (Fa3.out.bel hb)
  have Fv4 := hid (Fv3.out.bel hb)
  have Fba4 := hid (bx_bel Fba3.out hb)
  clear B3 Fa3 Fv3 Fba3
  clear hb xba0 xba1
  go_wp2
  go_ret
  exact ⟨rfl, B4.out⟩
end Go.Proofs.Ytcnikcfnfohoeaa
