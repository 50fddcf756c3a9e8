/-
  The walk of the document's Small of states. No conditions.
-/
import Derived.Test.YtbaaeobdjiglgaaGreatE6
set_option linter.unusedVariables false
set_option linter.unusedSimpArgs false
namespace Go.Proofs.YtbaaeobdjiglgaaGreat
open Go.RowKit Go.Sort
namespace M
theorem small_len1 {vs : List (ByteArray × List Atm)} {ls : List (Atm × Shp)} {d : Bool} (h : ¬ vs.length ≤ 40) : false = smallSt ⟨d, vs, ls⟩ := by
  unfold smallSt; rw [decide_eq_false h]; rfl
theorem small_len2 {vs : List (ByteArray × List Atm)} {ls : List (Atm × Shp)} {d : Bool} (h : ¬ ls.length ≤ 40) : false = smallSt ⟨d, vs, ls⟩ := by
  unfold smallSt; rw [decide_eq_false h, Bool.and_false]; rfl
theorem small_iff (s : Sta) : smallSt s = true ↔ s.vs.length ≤ 40 ∧ s.ls.length ≤ 40 ∧ (∀ b ∈ s.vs, b.2.length ≤ 40) ∧ ∀ z ∈ s.ls, z.2.fs.length ≤ 40 ∧ z.2.pr.length ≤ 40 ∧ ∀ f ∈ z.2.fs, f.vs.length ≤ 40 := by
  unfold smallSt
  simp only [Bool.and_eq_true, decide_eq_true_eq, List.all_eq_true]
  constructor
  · rintro ⟨⟨⟨h1, h2⟩, h3⟩, h4⟩; exact ⟨h1, h2, h3, fun z hz => ⟨(h4 z hz).1.1, (h4 z hz).1.2, (h4 z hz).2⟩⟩
  · rintro ⟨h1, h2, h3, h4⟩; exact ⟨⟨⟨h1, h2⟩, h3⟩, fun z hz => ⟨⟨(h4 z hz).1, (h4 z hz).2.1⟩, (h4 z hz).2.2⟩⟩
theorem small_no {s : Sta} (h : ¬ (s.vs.length ≤ 40 ∧ s.ls.length ≤ 40 ∧ (∀ b ∈ s.vs, b.2.length ≤ 40) ∧ ∀ z ∈ s.ls, z.2.fs.length ≤ 40 ∧ z.2.pr.length ≤ 40 ∧ ∀ f ∈ z.2.fs, f.vs.length ≤ 40)) : false = smallSt s := by
  cases e : smallSt s with
  | false => rfl
  | true => exact absurd ((small_iff s).1 e) h
end M

set_option maxHeartbeats 4000000 in
set_option maxRecDepth 100000 in
theorem rsmallSt_any (w : World) (v : Value) (s : M.Sta) (h : StAt w v s) :
    Calls Tryz.prog 8 #[v] w fun e w' => e = .returned (.bool (M.smallSt s)) ∧ Below w.heap.size w w' := by
  obtain ⟨B, L, a, c, b, d, hs, rfl, hB, hL⟩ := h.open
  obtain ⟨dd, hdd⟩ : ∃ x, s.dead = x := ⟨_, rfl⟩
  rw [hdd] at hs ⊢
  subst hs
  clear h hdd
  obtain ⟨W0, hW0⟩ : ∃ W0, w.alloc (.cells #[.bool dd, .slice a B.length c, .slice b L.length d] 25) = W0 := ⟨_, rfl⟩
  have hb0 : Below w.heap.size w W0 := by rw [← hW0]; exact (gr_new _ _).below
  have B0 := hid hb0
  have P0 : Hid (W0.heap[w.heap.size]? = some (.cells #[.bool dd, .slice a B.length c, .slice b L.length d] 25 (0, 0))) := by unfold Hid; rw [← hW0]; exact new_at _ _
  have TB := hid (hB.bel hb0)
  have TL := hid (hL.bel hb0)
  clear hB hL hb0
  obtain ⟨x1, x2, x3, xf⟩ := cells3 P0.out
  have HNO : Hid (¬ ((bndOf B).length ≤ 40 ∧ (lclOf L).length ≤ 40 ∧ (∀ b ∈ bndOf B, b.2.length ≤ 40) ∧ ∀ z ∈ lclOf L, z.2.fs.length ≤ 40 ∧ z.2.pr.length ≤ 40 ∧ ∀ f ∈ z.2.fs, f.vs.length ≤ 40) → .returned (.bool false) = (.returned (.bool (M.smallSt ⟨dd, bndOf B, lclOf L⟩)) : Ending)) := fun h => ret_bool (M.small_no h)
  by_cases h1 : B.length ≤ 40
  · by_cases h2 : L.length ≤ 40
    · have H1 := hid h1
      have H2 := hid h2
      have f1 : decide ((B.length : Int) > 40) = false := decide_eq_false (by omega)
      have f2 : decide ((L.length : Int) > 40) = false := decide_eq_false (by omega)
      go_enter Tryz.func8, Tryz.ntmps8
      go_wp2
      clear hW0 f1 f2
      go_loop [3] (fun i => ∃ j : Nat, j ≤ B.length ∧ i = .int .i64 j ∧ Hid (∀ i (h : i < B.length), i < j → B[i].vs.length ≤ 40)) (fun i => B.length - (intOf i).toNat)
      case atStart => exact ⟨0, Nat.zero_le _, rfl, fun i _ h => absurd h (Nat.not_lt_zero _)⟩
      case round =>
        obtain ⟨j, hj, rfl, hall⟩ := hrel
        by_cases hjl : j < B.length
        · obtain ⟨bb, o, rfl, hlt, hc⟩ := Bs_some TB.out hjl
          obtain ⟨c1, c2⟩ := hc j hjl
          obtain ⟨x, hx⟩ : ∃ x, B[j] = x := ⟨_, rfl⟩
          rw [hx] at c1 c2
          have HXE := hid hx
          clear hc hx
          by_cases h40 : x.vs.length ≤ 40
          · have f1 : decide ((x.vs.length : Int) > 40) = false := decide_eq_false (by omega)
            have H40 := hid h40
            clear h40
            go_wp2
            refine ⟨⟨j + 1, by omega, by go_num, hid fun i hi hij => ?_⟩, by simp [intOf]; omega⟩
            rcases Nat.lt_succ_iff_lt_or_eq.1 hij with h' | rfl
            · exact hall.out i hi h'
            · rw [HXE.out]; exact H40.out
          · have f1 : decide ((x.vs.length : Int) > 40) = true := decide_eq_true (by omega)
            have H40 := hid h40
            clear h40
            go_wp2
            go_ret
            refine ⟨HNO.out fun h => ?_, B0.out⟩
            have := h.2.2.1 B[j].p (List.mem_map.2 ⟨_, List.getElem_mem hjl, rfl⟩)
            rw [HXE.out] at this
            exact H40.out this
        · have HB : Hid (∀ b ∈ bndOf B, b.2.length ≤ 40) := fun z hz => by
            obtain ⟨x, hx, rfl⟩ := List.mem_map.1 hz
            obtain ⟨i, hi, rfl⟩ := List.getElem_of_mem hx
            exact hall.out i hi (by omega)
          clear hall
          go_wp2
          clear hj hjl
          go_loop [4] (fun i => ∃ j : Nat, j ≤ L.length ∧ i = .int .i64 j ∧ Hid (∀ i (h : i < L.length), i < j → L[i].s.fs.length ≤ 40 ∧ L[i].s.pr.length ≤ 40 ∧ ∀ f ∈ L[i].s.fs, f.vs.length ≤ 40)) (fun i => L.length - (intOf i).toNat)
          case atStart => exact ⟨0, Nat.zero_le _, rfl, fun i _ h => absurd h (Nat.not_lt_zero _)⟩
          case round =>
            obtain ⟨j, hj, rfl, hall⟩ := hrel
            by_cases hjl : j < L.length
            · obtain ⟨bb, o, rfl, hlt, hc⟩ := Ls_some TL.out hjl
              obtain ⟨c1, c2, c3, c4⟩ := hc j hjl
              have HX := TL.out.2 _ (List.getElem_mem hjl)
              have HNX : Hid (¬ (L[j].s.fs.length ≤ 40 ∧ L[j].s.pr.length ≤ 40 ∧ ∀ f ∈ L[j].s.fs, f.vs.length ≤ 40) → .returned (.bool false) = (.returned (.bool (M.smallSt ⟨dd, bndOf B, lclOf L⟩)) : Ending)) := fun hn => HNO.out fun h => hn (h.2.2.2 L[j].p (List.mem_map.2 ⟨_, List.getElem_mem hjl, rfl⟩))
              obtain ⟨x, hx⟩ : ∃ x, L[j] = x := ⟨_, rfl⟩
              rw [hx] at c1 c2 c3 c4 HX HNX
              have HXE := hid hx
              clear hc hx
              obtain ⟨xx, xs, xfa, xfn, xpa, xpn⟩ := x
              obtain ⟨⟨R, hR, hRs⟩, _⟩ := ShAt.parts HX.2
              simp only at c1 c2 c3 c4 hR hRs HNX
              have HR := hid hR
              have HRS := hid hRs
              have hRl : R.length = xs.fs.length := by rw [← hR, fldOf_len]
              have HRL := hid hRl
              clear HX hR hRs hRl
              by_cases h3 : xs.fs.length ≤ 40
              · by_cases h4 : xs.pr.length ≤ 40
                · have f1 : decide ((xs.fs.length : Int) > 40) = false := decide_eq_false (by omega)
                  have f2 : decide ((xs.pr.length : Int) > 40) = false := decide_eq_false (by omega)
                  have H3 := hid h3
                  have H4 := hid h4
                  go_wp2
                  clear f1 f2
                  go_loop [5] (fun i => ∃ k : Nat, k ≤ xs.fs.length ∧ i = .int .i64 k ∧ Hid (∀ i (h : i < R.length), i < k → R[i].f.vs.length ≤ 40)) (fun i => xs.fs.length - (intOf i).toNat)
                  case atStart => exact ⟨0, Nat.zero_le _, rfl, fun i _ h => absurd h (Nat.not_lt_zero _)⟩
                  case round =>
                    obtain ⟨k, hk, rfl, hallk⟩ := hrel
                    by_cases hkl : k < xs.fs.length
                    · have hkR : k < R.length := by have := HRL.out; omega
                      obtain ⟨b2, o2, rfl, hlt2, hc2⟩ := Rs_some HRS.out hkR
                      obtain ⟨e1, e2, e3⟩ := hc2 k hkR
                      have HMEM : Hid (R[k].f ∈ xs.fs) := by unfold Hid; rw [← HR.out]; exact List.mem_map.2 ⟨_, List.getElem_mem hkR, rfl⟩
                      obtain ⟨y, hy⟩ : ∃ y, R[k] = y := ⟨_, rfl⟩
                      rw [hy] at e1 e2 e3 HMEM
                      have HYE := hid hy
                      clear hy hc2
                      by_cases h40 : y.f.vs.length ≤ 40
                      · have f1 : decide ((y.f.vs.length : Int) > 40) = false := decide_eq_false (by omega)
                        have H40 := hid h40
                        clear h40
                        go_wp2
                        refine ⟨⟨k + 1, by omega, by go_num, hid fun i hi hij => ?_⟩, by simp [intOf]; omega⟩
                        rcases Nat.lt_succ_iff_lt_or_eq.1 hij with h' | rfl
                        · exact hallk.out i hi h'
                        · rw [HYE.out]; exact H40.out
                      · have f1 : decide ((y.f.vs.length : Int) > 40) = true := decide_eq_true (by omega)
                        have H40 := hid h40
                        clear h40
                        go_wp2
                        go_ret
                        exact ⟨HNX.out fun h => H40.out (h.2.2 _ HMEM.out), B0.out⟩
                    · have HF : Hid (∀ f ∈ xs.fs, f.vs.length ≤ 40) := fun f hf => by
                        rw [← HR.out] at hf
                        obtain ⟨y, hy, rfl⟩ := List.mem_map.1 hf
                        obtain ⟨i, hi, rfl⟩ := List.getElem_of_mem hy
                        exact hallk.out i hi (by have := HRL.out; omega)
                      clear hallk
                      go_wp2
                      refine ⟨⟨j + 1, by omega, by go_num, hid fun i hi hij => ?_⟩, by simp [intOf]; omega⟩
                      rcases Nat.lt_succ_iff_lt_or_eq.1 hij with h' | rfl
                      · exact hall.out i hi h'
                      · rw [HXE.out]; exact ⟨H3.out, H4.out, HF.out⟩
                · have f1 : decide ((xs.fs.length : Int) > 40) = false := decide_eq_false (by omega)
                  have f2 : decide ((xs.pr.length : Int) > 40) = true := decide_eq_true (by omega)
                  have H4 := hid h4
                  go_wp2
                  go_ret
                  exact ⟨HNX.out fun h => H4.out h.2.1, B0.out⟩
              · have f1 : decide ((xs.fs.length : Int) > 40) = true := decide_eq_true (by omega)
                have H3 := hid h3
                go_wp2
                go_ret
                exact ⟨HNX.out fun h => H3.out h.1, B0.out⟩
            · have HLL : Hid (M.smallSt ⟨dd, bndOf B, lclOf L⟩ = true) := (M.small_iff _).2 ⟨by rw [bndOf_len]; exact H1.out, by rw [lclOf_len]; exact H2.out, HB.out, fun z hz => by
                obtain ⟨x, hx, rfl⟩ := List.mem_map.1 hz
                obtain ⟨i, hi, rfl⟩ := List.getElem_of_mem hx
                exact hall.out i hi (by omega)⟩
              go_wp2
              go_ret
              exact ⟨ret_bool HLL.out.symm, B0.out⟩
    · have f1 : decide ((B.length : Int) > 40) = false := decide_eq_false (by omega)
      have f2 : decide ((L.length : Int) > 40) = true := decide_eq_true (by omega)
      have H2 := hid h2
      go_enter Tryz.func8, Tryz.ntmps8
      go_wp2
      go_ret
      exact ⟨HNO.out fun h => H2.out (by rw [← lclOf_len]; exact h.2.1), B0.out⟩
  · have f1 : decide ((B.length : Int) > 40) = true := decide_eq_true (by omega)
    have H1 := hid h1
    go_enter Tryz.func8, Tryz.ntmps8
    go_wp2
    go_ret
    exact ⟨HNO.out fun h => H1.out (by rw [← bndOf_len]; exact h.1), B0.out⟩
end Go.Proofs.YtbaaeobdjiglgaaGreat
