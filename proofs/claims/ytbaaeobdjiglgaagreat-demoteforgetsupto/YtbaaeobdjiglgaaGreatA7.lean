/-
  The walk of slices.Compact over atoms: each once, of those that stand side by side. Conditions: lists of at most 2^20 atoms, in a row that the call has made itself.
-/
import Derived.Test.YtbaaeobdjiglgaaGreatGB
import Derived.Laws.IdiomCopy
set_option linter.unusedVariables false
set_option linter.unusedSimpArgs false
namespace Go.Proofs.YtbaaeobdjiglgaaGreat
open Go.RowKit Go.Sort

/-- the n atoms f 0, f 1, .. lie one behind the other from cell o on -/
def CellsF (W : World) (g o n : Nat) (f : Nat → M.Atm) : Prop :=
  ∀ i, i < n → W.cell? ⟨g, o + i * 2, none⟩ = some (.int .i64 (f i).k) ∧ W.cell? ⟨g, o + i * 2 + 1, none⟩ = some (.int .i64 (f i).n) ∧ W.frozen? ⟨g, o + i * 2, none⟩ = false ∧ W.frozen? ⟨g, o + i * 2 + 1, none⟩ = false
def upd (f : Nat → M.Atm) (k : Nat) (x : M.Atm) : Nat → M.Atm := fun i => if i = k then x else f i
/-- how far the second loop is -/
def CInv (l : List M.Atm) (m K : Nat) (f : Nat → M.Atm) : Prop :=
  K < m ∧ (List.range K).map f = M.cpl (l.take m) ∧ ∀ i (h : i < l.length), m ≤ i + 1 → f i = l[i]
theorem range_get {l : List M.Atm} {k : Nat} {f : Nat → M.Atm} (hk : k ≤ l.length) (hf : ∀ i (h : i < l.length), f i = l[i]) : (List.range k).map f = l.take k := by
  apply List.ext_getElem
  · simp; omega
  · intro i h1 h2
    simp at h1 h2 ⊢
    exact hf i (by omega)
theorem cinv_start {l : List M.Atm} {t : Nat} {f : Nat → M.Atm} (ht : t + 1 < l.length) (h : M.cpl (l.take (t + 1)) = l.take (t + 1)) (he : l[t + 1] = l[t]) (hf : ∀ i (h : i < l.length), f i = l[i]) : CInv l (t + 1 + 1) (t + 1) f := by
  refine ⟨by omega, ?_, fun i hi _ => hf i hi⟩
  rw [M.cpl_step ht, if_pos he.symm, h]
  exact range_get (by omega) hf
theorem cinv_same {l : List M.Atm} {t K : Nat} {f : Nat → M.Atm} (h : CInv l (t + 1) K f) (ht : t + 1 < l.length) (he : l[t + 1] = l[t]) : CInv l (t + 1 + 1) K f := by
  obtain ⟨h1, h2, h3⟩ := h
  refine ⟨by omega, ?_, fun i hi hm => h3 i hi (by omega)⟩
  rw [M.cpl_step ht, if_pos he.symm]
  exact h2
theorem cinv_more {l : List M.Atm} {t K : Nat} {f : Nat → M.Atm} (h : CInv l (t + 1) K f) (ht : t + 1 < l.length) (he : l[t + 1] ≠ l[t]) : CInv l (t + 1 + 1) (K + 1) (upd f K l[t + 1]) := by
  obtain ⟨h1, h2, h3⟩ := h
  refine ⟨by omega, ?_, fun i hi hm => ?_⟩
  · rw [M.cpl_step ht, if_neg (fun e => he e.symm), ← h2, List.range_succ, List.map_append]
    congr 1
    · refine List.map_congr_left fun i hi => ?_
      have := List.mem_range.1 hi
      unfold upd
      rw [if_neg (by omega)]
    · simp [upd]
  · unfold upd
    rw [if_neg (by omega)]
    exact h3 i hi (by omega)
theorem CellsF.set {W : World} {g o n K : Nat} {f : Nat → M.Atm} (h : CellsF W g o n f) (hK : K < n) (x : M.Atm) :
    CellsF ((W.setCell ⟨g, o + K * 2, none⟩ (.int .i64 x.k)).setCell ⟨g, o + K * 2 + 1, none⟩ (.int .i64 x.n)) g o n (upd f K x) := by
  intro i hi
  obtain ⟨c1, c2, c3, c4⟩ := h i hi
  refine ⟨?_, ?_, by rw [World.frozen?_setCell, World.frozen?_setCell]; exact c3, by rw [World.frozen?_setCell, World.frozen?_setCell]; exact c4⟩
  · rw [World.cell?_setCell_other _ _ _ _ (by simp <;> omega)]
    unfold upd
    by_cases e : i = K
    · subst e
      rw [if_pos rfl]; exact World.cell?_setCell_same _ _ _ c1
    · rw [if_neg e, World.cell?_setCell_other _ _ _ _ (by simp <;> omega)]; exact c1
  · unfold upd
    by_cases e : i = K
    · subst e
      rw [if_pos rfl]
      refine World.cell?_setCell_same _ _ _ (u := .int .i64 (f i).n) ?_
      rw [World.cell?_setCell_other _ _ _ _ (by simp)]; exact c2
    · rw [if_neg e, World.cell?_setCell_other _ _ _ _ (by simp <;> omega), World.cell?_setCell_other _ _ _ _ (by simp <;> omega)]; exact c2
theorem CellsF.drewN {W : World} {g o n : Nat} {f : Nat → M.Atm} (h : CellsF W g o n f) (q : Nat) : CellsF (W.drewN q) g o n f := h
/-- what is cleared -/
def zs (m : Nat) : List Value := (Builtin.zeroCells #[.int .i64 0, .int .i64 0] m).toList
theorem zs_length (m : Nat) : (zs m).length = m * 2 := by simp [zs, Builtin.zeroCells]
theorem zs_one (m : Nat) : ∀ v ∈ zs m, v.oneCell' = true := by
  intro v hv
  simp only [zs, Builtin.zeroCells, Array.toList_map, List.mem_map] at hv
  obtain ⟨i, _, rfl⟩ := hv
  rcases Nat.mod_two_eq_zero_or_one i with h | h
  · rw [show (#[Value.int .i64 0, .int .i64 0] : Array Value).size = 2 from rfl, h]; rfl
  · rw [show (#[Value.int .i64 0, .int .i64 0] : Array Value).size = 2 from rfl, h]; rfl
theorem run_clear (w : World) (ty : TypeId) (b o m c : Nat) (hm : 0 < m) (hc : ∀ j, j < m * 2 → (w.cell? ⟨b, o + j, none⟩).isSome = true) (hf : ∀ j, j < m * 2 → w.frozen? ⟨b, o + j, none⟩ = false) :
    (Builtin.clear_ #[29] ty #[.slice (some ⟨b, o, none⟩) m c]).run Tryz.prog w = .ok (.tuple #[]) (w.setCells b o (zs m)) := by
  have hst := run_storeCells_cells (P := Tryz.prog) b o (zs m) 0 w (by rw [zs_length]; simpa using hc) (by rw [zs_length]; simpa using hf) (zs_one m)
  simp only [Nat.add_zero] at hst
  have hz : ∀ w, (zeroValue 34).run Tryz.prog w = .ok (.agg #[.int .i64 0, .int .i64 0]) w := Tryz.zeroValue34
  obtain ⟨k, rfl⟩ : ∃ k, m = k + 1 := ⟨m - 1, by omega⟩
  have hcs : (Value.agg #[.int .i64 0, .int .i64 0]).cells = #[.int .i64 0, .int .i64 0] := rfl
  unfold zs at hst ⊢
  simp [Builtin.clear_, run_underlying Tryz.underlying29, hz, hcs, hst]
theorem CellsF.cleared {W : World} {g o n K : Nat} {f : Nat → M.Atm} (h : CellsF W g o n f) (hK : K ≤ n) (m : Nat) : CellsF (W.setCells g (o + K * 2) (zs m)) g o K f := by
  intro i hi
  obtain ⟨c1, c2, c3, c4⟩ := h i (by omega)
  refine ⟨?_, ?_, by rw [World.frozen?_setCells]; exact c3, by rw [World.frozen?_setCells]; exact c4⟩
  · rw [World.cell?_setCells_out _ _ _ _ _ (fun _ _ => .inl (by simp <;> omega))]; exact c1
  · rw [World.cell?_setCells_out _ _ _ _ _ (fun _ _ => .inl (by simp <;> omega))]; exact c2
theorem grown_setCells {w W : World} {g : Nat} (h : w.grownBy W (some g)) : ∀ (vs : List Value) (o : Nat), w.grownBy (W.setCells g o vs) (some g)
  | vs, o => by
    induction vs generalizing W o with
    | nil => exact h
    | cons v r ih =>
      refine ih ?_ _
      exact ⟨h.os, h.tape, h.output, by simpa [World.setCell] using h.size, fun k hk hne => by
        rw [Below.heap_setCell _ _ _ _ (fun e => hne (by simp at e; rw [e]))]; exact h.block k hk hne⟩
theorem grown_set {w W : World} {g p : Nat} (h : w.grownBy W (some g)) (v : Value) : w.grownBy (W.setCell ⟨g, p, none⟩ v) (some g) := grown_setCells h [v] p
theorem grown_drewN {w W : World} {g : Option Nat} (h : w.grownBy W g) (n : Nat) : w.grownBy (W.drewN n) g := ⟨h.os, h.tape, h.output, h.size, h.block⟩
/-- what is left is a list -/
theorem CellsF.at {W : World} {g o K cap : Nat} {f : Nat → M.Atm} {l : List M.Atm} (h : CellsF W g o K f) (hl : (List.range K).map f = l) (hg : g < W.heap.size) (hK : K ≤ cap) (hm : cap ≤ maxLen) (hr : ∀ x ∈ l, InR x.n) : AtAt W (.slice (some ⟨g, o, none⟩) K cap) l := by
  have hlen : l.length = K := by rw [← hl]; simp
  refine ⟨hr, _, cap, by rw [hlen], .inr ⟨g, o, rfl, hg, ⟨by omega, hm⟩, fun i hi => ?_⟩⟩
  obtain ⟨c1, c2, _, _⟩ := h i (by omega)
  have e : l[i] = f i := by subst hl; simp
  rw [e]
  exact ⟨c1, c2⟩

set_option maxHeartbeats 2000000 in
set_option maxRecDepth 100000 in
theorem compact_any (w : World) (g o cap : Nat) (l : List M.Atm) (f : Nat → M.Atm) (h : CellsF w g o l.length f) (hf : ∀ i (h : i < l.length), f i = l[i]) (hg : g < w.heap.size) (hcap : l.length ≤ cap) (hm : cap ≤ maxLen) (hr : ∀ x ∈ l, InR x.n) (hn : l.length ≤ 1048576) :
    Calls Tryz.prog 81 #[.slice (some ⟨g, o, none⟩) l.length cap] w fun e w' => ∃ K9 c9, e = .returned (.slice (some ⟨g, o, none⟩) K9 c9) ∧ AtAt w' (.slice (some ⟨g, o, none⟩) K9 c9) (M.cpl l) ∧ w.grownBy w' (some g) := by
  have mixed := mixedP
  have hg1 := guardA
  have HF := hid hf
  have HR : Hid (∀ x ∈ M.cpl l, InR x.n) := fun x hx => hr x ((M.mem_cpl x l).1 hx)
  clear hf hr
  by_cases h2 : l.length < 2
  · have HH := hid h
    clear h
    go_enter Tryz.func81, Tryz.ntmps81
    go_wp2
    go_ret
    rw [M.cpl_short h2] at HR ⊢
    exact ⟨_, _, rfl, CellsF.at HH.out (by rw [range_get (Nat.le_refl _) HF.out, List.take_length]) hg hcap hm HR.out, World.grownBy.refl _ _⟩
  · have HH := hid h
    clear h
    go_enter Tryz.func81, Tryz.ntmps81
    go_wp2
    go_loopw [3] (fun i w' => ∃ k : Nat, 1 ≤ k ∧ k ≤ l.length ∧ i = .int .i64 k ∧ Hid (M.cpl (l.take k) = l.take k) ∧ Hid (∃ q, w' = w.drewN q)) (fun i _ => l.length - (intOf i).toNat)
    case atStart => exact ⟨1, Nat.le_refl _, by omega, rfl, M.cpl_one (by omega), ⟨0, rfl⟩⟩
    case round =>
      obtain ⟨k, hk1, hkl, rfl, hC, hW⟩ := hrel
      obtain ⟨q, hw⟩ := hW.out
      clear hW
      have HW := hid hw
      by_cases hlt : k < l.length
      · obtain ⟨t, ht⟩ : ∃ t, k = t + 1 := ⟨k - 1, by omega⟩
        have htl : t < l.length := by omega
        have hsub : IntKind.i64.wrap ((k : Int) - 1) = (t : Int) := by rw [IntKind.wrap_i64]; omega
        have HT := hid ht
        clear ht
        have CK : CellsF wr g o l.length f := by rw [hw]; exact HH.out
        obtain ⟨c1, c2, _, _⟩ := CK k hlt
        obtain ⟨d1, d2, _, _⟩ := CK t htl
        have HCK := hid CK
        clear hw CK
        obtain ⟨x, hx⟩ : ∃ x, f k = x := ⟨_, rfl⟩
        obtain ⟨y, hy⟩ : ∃ y, f t = y := ⟨_, rfl⟩
        rw [hx] at c1 c2
        rw [hy] at d1 d2
        have HX := hid hx
        have HY := hid hy
        clear hx hy
        have he := fun w' => eql_atm x y w'
        by_cases hxy : x = y
        · have HXY := hid hxy
          rw [decide_eq_true hxy] at he
          clear hxy
          have hne : ¬ cap = k := by omega
          go_wp2_with fail
          go_quiet (fail)
          go_wp2
          clear c1 c2 d1 d2 he
          have GW : Hid (w.grownBy (wr.drewN nq) (some g)) := by rw [HW.out, World.drewN_drewN]; exact grown_drewN (World.grownBy.refl _ _) _
          have CW : Hid (CellsF (wr.drewN nq) g o l.length f) := HCK.out
          have CS : Hid (CInv l (k + 1) k f) := by
            have ht := HT.out
            subst ht
            exact cinv_start hlt hC.out (by rw [← HF.out _ hlt, ← HF.out _ htl, HX.out, HY.out, HXY.out]) HF.out
          generalize wr.drewN nq = w1 at GW CW ⊢
          clear hsub hC HW HCK HX HY HXY HT htl
          go_loopw [3, 5] (fun i j w' => ∃ (K k2 : Nat) (f' : Nat → M.Atm), i = .int .i64 K ∧ j = .int .i64 k2 ∧ 1 ≤ k2 ∧ k + k2 ≤ l.length ∧ Hid (CInv l (k + k2) K f') ∧ Hid (CellsF w' g o l.length f') ∧ Hid (w.grownBy w' (some g))) (fun _ j _ => l.length - (intOf j).toNat)
          case atStart => exact ⟨k, 1, f, rfl, rfl, Nat.le_refl _, by omega, CS, CW, GW⟩
          case round =>
            obtain ⟨K, k2, f', rfl, rfl, hk2, hle, hI, hCF, hGW⟩ := hrel
            clear CS CW GW
            have hKm := hI.out.1
            have hKl : K < l.length := by omega
            by_cases hlt2 : k + k2 < l.length
            · obtain ⟨t2, ht2⟩ : ∃ t2, k2 = t2 + 1 := ⟨k2 - 1, by omega⟩
              have ht2l : t2 < l.length - k := by omega
              have hk2l : k2 < l.length - k := by omega
              have hsub2 : IntKind.i64.wrap ((k2 : Int) - 1) = (t2 : Int) := by rw [IntKind.wrap_i64]; omega
              have em : k + k2 = (k + t2) + 1 := by omega
              have hml : (k + t2) + 1 < l.length := by omega
              have htl2 : k + t2 < l.length := by omega
              obtain ⟨c1, c2, _, _⟩ := hCF.out ((k + t2) + 1) hml
              obtain ⟨d1, d2, _, _⟩ := hCF.out (k + t2) htl2
              obtain ⟨e1, e2, e3, e4⟩ := hCF.out K hKl
              rw [hI.out.2.2 _ hml (by omega)] at c1 c2
              rw [hI.out.2.2 _ htl2 (by omega)] at d1 d2
              rw [show o + (k + t2 + 1) * 2 = o + k * 2 + k2 * 2 by omega] at c1 c2
              rw [show o + (k + t2) * 2 = o + k * 2 + t2 * 2 by omega] at d1 d2
              obtain ⟨x, hx⟩ : ∃ x, l[k + t2 + 1] = x := ⟨_, rfl⟩
              obtain ⟨y, hy⟩ : ∃ y, l[k + t2] = y := ⟨_, rfl⟩
              rw [hx] at c1 c2
              rw [hy] at d1 d2
              have HX := hid hx
              have HY := hid hy
              have HT := hid ht2
              have HEM := hid em
              obtain ⟨u1, hu1⟩ : ∃ u, (f' K).k = u := ⟨_, rfl⟩
              obtain ⟨u2, hu2⟩ : ∃ u, (f' K).n = u := ⟨_, rfl⟩
              rw [hu1] at e1
              rw [hu2] at e2
              clear hx hy ht2 em hu1 hu2
              have he := fun w' => neq_atm x y w'
              by_cases hxy : x = y
              · have HXY := hid hxy
                rw [decide_eq_true hxy] at he
                simp only [Bool.not_true] at he
                clear hxy e1 e2 e3 e4
                go_wp2_with fail
                go_quiet (fail)
                go_wp2
                refine ⟨⟨K, k2 + 1, f', rfl, by go_num, by omega, by omega, ?_, hCF.out.drewN _, grown_drewN hGW.out _⟩, by simp [intOf]; omega⟩
                have := hI.out
                rw [HEM.out] at this
                have := cinv_same this hml (by rw [HX.out, HY.out, HXY.out])
                rw [← HEM.out] at this
                exact this
              · have HXY := hid hxy
                rw [decide_eq_false hxy] at he
                simp only [Bool.not_false] at he
                clear hxy
                go_wp2_with fail
                go_quiet (fail)
                go_wp2
                refine ⟨⟨K + 1, k2 + 1, upd f' K x, by go_num, by go_num, by omega, by omega, ?_, (hCF.out.drewN nq).set hKl x, grown_set (grown_set (grown_drewN hGW.out _) _) _⟩, by simp [intOf]; omega⟩
                have := hI.out
                rw [HEM.out] at this
                have := cinv_more this hml (by rw [HX.out, HY.out]; exact HXY.out)
                rw [HX.out, ← HEM.out] at this
                exact this
            · have hend : k + k2 = l.length := by omega
              have hne2 : ¬ cap = K := by omega
              have hcl : ∀ ty, (Builtin.clear_ #[29] ty #[.slice (some ⟨g, o + K * 2, none⟩) (l.length - K) (cap - K)]).run Tryz.prog wr = .ok (.tuple #[]) (wr.setCells g (o + K * 2) (zs (l.length - K))) := fun ty => by
                have hcell : ∀ j, j < (l.length - K) * 2 → (wr.cell? ⟨g, o + K * 2 + j, none⟩).isSome = true ∧ wr.frozen? ⟨g, o + K * 2 + j, none⟩ = false := by
                  intro j hj
                  obtain ⟨i, hi⟩ : ∃ i, j = i * 2 ∨ j = i * 2 + 1 := ⟨j / 2, by omega⟩
                  obtain ⟨a1, a2, a3, a4⟩ := hCF.out (K + i) (by omega)
                  rw [show o + (K + i) * 2 = o + K * 2 + i * 2 by omega] at a1 a2 a3 a4
                  rcases hi with rfl | rfl
                  · exact ⟨by rw [a1]; rfl, a3⟩
                  · rw [← Nat.add_assoc]; exact ⟨by rw [a2]; rfl, a4⟩
                exact run_clear wr ty g (o + K * 2) _ _ (by omega) (fun j hj => (hcell j hj).1) (fun j hj => (hcell j hj).2)
              have HEND := hid hend
              clear hend
              go_wp2
              go_ret
              refine ⟨_, _, rfl, CellsF.at (hCF.out.cleared (by omega) _) ?_ ?_ (by omega) hm HR.out, grown_setCells hGW.out _ _⟩
              · rw [hI.out.2.1, HEND.out, List.take_length]
              · exact Nat.lt_of_lt_of_le hg (grown_setCells hGW.out _ _).size
        · have HXY := hid hxy
          rw [decide_eq_false hxy] at he
          clear hxy
          go_wp2_with fail
          go_quiet (fail)
          go_wp2
          obtain rfl := HT.out
          refine ⟨⟨t + 1 + 1, by omega, by omega, by go_num, ?_, ⟨q + nq, by rw [HW.out, World.drewN_drewN]⟩⟩, by simp [intOf]; omega⟩
          show _ = _
          rw [M.cpl_step hlt, if_neg (fun e => HXY.out (by rw [← HX.out, ← HY.out, HF.out _ hlt, HF.out _ htl, e])), hC.out, ← List.take_succ_eq_append_getElem hlt]
      · obtain rfl : k = l.length := by omega
        clear hw
        go_wp2
        go_ret
        have hC := hC.out
        rw [List.take_length] at hC
        rw [hC] at HR ⊢
        refine ⟨_, _, rfl, CellsF.at ?_ (by rw [range_get (Nat.le_refl _) HF.out, List.take_length]) ?_ hcap hm HR.out, ?_⟩
        · rw [HW.out]; exact HH.out
        · rw [HW.out]; exact hg
        · rw [HW.out]; exact grown_drewN (World.grownBy.refl _ _) _
end Go.Proofs.YtbaaeobdjiglgaaGreat
