/-
  The walk of slices.Insert of one variable into a row of the call's own: at the end, in the room that there is, or in a new row. Conditions: rows of at most 100000 elements.
-/
import Derived.Test.YtbaaeobdjiglgaaGreatE1
import Derived.Test.YtbaaeobdjiglgaaGreatGH
import Derived.Laws.IdiomCopy
set_option linter.unusedVariables false
set_option linter.unusedSimpArgs false
namespace Go.Proofs.YtbaaeobdjiglgaaGreat
open Go.RowKit Go.Sort

theorem blk_bc {w : World} {vb : Nat} {x : Bnd} {T : TypeId} (hv : w.heap[vb]? = some (.cells #[.string x.nm, .slice x.a x.vs.length x.c] T (0, 0))) :
    ∀ j u, (bc x)[j]? = some u → w.cell? ⟨vb, 0 + j, none⟩ = some u := by
  intro j u hu
  rw [Nat.zero_add, Lib.cell_of_heap hv]
  exact (Array.getElem?_toList (xs := (#[.string x.nm, .slice x.a x.vs.length x.c] : Array Value))).symm.trans hu

set_option maxHeartbeats 4000000 in
set_option maxRecDepth 100000 in
/-- at the end -/
theorem insert_endB (w : World) (base : Nat) (q : Option Addr) (m : Nat) (R : List Bnd) (vb : Nat) (x : Bnd) (hrow : RowK 47 2 bc base w (.slice q R.length m) R) (hbase : base ≤ w.heap.size) (hn : R.length ≤ 100000)
    (hv : w.heap[vb]? = some (.cells #[.string x.nm, .slice x.a x.vs.length x.c] 47 (0, 0))) :
    Calls Tryz.prog 86 #[.slice q R.length m, .int .i64 R.length, .slice (some ⟨vb, 0, none⟩) 1 1] w fun e w' => ∃ v', e = .returned v' ∧ RowK 47 2 bc base w' v' (R ++ [x]) ∧ w.grownBy w' (Value.slice q R.length m).ownBlock := by
  obtain ⟨i0, hi, hz0, hz1, hz2⟩ := info_parts infoBind
  have mixed := mixedP
  have hnews : ∀ j u, (bc x)[j]? = some u → w.cell? ((⟨vb, 0, none⟩ : Addr).add j) = some u := fun j u hu => by
    rw [add_at]; exact blk_bc hv j u hu
  have hform := owns_form3 hrow
  have hcap : R.length ≤ m ∧ (m : Int) ≤ 9223372036854775807 := by
    rcases hform with ⟨e, h0⟩ | ⟨g, cap, e⟩
    · simp only [Value.slice.injEq] at e; omega
    · simp only [Value.slice.injEq] at e
      obtain ⟨rfl, _, rfl⟩ := e
      obtain ⟨_, _, _, h4, h5, _⟩ := RowK.cells bc_len hrow
      unfold maxLen at h5
      omega
  clear hform
  by_cases hm : m = R.length
  · subst hm
    go_enter Tryz.func86, Tryz.ntmps86
    go_wp2_with (at_builtin; refine wpList_append_own _ rfl _ _ 22 rfl base 47 i0 (.agg #[.string ⟨#[]⟩, .slice none 0 0]) 2 40 Tryz.underlying22 hi hz0 hz1 hz2 rfl (by decide) (.slice q R.length R.length) R.length (R.flatMap bc) rfl hrow ⟨vb, 0, none⟩ 1 1 (bc x) rfl rfl hnews (bc_one x) (by unfold maxLen; omega) (by omega) hbase ?_; intro v' w' hown hgrow _)
    go_ret
    exact ⟨_, rfl, RowK.snoc hown, hgrow⟩
  · go_enter Tryz.func86, Tryz.ntmps86
    go_wp2_with (at_builtin; refine wpList_append_own _ rfl _ _ 22 rfl base 47 i0 (.agg #[.string ⟨#[]⟩, .slice none 0 0]) 2 40 Tryz.underlying22 hi hz0 hz1 hz2 rfl (by decide) (.slice q R.length m) R.length (R.flatMap bc) rfl hrow ⟨vb, 0, none⟩ 1 1 (bc x) rfl rfl hnews (bc_one x) (by unfold maxLen; omega) (by omega) hbase ?_; intro v' w' hown hgrow _)
    go_ret
    exact ⟨_, rfl, RowK.snoc hown, hgrow⟩

set_option maxHeartbeats 4000000 in
set_option maxRecDepth 100000 in
/-- in the room that there is: all behind p goes up by one, in place -/
theorem insert_shiftB (w : World) (g n cap p vb : Nat) (cs : List Value) (x : Bnd) (hi : p < n) (hroom : n + 1 ≤ cap) (hc63 : cap ≤ 9223372036854775807) (hne : vb ≠ g) (hcl : cs.length = n * 2)
    (hcs : ∀ j v, cs[j]? = some v → w.cell? ⟨g, j, none⟩ = some v) (hsp : ∀ j, j < (n + 1) * 2 → (w.cell? ⟨g, j, none⟩).isSome = true) (hfz : ∀ j, w.frozen? ⟨g, j, none⟩ = false) (h1c : ∀ v ∈ cs, v.oneCell' = true)
    (hv : w.heap[vb]? = some (.cells #[.string x.nm, .slice x.a x.vs.length x.c] 47 (0, 0)))
    (tB : TypeId) (kB : Nat) (hsb : w.shape? g = some (tB, kB)) (hkB : kB ≠ 0) :
    Calls Tryz.prog 86 #[.slice (some ⟨g, 0, none⟩) n cap, .int .i64 p, .slice (some ⟨vb, 0, none⟩) 1 1] w fun e w' =>
      e = .returned (.slice (some ⟨g, 0, none⟩) (n + 1) cap) ∧ w' = (w.drew.setCells g ((p + 1) * 2) (cs.drop (p * 2))).setCells g (p * 2) (bc x) := by
  have mixed := mixedP
  have hsz : (Tryz.prog.info? 47).map (·.size) = some 2 := by kernel_rfl
  have hz2 : ¬ ((p : Int) = (n : Int)) := by omega
  have hsa : w.shape? vb = some (47, 2) := by unfold World.shape?; rw [hv]; rfl
  have hfa : ∀ j, w.frozen? ⟨vb, j, none⟩ = false := fun j => Lib.frozen_of_heap hv j
  have hov : ∀ lb cb, (callFunc 97 #[.slice (some ⟨vb, 0, none⟩) 1 1, .slice (some ⟨g, (p + 1) * 2, none⟩) lb cb]).run Tryz.prog w = .ok (.value (.bool false)) w := fun lb cb => by
    rw [run_callFunc_extern Tryz.func97 (by kernel_rfl) (by kernel_rfl) (by kernel_rfl) (e := Extern.SlicesOverlaps.overlaps #[22, 22] #[4]) (by kernel_rfl),
      Lib.run_overlaps_apart w 22 4 47 Tryz.underlying22 2 Tryz.sizeOf47 ⟨vb, 0, none⟩ ⟨g, (p + 1) * 2, none⟩ 1 1 lb cb hne 47 tB 2 kB hsa hsb hkB (hfa _) (hfa _)]
    rfl
  have hdl : (cs.drop (p * 2)).length = (n - p) * 2 := by rw [List.length_drop, hcl, Nat.sub_mul]
  have hw1 : IntKind.i64.wrap ((p : Int) + 1) = (p : Int) + 1 := by rw [IntKind.wrap_i64]; omega
  have hb1 : (0 : Int) ≤ (p : Int) + 1 := by omega
  have hin : p ≤ n := by omega
  have htn : ((p : Int) + 1).toNat = p + 1 := by omega
  have hb2 : ¬ (cap = p + 1) := by omega
  have hb3 : (p : Int) ≤ (n : Int) + 1 := by omega
  have hb4 : ¬ (cap = p) := by omega
  have hcp1 : ∀ ty dc sc, (Builtin.copy_ #[22, 22] ty #[.slice (some ⟨g, (p + 1) * 2, none⟩) (n + 1 - (p + 1)) dc, .slice (some ⟨g, p * 2, none⟩) (n + 1 - p) sc]).run Tryz.prog w.drew = .ok (goInt (Nat.min (n + 1 - p) (n + 1 - (p + 1)))) (w.drew.setCells g ((p + 1) * 2) (cs.drop (p * 2))) := fun ty dc sc =>
    run_copyK w.drew _ _ ty 47 2 g ((p + 1) * 2) (n + 1 - (p + 1)) dc ⟨g, p * 2, none⟩ (n + 1 - p) sc (cs.drop (p * 2)) Tryz.underlying22 hsz (by rw [hdl]; simp only [Nat.min_def]; split <;> omega)
      (fun j v hj => by rw [add_at]; exact hcs (p * 2 + j) v (by rwa [List.getElem?_drop] at hj))
      (fun j hj => hsp _ (by omega)) (fun j hj => hfz _) (fun v hv => h1c v (List.mem_of_mem_drop hv))
  obtain ⟨W1, hW1⟩ : ∃ W1, W1 = w.drew.setCells g ((p + 1) * 2) (cs.drop (p * 2)) := ⟨_, rfl⟩
  have hsp1 : ∀ k, k < (n + 1) * 2 → (W1.cell? ⟨g, k, none⟩).isSome = true := fun k hk => by
    rw [hW1]
    exact isSome_setC (cs.drop (p * 2)) _ w.drew (fun j hj => hsp _ (by rw [hdl] at hj; omega)) _ (hsp k hk)
  have hcp2 : ∀ (W : World), (∀ x, W.cell? x = W1.cell? x) → (∀ x, W.frozen? x = W1.frozen? x) → ∀ ty dc, (Builtin.copy_ #[22, 22] ty #[.slice (some ⟨g, p * 2, none⟩) (n + 1 - p) dc, .slice (some ⟨vb, 0, none⟩) 1 1]).run Tryz.prog W = .ok (goInt (Nat.min 1 (n + 1 - p))) (W.setCells g (p * 2) (bc x)) := fun W hWc hWf ty dc =>
    run_copyK W _ _ ty 47 2 g (p * 2) (n + 1 - p) dc ⟨vb, 0, none⟩ 1 1 (bc x) Tryz.underlying22 hsz (by rw [show (bc x).length = 2 from rfl]; simp only [Nat.min_def]; split <;> omega)
      (fun j v hj => by
        rw [add_at, hWc, hW1, World.cell?_setCells_out g _ _ _ _ (fun h _ => absurd h hne)]
        exact blk_bc hv j v hj)
      (fun j hj => by rw [hWc]; exact hsp1 _ (by rw [show (bc x).length = 2 from rfl] at hj; omega)) (fun j hj => by rw [hWf, hW1, World.frozen?_setCells]; exact hfz _) (bc_one x)
  rw [← hW1] at hcp1
  go_enter Tryz.func86, Tryz.ntmps86
  go_wp2_with (simp only [hov])
  go_region_law_o (refine step_copyK rfl _ _ 22 22 rfl (.slice (some ⟨g, (p + 1) * 2, none⟩) (n + 1 - (p + 1)) (cap - (p + 1))) (.slice (some ⟨g, p * 2, none⟩) (n + 1 - p) (cap - p)) (by simp [Act.eval, Act.put]) (by simp [Act.eval, Act.put]) (hcp1 3 (cap - (p + 1)) (cap - p)) ?_)
  go_wp2_with (at_builtin; refine wpList_copyK _ rfl _ _ 22 22 rfl _ _ rfl rfl (hcp2 _ (fun _ => rfl) (fun _ => rfl) _ _) ?_)
  go_ret
  first | exact ⟨rfl, rfl⟩ | exact ⟨rfl, by rw [hW1]⟩

set_option maxHeartbeats 4000000 in
set_option maxRecDepth 100000 in
/-- where there is no room: in a new row -/
theorem insert_growB (w : World) (g n cap p vb : Nat) (cs : List Value) (x : Bnd) (hi : p < n) (hnc : n ≤ cap) (hroom : cap < n + 1) (hn : n ≤ 100000) (hcl : cs.length = n * 2)
    (hcs : ∀ j v, cs[j]? = some v → w.cell? ⟨g, j, none⟩ = some v) (h1c : ∀ v ∈ cs, v.oneCell' = true)
    (hv : w.heap[vb]? = some (.cells #[.string x.nm, .slice x.a x.vs.length x.c] 47 (0, 0))) :
    Calls Tryz.prog 86 #[.slice (some ⟨g, 0, none⟩) n cap, .int .i64 p, .slice (some ⟨vb, 0, none⟩) 1 1] w fun e w' => ∃ G ROW, n + 1 ≤ G ∧ G ≤ maxLen ∧ ROW.size = G * 2 ∧ (∀ j, j < p * 2 → ROW[j]? = cs[j]?) ∧
      e = .returned (.slice (some ⟨w.heap.size, 0, none⟩) (n + 1) G) ∧
      w' = (((w.alloc (.cells ROW 47)).drew.setCells w.heap.size (p * 2) (bc x)).drew).setCells w.heap.size ((p + 1) * 2) (cs.drop (p * 2)) := by
  have mixed := mixedP
  obtain ⟨i0, hi0, hz0, hzs, hzb⟩ := info_parts infoBind
  have hz2 : ¬ ((p : Int) = (n : Int)) := by omega
  have hz3 : (cap : Int) < (n : Int) + 1 := by omega
  have hsz : (Tryz.prog.info? 47).map (·.size) = some 2 := by kernel_rfl
  have hbw : g < w.heap.size := block_lt_of_cell (hcs 0 _ (List.getElem?_eq_getElem (by omega)))
  have hvw : vb < w.heap.size := (Array.getElem?_eq_some_iff.1 hv).1
  have hkk : (n : Int) + 1 - (p : Int) = ((n + 1 - p : Nat) : Int) := by omega
  have hik : p + (n + 1 - p) = n + 1 := by omega
  have hold : (Builtin.firstCells i0.size p (.slice (some ⟨g, 0, none⟩) p cap)).run Tryz.prog w.drew = .ok (cs.take (p * 2)).toArray w.drew := by
    rw [hzs]
    exact run_firstCells_some w.drew 2 p ⟨g, 0, none⟩ p cap (cs.take (p * 2)) (by rw [List.length_take]; omega) (fun j v hj => by
      rw [add_at, Nat.zero_add]
      rw [List.getElem?_take] at hj
      split at hj
      · exact hcs j v hj
      · cases hj)
  have hrz : ∀ ty, (Builtin.append_ #[22, 3] ty #[.slice (some ⟨g, 0, none⟩) p cap, .int .i64 ((n : Int) + 1 - (p : Int))]).run Tryz.prog w =
      .ok (.slice (some ⟨w.heap.size, 0, none⟩) (n + 1) (grownCap w (n + 1) cap 47)) (w.drew.alloc (.cells ((cs.take (p * 2)).toArray ++ Builtin.zeroCells (Value.agg #[.string ⟨#[]⟩, .slice none 0 0]).cells (n + 1 - p) ++ Builtin.zeroCells (Value.agg #[.string ⟨#[]⟩, .slice none 0 0]).cells (grownCap w (n + 1) cap 47 - (n + 1))) 47)) := fun ty => by
    have h := Lib.run_append_grow_zeros w 22 3 ty 47 i0 _ .i64 .i64 Tryz.underlying22 Tryz.underlying3 hi0 hz0 (some ⟨g, 0, none⟩) p cap (cs.take (p * 2)) hold (n + 1 - p) (by omega) (by omega) (by omega) (by omega) (by rw [hzb]; omega) (by rw [hzb, hik]; exact growslice_fits hroom (by omega))
    rw [hik] at h
    rw [hkk]
    exact h
  have hGn := grownCap_ge w (n + 1) cap 47
  have hGm := grownCap_le_maxLen w (n + 1) cap 47 (by unfold maxLen; omega)
  obtain ⟨G, hG⟩ : ∃ G, G = grownCap w (n + 1) cap 47 := ⟨_, rfl⟩
  obtain ⟨ROW, hROW⟩ : ∃ ROW : Array Value, ROW = (cs.take (p * 2)).toArray ++ Builtin.zeroCells (Value.agg #[.string ⟨#[]⟩, .slice none 0 0]).cells (n + 1 - p) ++ Builtin.zeroCells (Value.agg #[.string ⟨#[]⟩, .slice none 0 0]).cells (G - (n + 1)) := ⟨_, rfl⟩
  rw [← hG] at hrz hGn hGm
  rw [← hROW] at hrz
  have hRl : ROW.size = G * 2 := by
    rw [hROW]
    have h3 : (Value.agg #[.string ⟨#[]⟩, .slice none 0 0]).cells.size = 2 := by decide
    simp only [Array.size_append, List.size_toArray, List.length_take, Builtin.zeroCells, Array.size_map, Array.size_range, h3]
    omega
  have hRj : ∀ j, j < p * 2 → ROW[j]? = cs[j]? := fun j hj => by
    rw [hROW, Array.append_assoc, Array.getElem?_append_left (by simp only [List.size_toArray, List.length_take]; omega), List.getElem?_toArray, List.getElem?_take, if_pos hj]
  obtain ⟨W1, hW1⟩ : ∃ W1, W1 = w.drew.alloc (.cells ROW 47) := ⟨_, rfl⟩
  rw [← hW1] at hrz
  have hN : ∀ j, j < (n + 1) * 2 → (W1.cell? ⟨w.heap.size, j, none⟩).isSome = true := fun j hj => by
    rw [hW1, World.cell?_alloc_at (w := w.drew) ROW _ w.heap.size j rfl, Array.getElem?_eq_getElem (by omega)]; rfl
  have hNf : ∀ j, W1.frozen? ⟨w.heap.size, j, none⟩ = false := fun j => by rw [hW1]; exact World.frozen?_alloc_at (w := w.drew) ROW _ w.heap.size j rfl
  have hOb : ∀ j v, w.cell? ⟨g, j, none⟩ = some v → W1.cell? ⟨g, j, none⟩ = some v := fun j v h => by rw [hW1, World.cell?_alloc_past (w := w.drew) _ g j hbw]; exact h
  have hOv : ∀ j v, w.cell? ⟨vb, j, none⟩ = some v → W1.cell? ⟨vb, j, none⟩ = some v := fun j v h => by rw [hW1, World.cell?_alloc_past (w := w.drew) _ vb j hvw]; exact h
  have hdl : (cs.drop (p * 2)).length = (n - p) * 2 := by rw [List.length_drop, hcl, Nat.sub_mul]
  have hcpA : ∀ (W : World), (∀ x, W.cell? x = W1.cell? x) → (∀ x, W.frozen? x = W1.frozen? x) → ∀ ty dc, (Builtin.copy_ #[22, 22] ty #[.slice (some ⟨w.heap.size, p * 2, none⟩) (n + 1 - p) dc, .slice (some ⟨vb, 0, none⟩) 1 1]).run Tryz.prog W = .ok (goInt (Nat.min 1 (n + 1 - p))) (W.setCells w.heap.size (p * 2) (bc x)) := fun W hWc hWf ty dc =>
    run_copyK W _ _ ty 47 2 w.heap.size (p * 2) (n + 1 - p) dc ⟨vb, 0, none⟩ 1 1 (bc x) Tryz.underlying22 hsz (by rw [show (bc x).length = 2 from rfl]; simp only [Nat.min_def]; split <;> omega)
      (fun j v hj => by rw [add_at, hWc]; exact hOv _ v (blk_bc hv j v hj))
      (fun j hj => by rw [hWc]; exact hN _ (by rw [show (bc x).length = 2 from rfl] at hj; omega)) (fun j hj => by rw [hWf]; exact hNf _) (bc_one x)
  have hG63 : (G : Int) ≤ 9223372036854775807 := by unfold maxLen at hGm; omega
  have hGi : ¬ (G = p) := by omega
  have hGim : ¬ (G = p + 1) := by omega
  have hci : ¬ (cap = p) := by omega
  have hbN : g ≠ w.heap.size := by omega
  have hcpB : ∀ (W : World), (∀ y, W.cell? y = (W1.setCells w.heap.size (p * 2) (bc x)).cell? y) → (∀ y, W.frozen? y = (W1.setCells w.heap.size (p * 2) (bc x)).frozen? y) → ∀ ty dc sc, (Builtin.copy_ #[22, 22] ty #[.slice (some ⟨w.heap.size, (p + 1) * 2, none⟩) (n + 1 - (p + 1)) dc, .slice (some ⟨g, p * 2, none⟩) (n - p) sc]).run Tryz.prog W = .ok (goInt (Nat.min (n - p) (n + 1 - (p + 1)))) (W.setCells w.heap.size ((p + 1) * 2) (cs.drop (p * 2))) := fun W hWc hWf ty dc sc =>
    run_copyK W _ _ ty 47 2 w.heap.size ((p + 1) * 2) (n + 1 - (p + 1)) dc ⟨g, p * 2, none⟩ (n - p) sc (cs.drop (p * 2)) Tryz.underlying22 hsz (by rw [hdl]; simp only [Nat.min_def]; split <;> omega)
      (fun j v hj => by
        rw [add_at, hWc, World.cell?_setCells_out _ _ _ _ _ (fun h _ => absurd h hbN)]
        exact hOb _ v (hcs (p * 2 + j) v (by rwa [List.getElem?_drop] at hj)))
      (fun j hj => by rw [hWc]; exact isSome_setC _ _ _ (fun t ht => hN _ (by rw [show (bc x).length = 2 from rfl] at ht; omega)) _ (hN _ (by rw [hdl] at hj; omega)))
      (fun j hj => by rw [hWf, World.frozen?_setCells]; exact hNf _) (fun v hv => h1c v (List.mem_of_mem_drop hv))
  subst hW1
  have hE1 : ∀ x, ((w.alloc (.cells ROW 47)).drew).cell? x = (w.drew.alloc (.cells ROW 47)).cell? x := fun x => rfl
  have hE2 : ∀ x, ((w.alloc (.cells ROW 47)).drew).frozen? x = (w.drew.alloc (.cells ROW 47)).frozen? x := fun x => rfl
  have hF1 : ∀ y, (((w.alloc (.cells ROW 47)).drew.setCells w.heap.size (p * 2) (bc x)).drew).cell? y = ((w.drew.alloc (.cells ROW 47)).setCells w.heap.size (p * 2) (bc x)).cell? y := fun y => rfl
  have hF2 : ∀ y, (((w.alloc (.cells ROW 47)).drew.setCells w.heap.size (p * 2) (bc x)).drew).frozen? y = ((w.drew.alloc (.cells ROW 47)).setCells w.heap.size (p * 2) (bc x)).frozen? y := fun y => rfl
  have hw1 : IntKind.i64.wrap ((p : Int) + 1) = (p : Int) + 1 := by rw [IntKind.wrap_i64]; omega
  have hb1 : (0 : Int) ≤ (p : Int) + 1 := by omega
  have hin : p ≤ n := by omega
  have htn : ((p : Int) + 1).toNat = p + 1 := by omega
  have hb3 : (p : Int) ≤ (n : Int) := by omega
  clear hkk hik hold hROW hG
  go_enter Tryz.func86, Tryz.ntmps86
  go_wp2_with (first
    | (at_builtin; refine wpList_apdK _ rfl _ _ 22 3 rfl _ _ rfl rfl (hrz _) ?_)
    | (at_builtin; refine wpList_copyK _ rfl _ _ 22 22 rfl _ _ rfl rfl (hcpA _ hE1 hE2 _ _) ?_)
    | (at_builtin; refine wpList_copyK _ rfl _ _ 22 22 rfl _ _ rfl rfl (hcpB _ (fun _ => rfl) (fun _ => rfl) _ _ _) ?_))
  go_region_law_o (refine step_copyK rfl _ _ 22 22 rfl (.slice (some ⟨w.heap.size, (p + 1) * 2, none⟩) (n + 1 - (p + 1)) (G - (p + 1))) (.slice (some ⟨g, p * 2, none⟩) (n - p) (cap - p)) (by simp [Act.eval, Act.put]) (by simp [Act.eval, Act.put]) (hcpB _ hF1 hF2 3 (G - (p + 1)) (cap - p)) ?_)
  go_wp2
  go_ret
  exact ⟨G, ROW, hGn, hGm, hRl, hRj, rfl, rfl⟩

set_option maxHeartbeats 8000000 in
/-- one variable is put at p -/
theorem insertB_any (w : World) (base : Nat) (v : Value) (R : List Bnd) (p vb : Nat) (x : Bnd) (hrow : RowK 47 2 bc base w v R) (hbase : base ≤ w.heap.size) (hp : p ≤ R.length) (hn : R.length ≤ 100000)
    (hv : w.heap[vb]? = some (.cells #[.string x.nm, .slice x.a x.vs.length x.c] 47 (0, 0))) (hne : v.ownBlock ≠ some vb) :
    Calls Tryz.prog 86 #[v, .int .i64 p, .slice (some ⟨vb, 0, none⟩) 1 1] w fun e w' => ∃ v', e = .returned v' ∧ RowK 47 2 bc base w' v' (R.take p ++ x :: R.drop p) ∧ w.grownBy w' v.ownBlock := by
  obtain ⟨q, m, rfl⟩ := hrow.form
  by_cases hpe : p = R.length
  · subst hpe
    rw [List.take_length, List.drop_length]
    exact insert_endB w base q m R vb x hrow hbase hn hv
  · have hlt : p < R.length := by omega
    obtain ⟨g, rfl⟩ : ∃ g, q = some ⟨g, 0, none⟩ := by
      rcases owns_form3 hrow with ⟨e, h0⟩ | ⟨g, cap, e⟩
      · omega
      · simp only [Value.slice.injEq] at e
        exact ⟨g, e.1⟩
    have hgv : vb ≠ g := fun e => hne (by rw [e]; rfl)
    rcases hrow.2 with ⟨e, _⟩ | ⟨g', cap', cur, e, hb, hh, hc1, hc2, hc3, hc4⟩
    · cases e
    simp only [Value.slice.injEq, Option.some.injEq, Addr.mk.injEq, and_true, true_and] at e
    obtain ⟨rfl, rfl⟩ := e
    have hcl : (R.flatMap bc).length = R.length * 2 := flat_lenK bc_len R
    have hcell : ∀ j, j < cur.size → w.cell? ⟨g, j, none⟩ = cur[j]? := fun j hj => by simp [World.cell?, hh, hj]
    have hcs : ∀ j v, (R.flatMap bc)[j]? = some v → w.cell? ⟨g, j, none⟩ = some v := fun j v hj => by
      have hjl : j < R.length * 2 := by rw [← hcl]; exact (List.getElem?_eq_some_iff.1 hj).1
      rw [← hc4, List.getElem?_take, if_pos hjl, Array.getElem?_toList] at hj
      rw [hcell j (by rw [hc3]; have := Nat.mul_le_mul_right 2 hc1; omega)]; exact hj
    have hgl : g < w.heap.size := (Array.getElem?_eq_some_iff.1 hh).1
    by_cases hroom : R.length + 1 ≤ m
    · have hsp : ∀ j, j < (R.length + 1) * 2 → (w.cell? ⟨g, j, none⟩).isSome = true := fun j hj => by
        have h1 := Nat.mul_le_mul_right 2 hroom
        rw [hcell j (by omega), Array.getElem?_eq_getElem (by omega)]; rfl
      refine (insert_shiftB w g R.length m p vb (R.flatMap bc) x hlt hroom (by unfold maxLen at hc2; omega) hgv hcl hcs hsp (fun j => Lib.frozen_of_heap hh _) (flat_oneK bc_one R) hv 47 cur.size (by unfold World.shape?; rw [hh]) (by omega)).mono ?_
      rintro e w' ⟨rfl, rfl⟩
      obtain ⟨c1, h1, z1⟩ := heap_setCells ((R.flatMap bc).drop (p * 2)) ((p + 1) * 2) w.drew cur hh
      obtain ⟨c2, h2, z2⟩ := heap_setCells (bc x) (p * 2) _ c1 h1
      have hdl : ((R.flatMap bc).drop (p * 2)).length = R.length * 2 - p * 2 := by rw [List.length_drop, hcl]
      have hss : ∀ k, k < (R.length + 1) * 2 → ((w.drew.setCells g ((p + 1) * 2) ((R.flatMap bc).drop (p * 2))).cell? ⟨g, k, none⟩).isSome = true := fun k hk => isSome_setC ((R.flatMap bc).drop (p * 2)) _ w.drew (fun j hj => hsp ((p + 1) * 2 + j) (by rw [hdl] at hj; omega)) _ (hsp k hk)
      refine ⟨_, rfl, RowK.ins bc_len hp (own_put h2 hb (by omega) hroom hc2 hcl rfl hp ?_ ?_ ?_), grown_setCells (grown_setCells (⟨rfl, rfl, rfl, Nat.le_refl _, fun _ _ _ => rfl⟩ : w.grownBy w.drew (some g)) _ _) _ _⟩
      · intro j hj
        rw [World.cell?_setCells_out _ _ _ _ _ (fun _ _ => .inl (by show j < _; omega)), World.cell?_setCells_out _ _ _ _ _ (fun _ _ => .inl (by show j < _; omega))]
        have := hcs j _ (List.getElem?_eq_getElem (by omega))
        rw [List.getElem?_eq_getElem (by omega)]; exact this
      · intro j hj
        have := World.cell?_setCells_in g (bc x) (p * 2) _ (fun t ht => hss _ (by rw [show (bc x).length = 2 from rfl] at ht; omega)) j hj
        exact this.trans (List.getElem?_eq_getElem (show j < (bc x).length from hj)).symm
      · intro j hj
        rw [World.cell?_setCells_out _ _ _ _ _ (fun _ _ => .inr (by show _ ≤ (p + 1) * 2 + j; rw [show (bc x).length = 2 from rfl]; omega))]
        have := World.cell?_setCells_in g ((R.flatMap bc).drop (p * 2)) ((p + 1) * 2) w.drew (fun t ht => hsp ((p + 1) * 2 + t) (by omega)) j (by omega)
        rw [this, List.getElem_drop, List.getElem?_eq_getElem (by omega)]
    · refine (insert_growB w g R.length m p vb (R.flatMap bc) x hlt hc1 (by omega) hn hcl hcs (flat_oneK bc_one R) hv).mono ?_
      rintro e w' ⟨G, ROW, hG1, hG2, hG3, hG4, rfl, rfl⟩
      have hh0 : ((w.alloc (.cells ROW 47)).drew).heap[w.heap.size]? = some (.cells ROW 47 (0, 0)) := new_at w _
      obtain ⟨c1, h1, z1⟩ := heap_setCells (bc x) (p * 2) _ ROW hh0
      obtain ⟨c2, h2, z2⟩ := heap_setCells ((R.flatMap bc).drop (p * 2)) ((p + 1) * 2) (((w.alloc (.cells ROW 47)).drew.setCells w.heap.size (p * 2) (bc x)).drew) c1 h1
      have hdl : ((R.flatMap bc).drop (p * 2)).length = R.length * 2 - p * 2 := by rw [List.length_drop, hcl]
      have hG5 := Nat.mul_le_mul_right 2 hG1
      have hs0 : ∀ k, k < (R.length + 1) * 2 → (((w.alloc (.cells ROW 47)).drew).cell? ⟨w.heap.size, k, none⟩).isSome = true := fun k hk => by
        rw [Lib.cell_of_heap hh0, Array.getElem?_eq_getElem (by omega)]; rfl
      have hs1 : ∀ k, k < (R.length + 1) * 2 → ((((w.alloc (.cells ROW 47)).drew.setCells w.heap.size (p * 2) (bc x)).drew).cell? ⟨w.heap.size, k, none⟩).isSome = true := fun k hk => isSome_setC _ _ _ (fun j hj => hs0 _ (by rw [show (bc x).length = 2 from rfl] at hj; omega)) _ (hs0 k hk)
      have hgr : w.grownBy ((((w.alloc (.cells ROW 47)).drew.setCells w.heap.size (p * 2) (bc x)).drew).setCells w.heap.size ((p + 1) * 2) ((R.flatMap bc).drop (p * 2))) (some w.heap.size) := by
        have a0 : w.grownBy (w.alloc (.cells ROW 47)).drew (some w.heap.size) := ⟨rfl, rfl, rfl, by simp, fun k hk _ => Below.heap_alloc _ _ _ hk⟩
        have a1 := grown_setCells a0 (bc x) (p * 2)
        exact grown_setCells (⟨a1.os, a1.tape, a1.output, a1.size, a1.block⟩ : w.grownBy (((w.alloc (.cells ROW 47)).drew.setCells w.heap.size (p * 2) (bc x)).drew) (some w.heap.size)) _ _
      refine ⟨_, rfl, RowK.ins bc_len hp (own_put h2 hbase (by omega) hG1 hG2 hcl rfl hp ?_ ?_ ?_), ⟨hgr.os, hgr.tape, hgr.output, hgr.size, fun k hk _ => hgr.block k hk (fun e => by have := Option.some.inj e; omega)⟩⟩
      · intro j hj
        rw [World.cell?_setCells_out _ _ _ _ _ (fun _ _ => .inl (by show j < _; omega))]
        show World.cell? (((w.alloc (.cells ROW 47)).drew).setCells w.heap.size (p * 2) (bc x)) _ = _
        rw [World.cell?_setCells_out _ _ _ _ _ (fun _ _ => .inl (by show j < _; omega)), Lib.cell_of_heap hh0]
        exact hG4 j hj
      · intro j hj
        rw [World.cell?_setCells_out _ _ _ _ _ (fun _ _ => .inl (by show p * 2 + j < _; omega))]
        show World.cell? (((w.alloc (.cells ROW 47)).drew).setCells w.heap.size (p * 2) (bc x)) _ = _
        have := World.cell?_setCells_in w.heap.size (bc x) (p * 2) _ (fun t ht => hs0 _ (by rw [show (bc x).length = 2 from rfl] at ht; omega)) j hj
        exact this.trans (List.getElem?_eq_getElem (show j < (bc x).length from hj)).symm
      · intro j hj
        have := World.cell?_setCells_in w.heap.size ((R.flatMap bc).drop (p * 2)) ((p + 1) * 2) _ (fun t ht => hs1 _ (by omega)) j (by omega)
        rw [this, List.getElem_drop, List.getElem?_eq_getElem (by omega)]
end Go.Proofs.YtbaaeobdjiglgaaGreat
