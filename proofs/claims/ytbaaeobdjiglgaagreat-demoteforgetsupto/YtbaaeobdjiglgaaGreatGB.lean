/-
  The walks of slices.IsSortedFunc and slices.BinarySearchFunc over atoms, with atoms.order. Conditions: lists of at most 2^20 atoms; what is searched is sorted.
-/
import Derived.Test.YtbaaeobdjiglgaaGreatA3
import Derived.Test.YtbaaeobdjiglgaaGreatShelf
import Derived.OwnWalk
import Derived.Maps.AppendAt
import Derived.Laws.OwnMore
import Derived.Lib.BufferMore
set_option linter.unusedVariables false
namespace Go.Proofs.YtbaaeobdjiglgaaGreat
open Go.RowKit Go.Sort
theorem enters_order : ∀ args w, (callFunc 71 args).run Tryz.prog w = .ok (.enter 71 args) w := enters_of Tryz.func71 (by kernel_rfl) rfl
/-- the value of atoms.order -/
def fnOrder : Value := .func (.func 71) #[] #[]

end Go.Proofs.YtbaaeobdjiglgaaGreat

/-
  The walks of slices.Index and slices.Contains over atoms. Conditions: lists of at most 2^20 atoms.
-/
set_option linter.unusedVariables false
namespace Go.Proofs.YtbaaeobdjiglgaaGreat
open Go.RowKit Go.Sort
theorem stoodA : Tryz.prog.stoodInHeld 34 = false := by kernel_rfl
theorem guardA : Tryz.prog.eqGuardType Tryz.prog.depth 34 = false := by kernel_rfl
theorem eql_atm (x y : M.Atm) (w : World) : (binOp .eql 34 (.agg #[.int .i64 x.k, .int .i64 x.n]) (.agg #[.int .i64 y.k, .int .i64 y.n])).run Tryz.prog w = .ok (.bool (decide (x = y))) w := by
  rw [run_eql_struct, run_equalIn_agg _ _ _ _ _ (by kernel_rfl) stoodA]
  simp [go_sem]
  have : x = y ↔ x.k = y.k ∧ x.n = y.n := ⟨fun h => by rw [h]; exact ⟨rfl, rfl⟩, fun h => M.atm_ext h.1 h.2⟩
  by_cases h1 : x.k = y.k <;> by_cases h2 : x.n = y.n <;> simp [this, h1, h2]
theorem neq_atm (x y : M.Atm) (w : World) : (binOp .neq 34 (.agg #[.int .i64 x.k, .int .i64 x.n]) (.agg #[.int .i64 y.k, .int .i64 y.n])).run Tryz.prog w = .ok (.bool (!decide (x = y))) w := by
  rw [run_neq_struct, run_equalIn_agg _ _ _ _ _ (by kernel_rfl) stoodA]
  simp [go_sem]
  have : x = y ↔ x.k = y.k ∧ x.n = y.n := ⟨fun h => by rw [h]; exact ⟨rfl, rfl⟩, fun h => M.atm_ext h.1 h.2⟩
  by_cases h1 : x.k = y.k <;> by_cases h2 : x.n = y.n <;> simp [this, h1, h2]

end Go.Proofs.YtbaaeobdjiglgaaGreat

/-
  Rows of atoms that the call has made itself, and the walks of slices.Clone and slices.SortFunc over them. Conditions: lists of at most 2^20 atoms.
-/
set_option linter.unusedVariables false
set_option linter.unusedSimpArgs false
namespace Go.Proofs.YtbaaeobdjiglgaaGreat
open Go.RowKit Go.Sort

/-- an atom's two cells -/
def ac (x : M.Atm) : List Value := [.int .i64 x.k, .int .i64 x.n]
/-- block g is a row of atoms, with room for cap, whose first ones are l -/
def OwnA (w : World) (g cap : Nat) (l : List M.Atm) : Prop :=
  ∃ cur, w.heap[g]? = some (.cells cur 34 (0, 0)) ∧ l.length ≤ cap ∧ cap ≤ maxLen ∧ cur.size = cap * 2 ∧ ∀ i (h : i < l.length), cur[i * 2]? = some (.int .i64 l[i].k) ∧ cur[i * 2 + 1]? = some (.int .i64 l[i].n)
theorem cell_cur {w : World} {g p : Nat} {cur : Array Value} {t : TypeId} {v : Value} (h : w.heap[g]? = some (.cells cur t (0, 0))) (hp : cur[p]? = some v) : w.cell? ⟨g, p, none⟩ = some v := by
  rw [Lib.cell_of_heap h]; exact hp
theorem OwnA.at {w : World} {g cap : Nat} {l : List M.Atm} (h : OwnA w g cap l) (hr : ∀ x ∈ l, InR x.n) : AtAt w (.slice (some ⟨g, 0, none⟩) l.length cap) l := by
  obtain ⟨cur, h1, h2, h3, h4, h5⟩ := h
  refine ⟨hr, _, _, rfl, .inr ⟨g, 0, rfl, (Array.getElem?_eq_some_iff.1 h1).1, ⟨h2, h3⟩, fun i hi => ?_⟩⟩
  obtain ⟨e1, e2⟩ := h5 i hi
  exact ⟨cell_cur h1 (by rw [Nat.zero_add]; exact e1), cell_cur h1 (by rw [Nat.zero_add]; exact e2)⟩
theorem ac_get : ∀ (l : List M.Atm) (i : Nat) (h : i < l.length), (l.flatMap ac)[i * 2]? = some (.int .i64 l[i].k) ∧ (l.flatMap ac)[i * 2 + 1]? = some (.int .i64 l[i].n)
  | [], i, h => absurd h (by simp)
  | x :: r, 0, h => ⟨rfl, rfl⟩
  | x :: r, i + 1, h => by
    obtain ⟨h1, h2⟩ := ac_get r i (by simpa using h)
    have e : (x :: r).flatMap ac = .int .i64 x.k :: .int .i64 x.n :: r.flatMap ac := rfl
    rw [e, show (i + 1) * 2 = i * 2 + 1 + 1 by omega]
    exact ⟨by simpa using h1, by simpa using h2⟩
theorem ac_length (l : List M.Atm) : (l.flatMap ac).length = l.length * 2 := by
  induction l with
  | nil => rfl
  | cons x r ih => simp only [List.flatMap_cons, List.length_append, ih, List.length_cons, ac, List.length_nil]; omega
theorem ac_one (l : List M.Atm) : ∀ u ∈ l.flatMap ac, u.oneCell' = true := by
  intro u hu
  obtain ⟨x, _, hx⟩ := List.mem_flatMap.1 hu
  simp [ac] at hx
  rcases hx with rfl | rfl <;> rfl
theorem OwnA.of_owns {w : World} {base g n cap : Nat} {l : List M.Atm} (h : w.ownsRow base 34 2 (.slice (some ⟨g, 0, none⟩) n cap) n (l.flatMap ac)) : OwnA w g cap l ∧ base ≤ g ∧ n = l.length := by
  have hl := h.1
  rw [ac_length] at hl
  have hn : n = l.length := by omega
  subst hn
  rcases h.2 with ⟨hv, _⟩ | ⟨g', cap', cur, hv, hb, hh, hc1, hc2, hc3, hc4⟩
  · cases hv
  · simp only [Value.slice.injEq, Option.some.injEq, Addr.mk.injEq, and_true, true_and] at hv
    obtain ⟨rfl, rfl⟩ := hv
    refine ⟨⟨cur, hh, hc1, hc2, hc3, fun i hi => ?_⟩, hb, rfl⟩
    obtain ⟨e1, e2⟩ := ac_get l i hi
    rw [← hc4] at e1 e2
    have f : ∀ p v, (cur.toList.take (l.length * 2))[p]? = some v → cur[p]? = some v := fun p v hp => by
      rw [List.getElem?_take] at hp
      split at hp
      · simpa using hp
      · cases hp
    exact ⟨f _ _ e1, f _ _ e2⟩
theorem owns_form {w : World} {base n : Nat} {v : Value} {xs : List Value} (h : w.ownsRow base 34 2 v n xs) : (v = .slice none 0 0 ∧ n = 0) ∨ ∃ g cap, v = .slice (some ⟨g, 0, none⟩) n cap := by
  rcases h.2 with h | ⟨g, cap, _, hv, _⟩
  · exact .inl h
  · exact .inr ⟨g, cap, hv⟩
/-- the atoms of a slice, as cells -/
theorem AtAt.cells {w : World} {b o n cap : Nat} {l : List M.Atm} (hc : ∀ i (h : i < l.length), w.cell? ⟨b, o + i * 2, none⟩ = some (.int .i64 l[i].k) ∧ w.cell? ⟨b, o + i * 2 + 1, none⟩ = some (.int .i64 l[i].n)) :
    ∀ j u, (l.flatMap ac)[j]? = some u → w.cell? ⟨b, o + j, none⟩ = some u := by
  intro j u hu
  have hj : j < l.length * 2 := by
    have := (List.getElem?_eq_some_iff.1 hu).1
    rw [ac_length] at this; exact this
  obtain ⟨i, hi⟩ : ∃ i, j = i * 2 ∨ j = i * 2 + 1 := ⟨j / 2, by omega⟩
  have hil : i < l.length := by omega
  obtain ⟨c1, c2⟩ := hc i hil
  obtain ⟨e1, e2⟩ := ac_get l i hil
  rcases hi with rfl | rfl
  · rw [e1] at hu; rw [← hu]; exact c1
  · rw [e2] at hu; rw [← hu, ← Nat.add_assoc]; exact c2
theorem add_at (b o k : Nat) : (⟨b, o, none⟩ : Addr).add k = ⟨b, o + k, none⟩ := by
  unfold Addr.add
  split
  · rename_i h; rw [h]; rfl
  · rfl
theorem infoAtom : (Tryz.prog.info? 34).map (fun i => (i.zero, i.size, i.bytes)) = some (some (.agg #[.int .i64 0, .int .i64 0]), 2, 16) := by kernel_rfl

set_option maxHeartbeats 1000000 in
theorem clone_any (w : World) (v : Value) (l : List M.Atm) (h : AtAt w v l) (hn : l.length ≤ 1048576) :
    Calls Tryz.prog 75 #[v] w fun e w' => ∃ v', e = .returned v' ∧ w'.ownsRow w.heap.size 34 2 v' l.length (l.flatMap ac) ∧ Below w.heap.size w w' := by
  obtain ⟨i0, hi, hz0, hz1, hz2⟩ := info_parts infoAtom
  obtain ⟨h0, a, cap, rfl, g⟩ := h
  clear h0
  cases a with
  | none =>
    rcases g with rfl | ⟨b, o, e, _⟩
    · have hnil : ∀ W, (binOp .eql 29 (.slice none 0 cap) (.slice none 0 0)).run Tryz.prog W = .ok (.bool true) W := fun W => Lib.run_eql_slice_nil_nil W _ _ Tryz.underlying29
      go_enter Tryz.func75, Tryz.ntmps75
      go_wp2
      go_ret
      exact ⟨_, rfl, World.ownsRow_nil _ _ _ _, Below.refl _ _⟩
    · cases e
  | some ad =>
    have hc : ∀ j u, (l.flatMap ac)[j]? = some u → (w.alloc (.cells #[] 34)).cell? (ad.add j) = some u := by
      intro j u hu
      rcases g with rfl | ⟨b, o, e, hlt, _, hcs⟩
      · simp at hu
      · cases e
        rw [add_at, World.cell?_alloc_lt _ _ _ (by exact hlt)]
        exact AtAt.cells (n := 0) (cap := 0) hcs j u hu
    clear g
    have hrow := World.ownsRow_lit (base := w.heap.size) (e := 34) (size := 2) w #[] 0 (Nat.le_refl _) (by simp [maxLen]) (by simp)
    have hnil : ∀ W, (binOp .eql 29 (.slice (some ad) l.length cap) (.slice none 0 0)).run Tryz.prog W = .ok (.bool false) W := fun W => Lib.run_eql_slice_some_nil W _ _ _ Tryz.underlying29
    go_enter Tryz.func75, Tryz.ntmps75
    go_wp2_with (at_builtin; refine wpList_append_own _ rfl _ _ 29 rfl w.heap.size 34 i0 (.agg #[.int .i64 0, .int .i64 0]) 2 16 Tryz.underlying29 hi hz0 hz1 hz2 rfl (by decide) (.slice (some ⟨w.heap.size, 0, none⟩) 0 0) 0 [] rfl hrow ad l.length cap (l.flatMap ac) rfl (ac_length l) hc (ac_one l) (by unfold maxLen; omega) (by omega) (by simp) ?_; intro v' w' hown hgrow _)
    rw [Nat.zero_add, List.nil_append] at hown
    obtain ⟨q, m, rfl⟩ : ∃ q m, v' = .slice q l.length m := by
      rcases owns_form hown with ⟨rfl, h0⟩ | ⟨g, cap, rfl⟩
      · rw [h0]; exact ⟨_, _, rfl⟩
      · exact ⟨_, _, rfl⟩
    go_wp2
    go_ret
    exact ⟨_, rfl, hown, ((Below.refl _ w).alloc (Nat.le_refl _) _).grown hgrow (by simp) (fun k e => by simp [Value.ownBlock] at e; omega)⟩

/-! slices.SortFunc -/
theorem lt_ord (x y : M.Atm) : ltOf ordI x y = M.ltA x y := by
  unfold ltOf
  rw [Bool.eq_iff_iff, decide_eq_true_iff, ordI_lt]
theorem swoA : SWO (ltOf ordI) where
  irrefl x := by rw [lt_ord]; exact M.lt_irrefl x
  trans x y z h1 h2 := by rw [lt_ord] at *; exact M.lt_trans h1 h2
  ntrans x y z h1 h2 := by rw [lt_ord] at *; simp [M.ltA] at *; omega
theorem flat_get (l : List M.Atm) (i : Nat) (h : i < l.length) : (flatK ac 2 l.toArray)[i * 2]! = .int .i64 l[i].k ∧ (flatK ac 2 l.toArray)[i * 2 + 1]! = .int .i64 l[i].n := by
  have h1 : i * 2 < l.toArray.size * 2 := by simp; omega
  have h2 : i * 2 + 1 < l.toArray.size * 2 := by simp; omega
  rw [get_flatK _ _ _ _ h1, get_flatK _ _ _ _ h2, show i * 2 / 2 = i by omega, show i * 2 % 2 = 0 by omega, show (i * 2 + 1) / 2 = i by omega, show (i * 2 + 1) % 2 = 1 by omega]
  have e : l.toArray[i]! = l[i] := by simp [h]
  rw [e]
  exact ⟨rfl, rfl⟩
theorem OwnA.holds {w : World} {g cap : Nat} {l : List M.Atm} (h : OwnA w g cap l) : HoldsK ac 2 w g 0 l.toArray := by
  obtain ⟨cur, h1, h2, h3, h4, h5⟩ := h
  intro j hj
  have hj' : j < l.length * 2 := by simpa using hj
  refine ⟨?_, Lib.frozen_of_heap h1 _⟩
  rw [Nat.zero_add]
  obtain ⟨i, hi⟩ : ∃ i, j = i * 2 ∨ j = i * 2 + 1 := ⟨j / 2, by omega⟩
  have hil : i < l.length := by omega
  obtain ⟨c1, c2⟩ := h5 i hil
  obtain ⟨e1, e2⟩ := flat_get l i hil
  rcases hi with rfl | rfl
  · rw [e1]; exact cell_cur h1 c1
  · rw [e2]; exact cell_cur h1 c2
theorem own_sorted {w : World} {g cap n : Nat} {l d : List M.Atm} {os : Array Obj} (h : OwnA w g cap l) (hd : d.length = l.length) :
    OwnA (sortWorldK ac 2 w g 0 n d.toArray os) g cap d ∧ w.grownBy (sortWorldK ac 2 w g 0 n d.toArray os) (some g) := by
  obtain ⟨cur, h1, h2, h3, h4, h5⟩ := h
  have hg : g < w.heap.size := (Array.getElem?_eq_some_iff.1 h1).1
  have hz : (putRowK ac 2 (Sort.ahead w n) g 0 d.toArray).heap.size = w.heap.size := by simp [putRowK, putRow, mapBlock, Sort.ahead]
  have hold : ∀ k, k < w.heap.size → (sortWorldK ac 2 w g 0 n d.toArray os).heap[k]? = (putRowK ac 2 (Sort.ahead w n) g 0 d.toArray).heap[k]? := fun k hk => heap_grow_old _ _ (by rw [hz]; exact hk)
  have hmod : ∀ k, (putRowK ac 2 (Sort.ahead w n) g 0 d.toArray).heap[k]? = if g = k then (w.heap[k]?).map (onCells (putCells id 0 (flatK ac 2 d.toArray))) else w.heap[k]? := fun k => by
    show (w.heap.modify g _)[k]? = _
    rw [Array.getElem?_modify]
  refine ⟨⟨putCells id 0 (flatK ac 2 d.toArray) cur, ?_, by omega, h3, by simp [putCells, h4], fun i hi => ?_⟩, rfl, rfl, rfl, ?_, fun k hk hne => ?_⟩
  · rw [hold g hg, hmod g, if_pos rfl, h1]; rfl
  · obtain ⟨e1, e2⟩ := flat_get d i hi
    have hc1 : i * 2 < cur.size := by omega
    have hc2 : i * 2 + 1 < cur.size := by omega
    have hs : (flatK ac 2 d.toArray).size = d.length * 2 := by simp
    constructor
    · unfold putCells
      rw [Array.getElem?_mapIdx, Array.getElem?_eq_getElem hc1, Option.map_some, if_pos ⟨Nat.zero_le _, by omega⟩, Nat.sub_zero, e1]; rfl
    · unfold putCells
      rw [Array.getElem?_mapIdx, Array.getElem?_eq_getElem hc2, Option.map_some, if_pos ⟨Nat.zero_le _, by omega⟩, Nat.sub_zero, e2]; rfl
  · show w.heap.size ≤ (Sort.grow _ os).heap.size
    rw [size_grow, hz]; omega
  · rw [hold k hk, hmod k, if_neg (fun e => hne (by rw [e]))]
theorem cmpLays (blk off size : Nat) (w : World) : CmpLays Tryz.prog 71 #[] ac 2 ordI blk off size w :=
  fun _ _ _ _ x y => order_any x y _

theorem sort_any (w : World) (g cap : Nat) (l : List M.Atm) (h : OwnA w g cap l) (hn : l.length ≤ 1048576) :
    Calls Tryz.prog 80 #[.slice (some ⟨g, 0, none⟩) l.length cap, fnOrder] w fun e w' => e = .returned (.tuple #[]) ∧ ∃ d, M.Steady d ∧ (∀ z, z ∈ d ↔ z ∈ l) ∧ d.length = l.length ∧ OwnA w' g cap d ∧ w.grownBy w' (some g) := by
  have hg : g < w.heap.size := by obtain ⟨cur, h1, _⟩ := h; exact (Array.getElem?_eq_some_iff.1 h1).1
  have hcon := AnyQ.slices_SortFunc_total Tryz.sortA 2 Tryz.isAgg34 Tryz.sizeOf34 ac (fun _ => rfl) (fun x v hv => by simp [ac] at hv; rcases hv with rfl | rfl <;> rfl) ordI swoA 71 #[] g 0 cap l.toArray w enters_order (cmpLays g 0 _ w) h.holds hg (by simp; omega) (fun x y h1 h2 => by rw [lt_ord] at h1 h2; exact M.lt_tri h1 h2)
  refine Calls.mono hcon ?_
  rintro e w' ⟨he, n, os, hw⟩
  refine ⟨he, l.toArray.toList.mergeSort fun x y => !ltOf ordI y x, ?_, ?_, ?_, ?_⟩
  · have := List.pairwise_mergeSort (le := fun x y => !(ltOf ordI) y x) (fun a b c h1 h2 => by
      rw [lt_ord] at *; simp [M.ltA] at *; omega) (fun a b => by rw [lt_ord, lt_ord]; simp [M.ltA]; omega) l.toArray.toList
    refine List.Pairwise.imp ?_ this
    intro a b hab
    rw [lt_ord] at hab
    simpa using hab
  · intro z
    rw [List.mem_mergeSort]
  · rw [List.length_mergeSort]
  · rw [hw]
    exact own_sorted h (by rw [List.length_mergeSort])
end Go.Proofs.YtbaaeobdjiglgaaGreat
