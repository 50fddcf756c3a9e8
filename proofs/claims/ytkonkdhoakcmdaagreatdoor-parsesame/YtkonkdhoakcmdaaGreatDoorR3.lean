/-
  The walks of a reader's lists: list, over each of the closures that are handed to it; operands. Conditions: those that each fact names.
-/
import Derived.Test.YtkonkdhoakcmdaaGreatDoorR2
import Derived.Deep.AppendLies
import Derived.Deep.RegionLaw
set_option linter.unusedVariables false
namespace Go.Proofs.YtkonkdhoakcmdaaGreatDoor
open Go.RowKit

theorem Rd.drew {w : World} {r : Nat} {S : M.St} (h : Rd w r S) : Rd w.drew r S := h.above (Nat.le_refl _) fun _ _ => rfl
theorem ownsRow_only {w w2 : World} {r b : Nat} {e : TypeId} {z : Nat} {v : Value} {n : Nat} {xs : List Value} (h : w.ownsRow b e z v n xs) (ho : Only r w w2) (hr : r < b) : w2.ownsRow b e z v n xs := by
  refine ⟨h.1, ?_⟩
  rcases h.2 with h | ⟨g, cap, cur, hv, hg, hh, k⟩
  · exact .inl h
  · refine .inr ⟨g, cap, cur, hv, hg, ?_, k⟩
    rw [ho.block g (Array.getElem?_eq_some_iff.1 hh).1 (by omega)]; exact hh

/-- behind an append to a row of one's own, and the store of what it gave into the cell c of the variable L -/
theorem grow_step {r L base c n size : Nat} {w0 w1 w2 : World} {obj : Obj} {v : Value} {arr : Array Value} {TL e : TypeId} {xs : List Value}
    (o1 : Only r w0 w1) (hr : r < w0.heap.size) (L0 : w0.heap.size ≤ L) (L1 : L < base) (bL1 : w1.heap[L]? = some (.cells arr TL (0, 0)))
    (own1 : w1.ownsRow base e size v n xs) (hgrow : (w1.alloc obj).grownBy w2 v.ownBlock) (hbase : base ≤ w1.heap.size) (v' : Value) :
    Only r w0 (w2.setCell ⟨L, c, none⟩ v') ∧ (∀ S, Rd w1 r S → Rd (w2.setCell ⟨L, c, none⟩ v') r S) ∧ (w2.setCell ⟨L, c, none⟩ v').heap[L]? = some (.cells (arr.setIfInBounds c v') TL (0, 0)) ∧
      (∀ k, k < w1.heap.size → k ≠ L → v.ownBlock ≠ some k → (w2.setCell ⟨L, c, none⟩ v').heap[k]? = w1.heap[k]?) ∧ (w1.heap.size ≤ (w2.setCell ⟨L, c, none⟩ v').heap.size) ∧
      (∀ {b : Nat} {e' : TypeId} {z : Nat} {u : Value} {m : Nat} {ys : List Value}, w2.ownsRow b e' z u m ys → L < b → (w2.setCell ⟨L, c, none⟩ v').ownsRow b e' z u m ys) := by
  have hz : w1.heap.size + 1 ≤ w2.heap.size := by have := hgrow.size; rw [World.size_alloc] at this; exact this
  have hown : ∀ k, v.ownBlock = some k → base ≤ k := fun k hk => (own1.lt k hk).1
  have hblk : ∀ k, k < w1.heap.size → v.ownBlock ≠ some k → w2.heap[k]? = w1.heap[k]? := fun k hk hne =>
    (hgrow.block k (by rw [World.size_alloc]; omega) (Ne.symm hne)).trans (Below.heap_alloc _ _ _ hk)
  refine ⟨?_, ?_, ?_, ?_, ?_, ?_⟩
  · exact ((o1.alloc obj).grown hgrow fun k hk => by have := hown k hk; omega).setCell (.inr L0) _
  · intro S h
    exact ((h.alloc obj).grown hgrow fun k hk => by have := hown k hk; omega).setCell (by show r < L; omega) _
  · have hL2 : w2.heap[L]? = some (.cells arr TL (0, 0)) := (hblk L (Array.getElem?_eq_some_iff.1 bL1).1 fun e => by have := hown L e; omega).trans bL1
    rw [heap_setCell_same _ _ _ _ _ _ hL2]
  · intro k hk hkL hkv
    rw [Below.heap_setCell _ _ _ _ (by exact hkL)]
    exact hblk k hk hkv
  · simp [World.setCell]; omega
  · intro b e' z u m ys h hb
    exact ownsRow_setCell_below h (by exact hb) _

/-- a list of operands that grows in the variable L; the reader's own variable is R; w0: where it began -/
structure OpsIn (r L R base : Nat) (w0 w : World) (S : M.St) (l : List M.Opd) : Prop where
  only : Only r w0 w
  hr : r < w0.heap.size
  R0 : R ≠ r
  R1 : R < base
  L0 : w0.heap.size ≤ L
  L1 : L < base
  ne : L ≠ R
  bs : base ≤ w.heap.size
  boxR : w.heap[R]? = some (.cells #[.pointer (some ⟨r, 0, none⟩)] 40 (0, 0))
  boxL : ∃ v, w.heap[L]? = some (.cells #[v] 57 (0, 0)) ∧ w.ownsRow base 61 3 v l.length (l.flatMap opCells)
  few : l.length + S.rest.length ≤ 4398046511104

theorem infoOpd : (Tryz.prog.info? 61).map (fun i => (i.zero, i.size, i.bytes)) = some (some (.agg #[.int .i64 0, .int .i64 0, .string ⟨#[]⟩]), 3, 32) := by kernel_rfl

set_option maxRecDepth 8000 in
set_option maxHeartbeats 800000 in
theorem opItem_any (r L R base : Nat) (w0 w : World) (S : M.St) (l : List M.Opd) (h : Rd w r S) (hi : OpsIn r L R base w0 w S l) :
    Calls Tryz.prog 90 #[.pointer (some ⟨L, 0, none⟩), .pointer (some ⟨R, 0, none⟩)] w fun e w' => Only r w0 w' ∧
      (∀ S' l', M.itemOp S l = .ok (S', l') → e = .returned (.tuple #[]) ∧ Rd w' r S' ∧ OpsIn r L R base w0 w' S' l') ∧ (∀ f, M.itemOp S l = .error f → e = .panicked (stopOf f)) := by
  obtain ⟨only, hr, R0, R1, L0, L1, ne, bs, boxR, ⟨v, boxL, own⟩, few⟩ := hi
  obtain ⟨i0, hi0, hz0, hz1, hz2⟩ := info_parts infoOpd
  have cR : w.cell? ⟨R, 0, none⟩ = some (.pointer (some ⟨r, 0, none⟩)) := by rw [Lib.cell_of_heap boxR]; rfl
  have cL : w.cell? ⟨L, 0, none⟩ = some v := by rw [Lib.cell_of_heap boxL]; rfl
  cases hres : M.operand S with
  | error f =>
    have hcall : Calls Tryz.prog 82 #[.pointer (some ⟨r, 0, none⟩)] w.drew fun e w' => e = .panicked (stopOf f) ∧ Only r w w' :=
      (operand_any r S _ h.drew).mono fun e w' ⟨o1, _, h2⟩ => ⟨h2 f hres, (Only.refl r w).drew.trans o1⟩
    go_enter Tryz.func90, Tryz.ntmps90
    go_wp2_with fail
    refine wp_region_held_drew (S := fun w' => w'.cell? ⟨L, 0, none⟩ = some v ∧ w'.cell? ⟨R, 0, none⟩ = some (.pointer (some ⟨r, 0, none⟩))) (by kernel_rfl) ⟨cL, cR⟩ (fun hHeld => ?_)
    refine wpAnyH_take (i := 0) (oi := _) (v := v) rfl (by kernel_rfl) (by kernel_rfl) (by kernel_rfl) (fun _ _ _ h => h) (Or.inl ⟨by rfl, ?_⟩) hHeld ?_
    · intro w hSw
      try dsimp only at hSw
      go_simp
    simp only [Act.put, List.setIfInBounds_toArray]
    refine wpAnyH_take (i := 1) (oi := _) (v := .pointer (some ⟨r, 0, none⟩)) rfl (by kernel_rfl) (by kernel_rfl) (by kernel_rfl) (fun _ _ _ h => h) (Or.inl ⟨by rfl, ?_⟩) hHeld ?_
    · intro w hSw
      try dsimp only at hSw
      go_simp
    simp only [Act.put]
    refine wpAnyH_ready (rs := [2]) (by kernel_rfl) (by simp) ?_
    refine AllReadyH.cons rfl (fun K hK => ?_) AllReadyH.nil
    go_simp
    refine hcall.mono ?_
    rintro e w1 ⟨rfl, o1⟩
    refine ⟨rfl, only.trans o1, ?_, ?_⟩
    · intro S' l' hr'; rw [M.itemOp, hres] at hr'; cases hr'
    · intro f' hr'; rw [M.itemOp, hres] at hr'; cases hr'; rfl
  | ok p =>
    obtain ⟨S1, o⟩ := p
    have hshort : S1.rest.length < S.rest.length := M.operand_short hres
    have hm63 : l.length + 1 ≤ maxLen := by unfold maxLen; omega
    have hmby : (l.length + 1) * 32 ≤ 140737488355328 := by omega
    have hLr : L ≠ r := by omega
    have hRr : R ≠ r := by omega
    have hlL : L < w.heap.size := by omega
    have hlR : R < w.heap.size := by omega
    have hcall : Calls Tryz.prog 82 #[.pointer (some ⟨r, 0, none⟩)] w.drew fun e w' => e = .returned (.agg #[.int .i64 o.k, .int .i64 o.n, .string o.s]) ∧ w'.cell? ⟨L, 0, none⟩ = some v ∧ w'.cell? ⟨R, 0, none⟩ = some (.pointer (some ⟨r, 0, none⟩)) ∧ Rd w' r S1 ∧ Only r w w' ∧ w'.ownsRow base 61 3 v l.length (l.flatMap opCells) ∧ w'.heap[L]? = some (.cells #[v] 57 (0, 0)) ∧ w'.heap[R]? = some (.cells #[.pointer (some ⟨r, 0, none⟩)] 40 (0, 0)) :=
      (operand_any r S _ h.drew).mono fun e w' ⟨o1, h1, _⟩ => by
        obtain ⟨v1, rfl, r1, hv1⟩ := h1 S1 o hres
        have o2 : Only r w w' := (Only.refl r w).drew.trans o1
        refine ⟨by rw [hv1], ?_, ?_, r1, o2, ownsRow_only own o2 (by omega), (o2.block L hlL hLr).trans boxL, (o2.block R hlR hRr).trans boxR⟩
        · rw [o2.cell (p := ⟨L, 0, none⟩) hlL hLr]; exact cL
        · rw [o2.cell (p := ⟨R, 0, none⟩) hlR hRr]; exact cR
    have hvL : v.ownBlock ≠ some L := fun e => by have := (own.lt L e).1; omega
    have hvR : v.ownBlock ≠ some R := fun e => by have := (own.lt R e).1; omega
    go_enter Tryz.func90, Tryz.ntmps90
    go_wp2_with fail
    go_region_law
      (first
        | (refine step_append_lies _ (by rfl) _ _ _ (by rfl) base 61 i0 _ 3 32 Tryz.underlying57 hi0 hz0 hz1 hz2 rfl (by omega) v l.length (l.flatMap opCells) (by rfl) (own1.alloc _)
            ⟨w1.heap.size, 0, none⟩ 1 1 [.int .i64 o.k, .int .i64 o.n, .string o.s] (by rfl) (by rfl) (World.news_of_block (cs := #[.int .i64 o.k, .int .i64 o.n, .string o.s]) (t := 61) (fr := (0, 0)) (heap_alloc_new w1 _)) (by simp [Value.oneCell'])
            Nat.one_pos hm63 hmby (by simp; omega) (w1.heap.size + 1) (by simp) ?_; intro gg cap' w2 hown2 hgrow hat hlt2; have bL2 := (hgrow.block L (by rw [World.size_alloc]; omega) (Ne.symm hvL)).trans ((Below.heap_alloc _ _ _ (by omega)).trans bL1); have hfz2 := Lib.frozen_of_heap bL2 0; have cL2 : w2.cell? ⟨L, 0, none⟩ = some v := by (rw [Lib.cell_of_heap bL2]; rfl))
        | (go_simp; go_at_call 82; refine hcall.mono ?_; rintro e w1 ⟨rfl, cL1, cR1, r1, o1, own1, bL1, bR1⟩; have hsz1 := o1.size; have hlL1 : L < w1.heap.size := (by omega)))
    all_goals
      go_wp2_with fail
      go_end0
      obtain ⟨g1, g2, g3, g4, g5, g6⟩ := grow_step (c := 0) (only.trans o1) hr L0 L1 bL1 own1 hgrow (Nat.le_trans bs hsz1) (.slice (some ⟨gg, 0, none⟩) (l.length + 1) cap')
      refine ⟨g1, ?_, ?_⟩
      · intro S' l' hr'
        rw [M.itemOp, hres] at hr'
        simp only [M.bnd, Except.ok.injEq, Prod.mk.injEq] at hr'
        obtain ⟨rfl, rfl⟩ := hr'
        refine ⟨rfl, g2 _ r1, g1, hr, R0, R1, L0, L1, ne, Nat.le_trans (Nat.le_trans bs hsz1) g5, (g4 R (by omega) (Ne.symm ne) hvR).trans bR1, ⟨_, g3, ?_⟩, ?_⟩
        · have := g6 hown2 L1
          simpa [opCells] using this
        · simp only [List.length_append, List.length_cons, List.length_nil]; omega
      · intro f' hr'; rw [M.itemOp, hres] at hr'; cases hr'
end Go.Proofs.YtkonkdhoakcmdaaGreatDoor
