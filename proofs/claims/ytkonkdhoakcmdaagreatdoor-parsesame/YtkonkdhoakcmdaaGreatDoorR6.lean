/-
  The walk of the closure that reads a function's parameters. Conditions: those that each fact names.
-/
import Derived.Test.YtkonkdhoakcmdaaGreatDoorR5
set_option linter.unusedVariables false
namespace Go.Proofs.YtkonkdhoakcmdaaGreatDoor
open Go.RowKit

/-- a list of names that grows in the second cell of the function L; the reader's own variable is R; w0: where it began -/
structure NamesIn (r L R base : Nat) (nm : ByteArray) (w0 w : World) (S : M.St) (l : List ByteArray) : Prop where
  only : Only r w0 w
  hr : r < w0.heap.size
  R0 : R ≠ r
  R1 : R < base
  L0 : w0.heap.size ≤ L
  L1 : L < base
  ne : L ≠ R
  bs : base ≤ w.heap.size
  boxR : w.heap[R]? = some (.cells #[.pointer (some ⟨r, 0, none⟩)] 40 (0, 0))
  boxL : ∃ v, w.heap[L]? = some (.cells #[.string nm, v, .slice none 0 0] 56 (0, 0)) ∧ w.ownsRow base 9 1 v l.length (l.map .string)
  few : l.length + S.rest.length ≤ 4398046511104

theorem NamesIn.mono {r L R base : Nat} {nm : ByteArray} {w0 w w' : World} {S S' : M.St} {l : List ByteArray} (h : NamesIn r L R base nm w0 w S l) (o : Only r w w') (hle : S'.rest.length ≤ S.rest.length) : NamesIn r L R base nm w0 w' S' l := by
  obtain ⟨only, hr, R0, R1, L0, L1, ne, bs, boxR, ⟨v, boxL, own⟩, few⟩ := h
  refine ⟨only.trans o, hr, R0, R1, L0, L1, ne, Nat.le_trans bs o.size, ?_, ⟨v, ?_, ownsRow_only own o (by omega)⟩, by omega⟩
  · rw [o.block R (by omega) (by omega)]; exact boxR
  · rw [o.block L (by omega) (by omega)]; exact boxL

theorem infoStr : (Tryz.prog.info? 9).map (fun i => (i.zero, i.size, i.bytes)) = some (some (.string ⟨#[]⟩), 1, 16) := by kernel_rfl

theorem M.itemName_short {S S' : M.St} {l l' : List ByteArray} (h : M.itemName S l = .ok (S', l')) : S'.rest.length < S.rest.length := by
  obtain ⟨S1, o, h1, h2⟩ := M.bnd_ok h
  cases h2
  exact M.name_short h1

set_option maxRecDepth 8000 in
set_option maxHeartbeats 800000 in
theorem nameItem_any (r L R base : Nat) (nm : ByteArray) (w0 w : World) (S : M.St) (l : List ByteArray) (h : Rd w r S) (hi : NamesIn r L R base nm w0 w S l) :
    Calls Tryz.prog 52 #[.pointer (some ⟨L, 0, none⟩), .pointer (some ⟨R, 0, none⟩)] w fun e w' => Only r w0 w' ∧
      (∀ S' l', M.itemName S l = .ok (S', l') → e = .returned (.tuple #[]) ∧ Rd w' r S' ∧ NamesIn r L R base nm w0 w' S' l') ∧ (∀ f, M.itemName S l = .error f → e = .panicked (stopOf f)) := by
  obtain ⟨only, hr, R0, R1, L0, L1, ne, bs, boxR, ⟨v, boxL, own⟩, few⟩ := hi
  obtain ⟨i0, hi0, hz0, hz1, hz2⟩ := info_parts infoStr
  have cR : w.cell? ⟨R, 0, none⟩ = some (.pointer (some ⟨r, 0, none⟩)) := by rw [Lib.cell_of_heap boxR]; rfl
  have cL : w.cell? ⟨L, 1, none⟩ = some v := by rw [Lib.cell_of_heap boxL]; rfl
  cases hres : M.name S with
  | error f =>
    have hcall : Calls Tryz.prog 50 #[.pointer (some ⟨r, 0, none⟩)] w.drew fun e w' => e = .panicked (stopOf f) ∧ Only r w w' :=
      (name_any r S _ h.drew).mono fun e w' ⟨o1, _, h2⟩ => ⟨h2 f hres, (Only.refl r w).drew.trans o1⟩
    go_enter Tryz.func52, Tryz.ntmps52
    go_wp2_with fail
    refine wp_region_held_drew (S := fun w' => w'.cell? ⟨L, 1, none⟩ = some v ∧ w'.cell? ⟨R, 0, none⟩ = some (.pointer (some ⟨r, 0, none⟩))) (by kernel_rfl) ⟨cL, cR⟩ (fun hHeld => ?_)
    refine wpAnyH_take (i := 0) (oi := _) (v := .pointer (some ⟨L, 1, none⟩)) rfl (by kernel_rfl) (by kernel_rfl) (by kernel_rfl) (fun _ _ _ h => h) (Or.inl ⟨by rfl, ?_⟩) hHeld ?_
    · intro w hSw
      try dsimp only at hSw
      go_simp
    simp only [Act.put, List.setIfInBounds_toArray]
    refine wpAnyH_take (i := 1) (oi := _) (v := v) rfl (by kernel_rfl) (by kernel_rfl) (by kernel_rfl) (fun _ _ _ h => h) (Or.inl ⟨by rfl, ?_⟩) hHeld ?_
    · intro w hSw
      try dsimp only at hSw
      go_simp
    simp only [Act.put]
    refine wpAnyH_take (i := 2) (oi := _) (v := .pointer (some ⟨r, 0, none⟩)) rfl (by kernel_rfl) (by kernel_rfl) (by kernel_rfl) (fun _ _ _ h => h) (Or.inl ⟨by rfl, ?_⟩) hHeld ?_
    · intro w hSw
      try dsimp only at hSw
      go_simp
    simp only [Act.put]
    refine wpAnyH_ready (rs := [3]) (by kernel_rfl) (by simp) ?_
    refine AllReadyH.cons rfl (fun K hK => ?_) AllReadyH.nil
    go_simp
    refine hcall.mono ?_
    rintro e w1 ⟨rfl, o1⟩
    refine ⟨rfl, only.trans o1, ?_, ?_⟩
    · intro S' l' hr'; rw [M.itemName, hres] at hr'; cases hr'
    · intro f' hr'; rw [M.itemName, hres] at hr'; cases hr'; rfl
  | ok p =>
    obtain ⟨S1, o⟩ := p
    have hshort : S1.rest.length < S.rest.length := M.name_short hres
    have hm63 : l.length + 1 ≤ maxLen := by unfold maxLen; omega
    have hmby : (l.length + 1) * 16 ≤ 140737488355328 := by omega
    have hLr : L ≠ r := by omega
    have hRr : R ≠ r := by omega
    have hlL : L < w.heap.size := by omega
    have hlR : R < w.heap.size := by omega
    have hcall : Calls Tryz.prog 50 #[.pointer (some ⟨r, 0, none⟩)] w.drew fun e w' => e = .returned (.string o) ∧ w'.cell? ⟨L, 1, none⟩ = some v ∧ w'.cell? ⟨R, 0, none⟩ = some (.pointer (some ⟨r, 0, none⟩)) ∧ Rd w' r S1 ∧ Only r w w' ∧ w'.ownsRow base 9 1 v l.length (l.map .string) ∧ w'.heap[L]? = some (.cells #[.string nm, v, .slice none 0 0] 56 (0, 0)) ∧ w'.heap[R]? = some (.cells #[.pointer (some ⟨r, 0, none⟩)] 40 (0, 0)) :=
      (name_any r S _ h.drew).mono fun e w' ⟨o1, h1, _⟩ => by
        obtain ⟨v1, rfl, r1, hv1⟩ := h1 S1 o hres
        have o2 : Only r w w' := (Only.refl r w).drew.trans o1
        refine ⟨by rw [hv1], ?_, ?_, r1, o2, ownsRow_only own o2 (by omega), (o2.block L hlL hLr).trans boxL, (o2.block R hlR hRr).trans boxR⟩
        · rw [o2.cell (p := ⟨L, 1, none⟩) hlL hLr]; exact cL
        · rw [o2.cell (p := ⟨R, 0, none⟩) hlR hRr]; exact cR
    have hvL : v.ownBlock ≠ some L := fun e => by have := (own.lt L e).1; omega
    have hvR : v.ownBlock ≠ some R := fun e => by have := (own.lt R e).1; omega
    go_enter Tryz.func52, Tryz.ntmps52
    go_wp2_with fail
    go_region_law
      (first
        | (refine step_append_lies _ (by rfl) _ _ _ (by rfl) base 9 i0 _ 1 16 Tryz.underlying49 hi0 hz0 hz1 hz2 rfl (by omega) v l.length (l.map .string) (by rfl) (own1.alloc _)
            ⟨w1.heap.size, 0, none⟩ 1 1 [.string o] (by rfl) (by rfl) (World.news_of_block (cs := #[.string o]) (t := 9) (fr := (0, 0)) (heap_alloc_new w1 _)) (by simp [Value.oneCell'])
            Nat.one_pos hm63 hmby (by simp; omega) (w1.heap.size + 1) (by simp) ?_; intro gg cap' w2 hown2 hgrow hat hlt2; have bL2 := (hgrow.block L (by rw [World.size_alloc]; omega) (Ne.symm hvL)).trans ((Below.heap_alloc _ _ _ (by omega)).trans bL1); have hfz2 := Lib.frozen_of_heap bL2 1; have cL2 : w2.cell? ⟨L, 1, none⟩ = some v := by (rw [Lib.cell_of_heap bL2]; rfl))
        | (go_simp; go_at_call 50; refine hcall.mono ?_; rintro e w1 ⟨rfl, cL1, cR1, r1, o1, own1, bL1, bR1⟩; have hsz1 := o1.size; have hlL1 : L < w1.heap.size := (by omega)))
    all_goals
      go_wp2_with fail
      go_end0
      obtain ⟨g1, g2, g3, g4, g5, g6⟩ := grow_step (c := 1) (only.trans o1) hr L0 L1 bL1 own1 hgrow (Nat.le_trans bs hsz1) (.slice (some ⟨gg, 0, none⟩) (l.length + 1) cap')
      refine ⟨g1, ?_, ?_⟩
      · intro S' l' hr'
        rw [M.itemName, hres] at hr'
        simp only [M.bnd, Except.ok.injEq, Prod.mk.injEq] at hr'
        obtain ⟨rfl, rfl⟩ := hr'
        refine ⟨rfl, g2 _ r1, g1, hr, R0, R1, L0, L1, ne, Nat.le_trans (Nat.le_trans bs hsz1) g5, (g4 R (by omega) (Ne.symm ne) hvR).trans bR1, ⟨_, g3, ?_⟩, ?_⟩
        · have := g6 hown2 L1
          simpa using this
        · simp only [List.length_append, List.length_cons, List.length_nil]; omega
      · intro f' hr'; rw [M.itemName, hres] at hr'; cases hr'
end Go.Proofs.YtkonkdhoakcmdaaGreatDoor
