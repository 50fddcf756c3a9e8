/-
  The walk of the closure that reads a new object's properties. Conditions: those that each fact names.
-/
import Derived.Test.YtkonkdhoakcmdaaGreatDoorR6
set_option linter.unusedVariables false
namespace Go.Proofs.YtkonkdhoakcmdaaGreatDoor
open Go.RowKit

theorem cell0 {w : World} {b : Nat} {v : Value} {T : TypeId} (h : w.heap[b]? = some (.cells #[v] T (0, 0))) : w.cell? ⟨b, 0, none⟩ = some v := by rw [Lib.cell_of_heap h]; rfl

/-- properties and their operands that grow in the statement L; the reader's own variable is R; w0: where it began -/
structure PropsIn (r L R base : Nat) (w0 w : World) (S : M.St) (l : List ByteArray × List M.Opd) (va vp : Value) : Prop where
  only : Only r w0 w
  hr : r < w0.heap.size
  R0 : R ≠ r
  R1 : R < base
  L0 : w0.heap.size ≤ L
  L1 : L < base
  ne : L ≠ R
  bs : base ≤ w.heap.size
  boxR : w.heap[R]? = some (.cells #[.pointer (some ⟨r, 0, none⟩)] 40 (0, 0))
  boxL : w.heap[L]? = some (.cells #[.int .i64 4, .string ⟨#[]⟩, .string ⟨#[]⟩, .string ⟨#[]⟩, va, vp, .slice none 0 0, .slice none 0 0] 59 (0, 0))
  ownP : w.ownsRow base 9 1 vp l.1.length (l.1.map .string)
  ownA : w.ownsRow base 61 3 va l.2.length (l.2.flatMap opCells)
  few : l.1.length + S.rest.length ≤ 4398046511104
  fewA : l.2.length + S.rest.length ≤ 4398046511104

theorem PropsIn.mono {r L R base : Nat} {w0 w w' : World} {S S' : M.St} {l : List ByteArray × List M.Opd} {va vp : Value} (h : PropsIn r L R base w0 w S l va vp) (o : Only r w w') (hle : S'.rest.length ≤ S.rest.length) : PropsIn r L R base w0 w' S' l va vp := by
  obtain ⟨only, hr, R0, R1, L0, L1, ne, bs, boxR, boxL, ownP, ownA, few, fewA⟩ := h
  refine ⟨only.trans o, hr, R0, R1, L0, L1, ne, Nat.le_trans bs o.size, ?_, ?_, ownsRow_only ownP o (by omega), ownsRow_only ownA o (by omega), by omega, by omega⟩
  · rw [o.block R (by omega) (by omega)]; exact boxR
  · rw [o.block L (by omega) (by omega)]; exact boxL

theorem own_ne {w : World} {b b' z z' n n' : Nat} {e e' : TypeId} {v v' : Value} {xs xs' : List Value} (h : w.ownsRow b e z v n xs) (h' : w.ownsRow b' e' z' v' n' xs') (he : e ≠ e') (k : Nat) (hk : v.ownBlock = some k) : v'.ownBlock ≠ some k := by
  intro hk'
  rcases h.2 with ⟨rfl, _⟩ | ⟨g, cap, cur, rfl, _, hh, _⟩
  · cases hk
  · rcases h'.2 with ⟨rfl, _⟩ | ⟨g', cap', cur', rfl, _, hh', _⟩
    · cases hk'
    · simp only [Value.ownBlock, Option.some.injEq] at hk hk'
      subst hk hk'
      rw [hh] at hh'
      simp only [Option.some.injEq, Obj.cells.injEq] at hh'
      exact he hh'.2.1

/-- a row of one's own stays where another one grows -/
theorem own_far {w w' : World} {b z n : Nat} {e : TypeId} {v : Value} {xs : List Value} (h : w.ownsRow b e z v n xs) (hb : ∀ k, v.ownBlock = some k → k < w.heap.size → w'.heap[k]? = w.heap[k]?) : w'.ownsRow b e z v n xs := by
  refine ⟨h.1, ?_⟩
  rcases h.2 with h | ⟨g, cap, cur, rfl, hg, hh, k⟩
  · exact .inl h
  · refine .inr ⟨g, cap, cur, rfl, hg, ?_, k⟩
    rw [hb g rfl (Array.getElem?_eq_some_iff.1 hh).1]; exact hh

theorem PropsIn.nextP {r L R base : Nat} {w0 w1 w2 : World} {S1 : M.St} {l : List ByteArray × List M.Opd} {va vp : Value} {obj : Obj} {n : ByteArray} {g cap : Nat}
    (h : PropsIn r L R base w0 w1 S1 l va vp) (r1 : Rd w1 r S1) (hshort : l.1.length + 1 + S1.rest.length ≤ 4398046511104)
    (hown2 : w2.ownsRow base 9 1 (.slice (some ⟨g, 0, none⟩) (l.1.length + 1) cap) (l.1.length + 1) (l.1.map .string ++ [.string n])) (hgrow : (w1.alloc obj).grownBy w2 vp.ownBlock) :
    Rd (w2.setCell ⟨L, 5, none⟩ (.slice (some ⟨g, 0, none⟩) (l.1.length + 1) cap)) r S1 ∧ PropsIn r L R base w0 (w2.setCell ⟨L, 5, none⟩ (.slice (some ⟨g, 0, none⟩) (l.1.length + 1) cap)) S1 (l.1 ++ [n], l.2) va (.slice (some ⟨g, 0, none⟩) (l.1.length + 1) cap) := by
  obtain ⟨only, hr, R0, R1, L0, L1, ne, bs, boxR, boxL, ownP, ownA, few, fewA⟩ := h
  have hv : ∀ k, vp.ownBlock = some k → base ≤ k := fun k hk => (ownP.lt k hk).1
  obtain ⟨g1, g2, g3, g4, g5, g6⟩ := grow_step (c := 5) only hr L0 L1 boxL ownP hgrow bs (.slice (some ⟨g, 0, none⟩) (l.1.length + 1) cap)
  refine ⟨g2 _ r1, g1, hr, R0, R1, L0, L1, ne, Nat.le_trans bs g5, (g4 R (by omega) (Ne.symm ne) (fun e => by have := hv R e; omega)).trans boxR, g3, ?_, ?_, ?_, fewA⟩
  · have := g6 hown2 L1
    simpa using this
  · refine own_far ownA fun k hk hlt => g4 k hlt (fun e => by have := (ownA.lt k hk).1; omega) (own_ne ownA ownP (by decide) k hk)
  · simp only [List.length_append, List.length_cons, List.length_nil]; omega
theorem PropsIn.nextA {r L R base : Nat} {w0 w1 w2 : World} {S1 : M.St} {l : List ByteArray × List M.Opd} {va vp : Value} {obj : Obj} {o : M.Opd} {g cap : Nat}
    (h : PropsIn r L R base w0 w1 S1 l va vp) (r1 : Rd w1 r S1) (hshort : l.2.length + 1 + S1.rest.length ≤ 4398046511104)
    (hown2 : w2.ownsRow base 61 3 (.slice (some ⟨g, 0, none⟩) (l.2.length + 1) cap) (l.2.length + 1) (l.2.flatMap opCells ++ [.int .i64 o.k, .int .i64 o.n, .string o.s])) (hgrow : (w1.alloc obj).grownBy w2 va.ownBlock) :
    Rd (w2.setCell ⟨L, 4, none⟩ (.slice (some ⟨g, 0, none⟩) (l.2.length + 1) cap)) r S1 ∧ PropsIn r L R base w0 (w2.setCell ⟨L, 4, none⟩ (.slice (some ⟨g, 0, none⟩) (l.2.length + 1) cap)) S1 (l.1, l.2 ++ [o]) (.slice (some ⟨g, 0, none⟩) (l.2.length + 1) cap) vp := by
  obtain ⟨only, hr, R0, R1, L0, L1, ne, bs, boxR, boxL, ownP, ownA, few, fewA⟩ := h
  have hv : ∀ k, va.ownBlock = some k → base ≤ k := fun k hk => (ownA.lt k hk).1
  obtain ⟨g1, g2, g3, g4, g5, g6⟩ := grow_step (c := 4) only hr L0 L1 boxL ownA hgrow bs (.slice (some ⟨g, 0, none⟩) (l.2.length + 1) cap)
  refine ⟨g2 _ r1, g1, hr, R0, R1, L0, L1, ne, Nat.le_trans bs g5, (g4 R (by omega) (Ne.symm ne) (fun e => by have := hv R e; omega)).trans boxR, g3, ?_, ?_, few, ?_⟩
  · refine own_far ownP fun k hk hlt => g4 k hlt (fun e => by have := (ownP.lt k hk).1; omega) (own_ne ownP ownA (by decide) k hk)
  · have := g6 hown2 L1
    simpa [opCells] using this
  · simp only [List.length_append, List.length_cons, List.length_nil]; omega

theorem M.itemProp_short {S S' : M.St} {l l' : List ByteArray × List M.Opd} (h : M.itemProp S l = .ok (S', l')) : S'.rest.length < S.rest.length := by
  obtain ⟨S1, o, h1, h2⟩ := M.bnd_ok h
  obtain ⟨S2, o2, h3, h4⟩ := M.bnd_ok h2
  obtain ⟨S3, o3, h5, h6⟩ := M.bnd_ok h4
  cases h6
  have := M.name_short h1
  have := (M.take_le h3).rest
  have := M.operand_short h5
  omega

/-- one call inside a region: the facts that the walk wants behind it -/
theorem name_call {r L R base : Nat} {w0 w : World} {S S1 : M.St} {l : List ByteArray × List M.Opd} {va vp : Value} {n : ByteArray} (h : Rd w r S) (hi : PropsIn r L R base w0 w S l va vp) (hres : M.name S = .ok (S1, n)) :
    Calls Tryz.prog 50 #[.pointer (some ⟨r, 0, none⟩)] w.drew fun e w' => e = .returned (.string n) ∧ w'.cell? ⟨L, 5, none⟩ = some vp ∧ w'.cell? ⟨R, 0, none⟩ = some (.pointer (some ⟨r, 0, none⟩)) ∧ Rd w' r S1 ∧ Only r w w' ∧ PropsIn r L R base w0 w' S1 l va vp ∧ w'.ownsRow base 9 1 vp l.1.length (l.1.map .string) ∧ w'.heap[L]? = some (.cells #[.int .i64 4, .string ⟨#[]⟩, .string ⟨#[]⟩, .string ⟨#[]⟩, va, vp, .slice none 0 0, .slice none 0 0] 59 (0, 0)) :=
  (name_any r S _ h.drew).mono fun e w' ⟨o1, h1, _⟩ => by
    obtain ⟨v1, rfl, r1, hv1⟩ := h1 S1 n hres
    have o2 : Only r w w' := (Only.refl r w).drew.trans o1
    have i2 := hi.mono o2 (S' := S1) (Nat.le_of_lt (M.name_short hres))
    exact ⟨by rw [hv1], by rw [Lib.cell_of_heap i2.boxL]; rfl, by rw [Lib.cell_of_heap i2.boxR]; rfl, r1, o2, i2, i2.ownP, i2.boxL⟩
theorem operand_call {r L R base : Nat} {w0 w : World} {S S1 : M.St} {l : List ByteArray × List M.Opd} {va vp : Value} {o : M.Opd} (h : Rd w r S) (hi : PropsIn r L R base w0 w S l va vp) (hres : M.operand S = .ok (S1, o)) :
    Calls Tryz.prog 82 #[.pointer (some ⟨r, 0, none⟩)] w.drew fun e w' => e = .returned (.agg #[.int .i64 o.k, .int .i64 o.n, .string o.s]) ∧ w'.cell? ⟨L, 4, none⟩ = some va ∧ w'.cell? ⟨R, 0, none⟩ = some (.pointer (some ⟨r, 0, none⟩)) ∧ Rd w' r S1 ∧ Only r w w' ∧ PropsIn r L R base w0 w' S1 l va vp ∧ w'.ownsRow base 61 3 va l.2.length (l.2.flatMap opCells) ∧ w'.heap[L]? = some (.cells #[.int .i64 4, .string ⟨#[]⟩, .string ⟨#[]⟩, .string ⟨#[]⟩, va, vp, .slice none 0 0, .slice none 0 0] 59 (0, 0)) :=
  (operand_any r S _ h.drew).mono fun e w' ⟨o1, h1, _⟩ => by
    obtain ⟨v1, rfl, r1, hv1⟩ := h1 S1 o hres
    have o2 : Only r w w' := (Only.refl r w).drew.trans o1
    have i2 := hi.mono o2 (S' := S1) (Nat.le_of_lt (M.operand_short hres))
    exact ⟨by rw [hv1], by rw [Lib.cell_of_heap i2.boxL]; rfl, by rw [Lib.cell_of_heap i2.boxR]; rfl, r1, o2, i2, i2.ownA, i2.boxL⟩

set_option maxRecDepth 8000 in
set_option maxHeartbeats 1600000 in
theorem propItem_any (r L R base : Nat) (w0 w : World) (S : M.St) (l : List ByteArray × List M.Opd) (h : Rd w r S) (hi : ∃ va vp, PropsIn r L R base w0 w S l va vp) :
    Calls Tryz.prog 91 #[.pointer (some ⟨L, 0, none⟩), .pointer (some ⟨R, 0, none⟩)] w fun e w' => Only r w0 w' ∧
      (∀ S' l', M.itemProp S l = .ok (S', l') → e = .returned (.tuple #[]) ∧ Rd w' r S' ∧ ∃ va vp, PropsIn r L R base w0 w' S' l' va vp) ∧ (∀ f, M.itemProp S l = .error f → e = .panicked (stopOf f)) := by
  obtain ⟨va, vp, hi⟩ := hi
  have hi' := hi
  obtain ⟨only, hr, R0, R1, L0, L1, ne, bs, boxR, boxL, ownP, ownA, few, fewA⟩ := hi
  obtain ⟨i0, hi0, hz0, hz1, hz2⟩ := info_parts infoStr
  obtain ⟨j0, hj0, hy0, hy1, hy2⟩ := info_parts infoOpd
  have cR : w.cell? ⟨R, 0, none⟩ = some (.pointer (some ⟨r, 0, none⟩)) := by rw [Lib.cell_of_heap boxR]; rfl
  have cL : w.cell? ⟨L, 5, none⟩ = some vp := by rw [Lib.cell_of_heap boxL]; rfl
  have hvLa : vp.ownBlock ≠ some L := fun e => by have := (ownP.lt L e).1; omega
  cases h1 : M.name S with
  | error f =>
    have hcall : Calls Tryz.prog 50 #[.pointer (some ⟨r, 0, none⟩)] w.drew fun e w' => e = .panicked (stopOf f) ∧ Only r w w' :=
      (name_any r S _ h.drew).mono fun e w' ⟨o1, _, h2⟩ => ⟨h2 f h1, (Only.refl r w).drew.trans o1⟩
    go_enter Tryz.func91, Tryz.ntmps91
    go_wp2_with fail
    refine wp_region_held_drew (S := (fun w' => w'.cell? ⟨L, 5, none⟩ = some vp ∧ w'.cell? ⟨R, 0, none⟩ = some (.pointer (some ⟨r, 0, none⟩)))) (by kernel_rfl) ⟨cL, cR⟩ (fun hHeld => ?_)
    refine wpAnyH_take (i := 0) (oi := _) (v := .pointer (some ⟨L, 5, none⟩)) rfl (by kernel_rfl) (by kernel_rfl) (by kernel_rfl) (fun _ _ _ h => h) (Or.inl ⟨by rfl, ?_⟩) hHeld ?_
    · intro w hSw
      try dsimp only at hSw
      go_simp
    simp only [Act.put, List.setIfInBounds_toArray]
    refine wpAnyH_take (i := 1) (oi := _) (v := vp) rfl (by kernel_rfl) (by kernel_rfl) (by kernel_rfl) (fun _ _ _ h => h) (Or.inl ⟨by rfl, ?_⟩) hHeld ?_
    · intro w hSw
      try dsimp only at hSw
      go_simp
    simp only [Act.put]
    refine wpAnyH_take (i := 2) (oi := _) (v := .pointer (some ⟨r, 0, none⟩)) rfl (by kernel_rfl) (by kernel_rfl) (by kernel_rfl) (fun _ _ _ h => h) (Or.inl ⟨by rfl, ?_⟩) hHeld ?_
    · intro w hSw
      try dsimp only at hSw
      go_simp
    simp only [Act.put]
    refine wpAnyH_ready (rs := [3]) (by kernel_rfl) (by simp) ?_
    refine AllReadyH.cons rfl (fun K hK => ?_) AllReadyH.nil
    go_simp
    refine hcall.mono ?_
    rintro e w1 ⟨rfl, o1⟩
    refine ⟨rfl, only.trans o1, ?_, ?_⟩
    · intro S' l' hr'; rw [M.itemProp, h1] at hr'; cases hr'
    · intro f' hr'; rw [M.itemProp, h1] at hr'; cases hr'; rfl
  | ok p =>
    obtain ⟨S1, n⟩ := p
    have hshort : S1.rest.length < S.rest.length := M.name_short h1
    have hm63 : l.1.length + 1 ≤ maxLen := by unfold maxLen; omega
    have hmby : (l.1.length + 1) * 16 ≤ 140737488355328 := by omega
    have hn63 : l.2.length + 1 ≤ maxLen := by unfold maxLen; omega
    have hnby : (l.2.length + 1) * 32 ≤ 140737488355328 := by omega
    have hcall := name_call h hi' h1
    have HR : Hid (M.itemProp S l = M.bnd (M.take S1 (M.ch 58)) fun S2 _ => M.bnd (M.operand S2) fun S3 o => .ok (S3, (l.1 ++ [n], l.2 ++ [o]))) := by unfold Hid; rw [M.itemProp, h1]; rfl
    go_enter Tryz.func91, Tryz.ntmps91
    go_wp2_with fail
    go_region_law
      (first
        | (refine step_append_lies _ (by rfl) _ _ _ (by rfl) base 9 i0 _ 1 16 Tryz.underlying49 hi0 hz0 hz1 hz2 rfl (by omega) vp l.1.length (l.1.map .string) (by rfl) (own1.alloc _)
            ⟨w1.heap.size, 0, none⟩ 1 1 [.string n] (by rfl) (by rfl) (World.news_of_block (cs := #[.string n]) (t := 9) (fr := (0, 0)) (heap_alloc_new w1 _)) (by simp [Value.oneCell'])
            Nat.one_pos hm63 hmby (by simp; omega) (w1.heap.size + 1) (by simp) ?_; intro ag acap aw howna hgrowa hata hlta; have bLa := (hgrowa.block L (by rw [World.size_alloc]; omega) (Ne.symm hvLa)).trans ((Below.heap_alloc _ _ _ (by omega)).trans bL1); have hfza := Lib.frozen_of_heap bLa 5; have cLa : aw.cell? ⟨L, 5, none⟩ = some vp := by (rw [Lib.cell_of_heap bLa]; rfl))
        | (go_simp; go_at_call 50; refine hcall.mono ?_; rintro e w1 ⟨rfl, cLw1, cRw1, rw1, ow1, iw1, own1, bL1⟩; have hszw1 := ow1.size; have hbsw1 := iw1.bs; have hlLw1 : L < w1.heap.size := (by omega)))
    all_goals
      obtain ⟨rb, ib⟩ := PropsIn.nextP iw1 rw1 (by omega) howna hgrowa
      have bLb := ib.boxL
      have cRb := cell0 ib.boxR
      go_wp2_with fail
      refine (take_any r S1 (M.ch 58) _ rb (by decide)).mono ?_
      rintro e w3 ⟨o3, hok, herr⟩
      have i3 := fun (S' : M.St) (hle : S'.rest.length ≤ S1.rest.length) => ib.mono o3 (S' := S') hle
      cases htk : M.take S1 (M.ch 58) with
      | error f =>
        obtain rfl := herr f htk
        refine ⟨rfl, (i3 S1 (Nat.le_refl _)).only, ?_, ?_⟩
        · intro S' b' hr'; rw [HR.out, htk] at hr'; cases hr'
        · intro f' hr'; rw [HR.out, htk] at hr'; cases hr'; rfl
      | ok p =>
        obtain ⟨S2, u⟩ := p
        obtain ⟨v, rfl, r3, hv⟩ := hok S2 u htk
        obtain rfl : v = .tuple #[] := hv
        have hI := i3 S2 (M.take_le htk).rest
        have hle2 := (M.take_le htk).rest
        have HR2 : Hid (M.itemProp S l = M.bnd (M.operand S2) fun S3 o => .ok (S3, (l.1 ++ [n], l.2 ++ [o]))) := by unfold Hid; rw [HR.out, htk]; rfl
        have cR3 : w3.cell? ⟨R, 0, none⟩ = some (.pointer (some ⟨r, 0, none⟩)) := by rw [Lib.cell_of_heap hI.boxR]; rfl
        have cL3 : w3.cell? ⟨L, 4, none⟩ = some va := by rw [Lib.cell_of_heap hI.boxL]; rfl
        have hvLc : va.ownBlock ≠ some L := fun e => by have := (hI.ownA.lt L e).1; omega
        clear hok herr i3
        cases h3 : M.operand S2 with
        | error f =>
          have hcall2 : Calls Tryz.prog 82 #[.pointer (some ⟨r, 0, none⟩)] w3.drew fun e w' => e = .panicked (stopOf f) ∧ Only r w3 w' :=
            (operand_any r S2 _ r3.drew).mono fun e w' ⟨o1, _, h2⟩ => ⟨h2 f h3, (Only.refl r w3).drew.trans o1⟩
          go_wp2_with fail
          refine wp_region_held_drew (S := (fun w' => w'.cell? ⟨L, 4, none⟩ = some va ∧ w'.cell? ⟨R, 0, none⟩ = some (.pointer (some ⟨r, 0, none⟩)))) (by kernel_rfl) ⟨cL3, cR3⟩ (fun hHeld => ?_)
          refine wpAnyH_take (i := 0) (oi := _) (v := .pointer (some ⟨L, 4, none⟩)) rfl (by kernel_rfl) (by kernel_rfl) (by kernel_rfl) (fun _ _ _ h => h) (Or.inl ⟨by rfl, ?_⟩) hHeld ?_
          · intro w hSw
            try dsimp only at hSw
            go_simp
          simp only [Act.put, List.setIfInBounds_toArray]
          refine wpAnyH_take (i := 1) (oi := _) (v := va) rfl (by kernel_rfl) (by kernel_rfl) (by kernel_rfl) (fun _ _ _ h => h) (Or.inl ⟨by rfl, ?_⟩) hHeld ?_
          · intro w hSw
            try dsimp only at hSw
            go_simp
          simp only [Act.put]
          refine wpAnyH_take (i := 2) (oi := _) (v := .pointer (some ⟨r, 0, none⟩)) rfl (by kernel_rfl) (by kernel_rfl) (by kernel_rfl) (fun _ _ _ h => h) (Or.inl ⟨by rfl, ?_⟩) hHeld ?_
          · intro w hSw
            try dsimp only at hSw
            go_simp
          simp only [Act.put]
          refine wpAnyH_ready (rs := [3]) (by kernel_rfl) (by simp) ?_
          refine AllReadyH.cons rfl (fun K hK => ?_) AllReadyH.nil
          go_simp
          refine hcall2.mono ?_
          rintro e w4 ⟨rfl, o4⟩
          refine ⟨rfl, hI.only.trans o4, ?_, ?_⟩
          · intro S' l' hr'; rw [HR2.out, h3] at hr'; cases hr'
          · intro f' hr'; rw [HR2.out, h3] at hr'; cases hr'; rfl
        | ok p =>
          obtain ⟨S3, o⟩ := p
          have hshort3 := M.operand_short h3
          have hcall2 := operand_call r3 hI h3
          go_wp2_with fail
          go_region_law
            (first
              | (refine step_append_lies _ (by rfl) _ _ _ (by rfl) base 61 j0 _ 3 32 Tryz.underlying57 hj0 hy0 hy1 hy2 rfl (by omega) va l.2.length (l.2.flatMap opCells) (by rfl) (own4.alloc _)
                  ⟨w4.heap.size, 0, none⟩ 1 1 [.int .i64 o.k, .int .i64 o.n, .string o.s] (by rfl) (by rfl) (World.news_of_block (cs := #[.int .i64 o.k, .int .i64 o.n, .string o.s]) (t := 61) (fr := (0, 0)) (heap_alloc_new w4 _)) (by simp [Value.oneCell'])
                  Nat.one_pos hn63 hnby (by simp; omega) (w4.heap.size + 1) (by simp) ?_; intro cg ccap cw hownc hgrowc hatc hltc; have bLc := (hgrowc.block L (by rw [World.size_alloc]; omega) (Ne.symm hvLc)).trans ((Below.heap_alloc _ _ _ (by omega)).trans bL4); have hfzc := Lib.frozen_of_heap bLc 4; have cLc : cw.cell? ⟨L, 4, none⟩ = some va := by (rw [Lib.cell_of_heap bLc]; rfl))
              | (go_simp; go_at_call 82; refine hcall2.mono ?_; rintro e w4 ⟨rfl, cLw4, cRw4, rw4, ow4, iw4, own4, bL4⟩; have hszw4 := ow4.size; have hbsw4 := iw4.bs; have hlLw4 : L < w4.heap.size := (by omega)))
          all_goals
            go_wp2_with fail
            go_end0
            obtain ⟨rd, idd⟩ := PropsIn.nextA iw4 rw4 (by have := fewA; show l.2.length + 1 + S3.rest.length ≤ _; omega) hownc hgrowc
            refine ⟨idd.only, ?_, ?_⟩
            · intro S' l' hr'
              rw [HR2.out, h3] at hr'
              simp only [M.bnd, Except.ok.injEq, Prod.mk.injEq] at hr'
              obtain ⟨rfl, rfl⟩ := hr'
              exact ⟨rfl, rd, _, _, idd⟩
            · intro f' hr'; rw [HR2.out, h3] at hr'; cases hr'
end Go.Proofs.YtkonkdhoakcmdaaGreatDoor
