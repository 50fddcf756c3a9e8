/-
  The walk of the closure that reads a new object's properties. Conditions: those that each fact names.
-/
import Derived.Test.YtkpmpnebmkeocaaGreatDoorQA
set_option linter.unusedVariables false
section
namespace Go.Proofs.YtkpmpnebmkeocaaGreatDoor
open Go.RowKit

theorem cell0 {w : World} {b : Nat} {v : Value} {T : TypeId} (h : w.heap[b]? = some (.cells #[v] T (0, 0))) : w.cell? ⟨b, 0, none⟩ = some v := by rw [Lib.cell_of_heap h]; rfl

structure PropsIn (r L R base : Nat) (w0 w : World) (S : M.St) (l : List ByteArray × List M.Opd) (va vp : Value) : Prop where
  only : Only r w0 w
  hr : r < w0.heap.size
  R0 : R ≠ r
  R1 : R < base
  L0 : w0.heap.size ≤ L
  L1 : L < base
  ne : L ≠ R
  bs : base ≤ w.heap.size
  boxR : w.heap[R]? = some (.cells #[.pointer (some ⟨r, 0, none⟩)] 110 (0, 0))
  boxL : w.heap[L]? = some (.cells #[.int .i64 4, .string ⟨#[]⟩, .string ⟨#[]⟩, .string ⟨#[]⟩, va, vp, .slice none 0 0, .slice none 0 0] 32 (0, 0))
  ownP : w.ownsRow base 9 1 vp l.1.length (l.1.map .string)
  ownA : w.ownsRow base 47 3 va l.2.length (l.2.flatMap opCells)
  few : l.1.length + S.rest.length ≤ 4398046511104
  fewA : l.2.length + S.rest.length ≤ 4398046511104

theorem PropsIn.mono {r L R base : Nat} {w0 w w' : World} {S S' : M.St} {l : List ByteArray × List M.Opd} {va vp : Value} (h : PropsIn r L R base w0 w S l va vp) (o : Only r w w') (hle : S'.rest.length ≤ S.rest.length) : PropsIn r L R base w0 w' S' l va vp := by
  obtain ⟨only, hr, R0, R1, L0, L1, ne, bs, boxR, boxL, ownP, ownA, few, fewA⟩ := h
  refine ⟨only.trans o, hr, R0, R1, L0, L1, ne, Nat.le_trans bs o.size, ?_, ?_, ownsRow_only ownP o (by omega), ownsRow_only ownA o (by omega), by omega, by omega⟩
  · rw [o.block R (by omega) (by omega)]; exact boxR
  · rw [o.block L (by omega) (by omega)]; exact boxL

theorem own_ne {w : World} {b b' z z' n n' : Nat} {e e' : TypeId} {v v' : Value} {xs xs' : List Value} (h : w.ownsRow b e z v n xs) (h' : w.ownsRow b' e' z' v' n' xs') (he : e ≠ e') (k : Nat) (hk : v.ownBlock = some k) : v'.ownBlock ≠ some k := by
  intro hk'
  rcases h.2 with ⟨rfl, _⟩ | ⟨g, cap, cur, rfl, _, hh, _⟩
  · cases hk
  · rcases h'.2 with ⟨rfl, _⟩ | ⟨g', cap', cur', rfl, _, hh', _⟩
    · cases hk'
    · simp only [Value.ownBlock, Option.some.injEq] at hk hk'
      subst hk hk'
      rw [hh] at hh'
      simp only [Option.some.injEq, Obj.cells.injEq] at hh'
      exact he hh'.2.1

theorem own_far {w w' : World} {b z n : Nat} {e : TypeId} {v : Value} {xs : List Value} (h : w.ownsRow b e z v n xs) (hb : ∀ k, v.ownBlock = some k → k < w.heap.size → w'.heap[k]? = w.heap[k]?) : w'.ownsRow b e z v n xs := by
  refine ⟨h.1, ?_⟩
  rcases h.2 with h | ⟨g, cap, cur, rfl, hg, hh, k⟩
  · exact .inl h
  · refine .inr ⟨g, cap, cur, rfl, hg, ?_, k⟩
    rw [hb g rfl (Array.getElem?_eq_some_iff.1 hh).1]; exact hh

theorem PropsIn.nextP {r L R base : Nat} {w0 w1 w2 : World} {S1 : M.St} {l : List ByteArray × List M.Opd} {va vp : Value} {obj : Obj} {n : ByteArray} {g cap : Nat}
    (h : PropsIn r L R base w0 w1 S1 l va vp) (r1 : Rd w1 r S1) (hshort : l.1.length + 1 + S1.rest.length ≤ 4398046511104)
    (hown2 : w2.ownsRow base 9 1 (.slice (some ⟨g, 0, none⟩) (l.1.length + 1) cap) (l.1.length + 1) (l.1.map .string ++ [.string n])) (hgrow : (w1.alloc obj).grownBy w2 vp.ownBlock) :
    Rd (w2.setCell ⟨L, 5, none⟩ (.slice (some ⟨g, 0, none⟩) (l.1.length + 1) cap)) r S1 ∧ PropsIn r L R base w0 (w2.setCell ⟨L, 5, none⟩ (.slice (some ⟨g, 0, none⟩) (l.1.length + 1) cap)) S1 (l.1 ++ [n], l.2) va (.slice (some ⟨g, 0, none⟩) (l.1.length + 1) cap) := by
  obtain ⟨only, hr, R0, R1, L0, L1, ne, bs, boxR, boxL, ownP, ownA, few, fewA⟩ := h
  have hv : ∀ k, vp.ownBlock = some k → base ≤ k := fun k hk => (ownP.lt k hk).1
  obtain ⟨g1, g2, g3, g4, g5, g6⟩ := grow_step (c := 5) only hr L0 L1 boxL ownP hgrow bs (.slice (some ⟨g, 0, none⟩) (l.1.length + 1) cap)
  refine ⟨g2 _ r1, g1, hr, R0, R1, L0, L1, ne, Nat.le_trans bs g5, (g4 R (by omega) (Ne.symm ne) (fun e => by have := hv R e; omega)).trans boxR, g3, ?_, ?_, ?_, fewA⟩
  · have := g6 hown2 L1
    simpa using this
  · refine own_far ownA fun k hk hlt => g4 k hlt (fun e => by have := (ownA.lt k hk).1; omega) (own_ne ownA ownP (by decide) k hk)
  · simp only [List.length_append, List.length_cons, List.length_nil]; omega
theorem PropsIn.nextA {r L R base : Nat} {w0 w1 w2 : World} {S1 : M.St} {l : List ByteArray × List M.Opd} {va vp : Value} {obj : Obj} {o : M.Opd} {g cap : Nat}
    (h : PropsIn r L R base w0 w1 S1 l va vp) (r1 : Rd w1 r S1) (hshort : l.2.length + 1 + S1.rest.length ≤ 4398046511104)
    (hown2 : w2.ownsRow base 47 3 (.slice (some ⟨g, 0, none⟩) (l.2.length + 1) cap) (l.2.length + 1) (l.2.flatMap opCells ++ [.int .i64 o.k, .int .i64 o.n, .string o.s])) (hgrow : (w1.alloc obj).grownBy w2 va.ownBlock) :
    Rd (w2.setCell ⟨L, 4, none⟩ (.slice (some ⟨g, 0, none⟩) (l.2.length + 1) cap)) r S1 ∧ PropsIn r L R base w0 (w2.setCell ⟨L, 4, none⟩ (.slice (some ⟨g, 0, none⟩) (l.2.length + 1) cap)) S1 (l.1, l.2 ++ [o]) (.slice (some ⟨g, 0, none⟩) (l.2.length + 1) cap) vp := by
  obtain ⟨only, hr, R0, R1, L0, L1, ne, bs, boxR, boxL, ownP, ownA, few, fewA⟩ := h
  have hv : ∀ k, va.ownBlock = some k → base ≤ k := fun k hk => (ownA.lt k hk).1
  obtain ⟨g1, g2, g3, g4, g5, g6⟩ := grow_step (c := 4) only hr L0 L1 boxL ownA hgrow bs (.slice (some ⟨g, 0, none⟩) (l.2.length + 1) cap)
  refine ⟨g2 _ r1, g1, hr, R0, R1, L0, L1, ne, Nat.le_trans bs g5, (g4 R (by omega) (Ne.symm ne) (fun e => by have := hv R e; omega)).trans boxR, g3, ?_, ?_, few, ?_⟩
  · refine own_far ownP fun k hk hlt => g4 k hlt (fun e => by have := (ownP.lt k hk).1; omega) (own_ne ownP ownA (by decide) k hk)
  · have := g6 hown2 L1
    simpa [opCells] using this
  · simp only [List.length_append, List.length_cons, List.length_nil]; omega

theorem M.itemProp_short {S S' : M.St} {l l' : List ByteArray × List M.Opd} (h : M.itemProp S l = .ok (S', l')) : S'.rest.length < S.rest.length := by
  obtain ⟨S1, o, h1, h2⟩ := M.bnd_ok h
  obtain ⟨S2, o2, h3, h4⟩ := M.bnd_ok h2
  obtain ⟨S3, o3, h5, h6⟩ := M.bnd_ok h4
  cases h6
  have := M.name_short h1
  have := (M.take_le h3).rest
  have := M.operand_short h5
  omega

theorem name_call {r L R base : Nat} {w0 w : World} {S S1 : M.St} {l : List ByteArray × List M.Opd} {va vp : Value} {n : ByteArray} (h : Rd w r S) (hi : PropsIn r L R base w0 w S l va vp) (hres : M.name S = .ok (S1, n)) :
    Calls Tryz.prog 105 #[.pointer (some ⟨r, 0, none⟩)] w.drew fun e w' => e = .returned (.string n) ∧ w'.cell? ⟨L, 5, none⟩ = some vp ∧ w'.cell? ⟨R, 0, none⟩ = some (.pointer (some ⟨r, 0, none⟩)) ∧ Rd w' r S1 ∧ Only r w w' ∧ PropsIn r L R base w0 w' S1 l va vp ∧ w'.ownsRow base 9 1 vp l.1.length (l.1.map .string) ∧ w'.heap[L]? = some (.cells #[.int .i64 4, .string ⟨#[]⟩, .string ⟨#[]⟩, .string ⟨#[]⟩, va, vp, .slice none 0 0, .slice none 0 0] 32 (0, 0)) :=
  (name_any r S _ h.drew).mono fun e w' ⟨o1, h1, _⟩ => by
    obtain ⟨v1, rfl, r1, hv1⟩ := h1 S1 n hres
    have o2 : Only r w w' := (Only.refl r w).drew.trans o1
    have i2 := hi.mono o2 (S' := S1) (Nat.le_of_lt (M.name_short hres))
    exact ⟨by rw [hv1], by rw [Lib.cell_of_heap i2.boxL]; rfl, by rw [Lib.cell_of_heap i2.boxR]; rfl, r1, o2, i2, i2.ownP, i2.boxL⟩
theorem operand_call {r L R base : Nat} {w0 w : World} {S S1 : M.St} {l : List ByteArray × List M.Opd} {va vp : Value} {o : M.Opd} (h : Rd w r S) (hi : PropsIn r L R base w0 w S l va vp) (hres : M.operand S = .ok (S1, o)) :
    Calls Tryz.prog 138 #[.pointer (some ⟨r, 0, none⟩)] w.drew fun e w' => e = .returned (.agg #[.int .i64 o.k, .int .i64 o.n, .string o.s]) ∧ w'.cell? ⟨L, 4, none⟩ = some va ∧ w'.cell? ⟨R, 0, none⟩ = some (.pointer (some ⟨r, 0, none⟩)) ∧ Rd w' r S1 ∧ Only r w w' ∧ PropsIn r L R base w0 w' S1 l va vp ∧ w'.ownsRow base 47 3 va l.2.length (l.2.flatMap opCells) ∧ w'.heap[L]? = some (.cells #[.int .i64 4, .string ⟨#[]⟩, .string ⟨#[]⟩, .string ⟨#[]⟩, va, vp, .slice none 0 0, .slice none 0 0] 32 (0, 0)) :=
  (operand_any r S _ h.drew).mono fun e w' ⟨o1, h1, _⟩ => by
    obtain ⟨v1, rfl, r1, hv1⟩ := h1 S1 o hres
    have o2 : Only r w w' := (Only.refl r w).drew.trans o1
    have i2 := hi.mono o2 (S' := S1) (Nat.le_of_lt (M.operand_short hres))
    exact ⟨by rw [hv1], by rw [Lib.cell_of_heap i2.boxL]; rfl, by rw [Lib.cell_of_heap i2.boxR]; rfl, r1, o2, i2, i2.ownA, i2.boxL⟩

set_option maxRecDepth 8000 in
set_option maxHeartbeats 1600000 in
theorem propItem_any (r L R base : Nat) (w0 w : World) (S : M.St) (l : List ByteArray × List M.Opd) (h : Rd w r S) (hi : ∃ va vp, PropsIn r L R base w0 w S l va vp) :
    Calls Tryz.prog 147 #[.pointer (some ⟨L, 0, none⟩), .pointer (some ⟨R, 0, none⟩)] w fun e w' => Only r w0 w' ∧
      (∀ S' l', M.itemProp S l = .ok (S', l') → e = .returned (.tuple #[]) ∧ Rd w' r S' ∧ ∃ va vp, PropsIn r L R base w0 w' S' l' va vp) ∧ (∀ f, M.itemProp S l = .error f → e = .panicked (stopOf f)) := by
  obtain ⟨va, vp, hi⟩ := hi
  have hi' := hi
  obtain ⟨only, hr, R0, R1, L0, L1, ne, bs, boxR, boxL, ownP, ownA, few, fewA⟩ := hi
  obtain ⟨i0, hi0, hz0, hz1, hz2⟩ := info_parts infoStr
  obtain ⟨j0, hj0, hy0, hy1, hy2⟩ := info_parts infoOpd
  have cR : w.cell? ⟨R, 0, none⟩ = some (.pointer (some ⟨r, 0, none⟩)) := by rw [Lib.cell_of_heap boxR]; rfl
  have cL : w.cell? ⟨L, 5, none⟩ = some vp := by rw [Lib.cell_of_heap boxL]; rfl
  have hvLa : vp.ownBlock ≠ some L := fun e => by have := (ownP.lt L e).1; omega
  cases h1 : M.name S with
  | error f =>
    have hcall : Calls Tryz.prog 105 #[.pointer (some ⟨r, 0, none⟩)] w.drew fun e w' => e = .panicked (stopOf f) ∧ Only r w w' :=
      (name_any r S _ h.drew).mono fun e w' ⟨o1, _, h2⟩ => ⟨h2 f h1, (Only.refl r w).drew.trans o1⟩
    go_enter Tryz.func147, Tryz.ntmps147
    go_wp2_with fail
    refine wp_region_held_drew (S := (fun w' => w'.cell? ⟨L, 5, none⟩ = some vp ∧ w'.cell? ⟨R, 0, none⟩ = some (.pointer (some ⟨r, 0, none⟩)))) (by kernel_rfl) ⟨cL, cR⟩ (fun hHeld => ?_)
    refine wpAnyH_take (i := 0) (oi := _) (v := .pointer (some ⟨L, 5, none⟩)) rfl (by kernel_rfl) (by kernel_rfl) (by kernel_rfl) (fun _ _ _ h => h) (Or.inl ⟨by rfl, ?_⟩) hHeld ?_
    · intro w hSw
      try dsimp only at hSw
      go_simp
    simp only [Act.put, List.setIfInBounds_toArray]
    refine wpAnyH_take (i := 1) (oi := _) (v := vp) rfl (by kernel_rfl) (by kernel_rfl) (by kernel_rfl) (fun _ _ _ h => h) (Or.inl ⟨by rfl, ?_⟩) hHeld ?_
    · intro w hSw
      try dsimp only at hSw
      go_simp
    simp only [Act.put]
    refine wpAnyH_take (i := 2) (oi := _) (v := .pointer (some ⟨r, 0, none⟩)) rfl (by kernel_rfl) (by kernel_rfl) (by kernel_rfl) (fun _ _ _ h => h) (Or.inl ⟨by rfl, ?_⟩) hHeld ?_
    · intro w hSw
      try dsimp only at hSw
      go_simp
    simp only [Act.put]
    refine wpAnyH_ready (rs := [3]) (by kernel_rfl) (by simp) ?_
    refine AllReadyH.cons rfl (fun K hK => ?_) AllReadyH.nil
    go_simp
    refine hcall.mono ?_
    rintro e w1 ⟨rfl, o1⟩
    refine ⟨rfl, only.trans o1, ?_, ?_⟩
    · intro S' l' hr'; rw [M.itemProp, h1] at hr'; cases hr'
    · intro f' hr'; rw [M.itemProp, h1] at hr'; cases hr'; rfl
  | ok p =>
    obtain ⟨S1, n⟩ := p
    have hshort : S1.rest.length < S.rest.length := M.name_short h1
    have hm63 : l.1.length + 1 ≤ maxLen := by unfold maxLen; omega
    have hmby : (l.1.length + 1) * 16 ≤ 140737488355328 := by omega
    have hn63 : l.2.length + 1 ≤ maxLen := by unfold maxLen; omega
    have hnby : (l.2.length + 1) * 32 ≤ 140737488355328 := by omega
    have hcall := name_call h hi' h1
    have HR : Hid (M.itemProp S l = M.bnd (M.take S1 (M.ch 58)) fun S2 _ => M.bnd (M.operand S2) fun S3 o => .ok (S3, (l.1 ++ [n], l.2 ++ [o]))) := by unfold Hid; rw [M.itemProp, h1]; rfl
    go_enter Tryz.func147, Tryz.ntmps147
    go_wp2_with fail
    go_region_law
      (first
        | (refine step_append_lies _ (by rfl) _ _ _ (by rfl) base 9 i0 _ 1 16 Tryz.underlying29 hi0 hz0 hz1 hz2 rfl (by omega) vp l.1.length (l.1.map .string) (by rfl) (own1.alloc _)
            ⟨w1.heap.size, 0, none⟩ 1 1 [.string n] (by rfl) (by rfl) (World.news_of_block (cs := #[.string n]) (t := 9) (fr := (0, 0)) (heap_alloc_new w1 _)) (by simp [Value.oneCell'])
            Nat.one_pos hm63 hmby (by simp; omega) (w1.heap.size + 1) (by simp) ?_; intro ag acap aw howna hgrowa hata hlta; have bLa := (hgrowa.block L (by rw [World.size_alloc]; omega) (Ne.symm hvLa)).trans ((Below.heap_alloc _ _ _ (by omega)).trans bL1); have hfza := Lib.frozen_of_heap bLa 5; have cLa : aw.cell? ⟨L, 5, none⟩ = some vp := by (rw [Lib.cell_of_heap bLa]; rfl))
        | (go_simp; go_at_call 105; refine hcall.mono ?_; rintro e w1 ⟨rfl, cLw1, cRw1, rw1, ow1, iw1, own1, bL1⟩; have hszw1 := ow1.size; have hbsw1 := iw1.bs; have hlLw1 : L < w1.heap.size := (by omega)))
    all_goals
      obtain ⟨rb, ib⟩ := PropsIn.nextP iw1 rw1 (by omega) howna hgrowa
      have bLb := ib.boxL
      have cRb := cell0 ib.boxR
      go_wp2_with fail
      refine (take_any r S1 (M.ch 58) _ rb (by decide)).mono ?_
      rintro e w3 ⟨o3, hok, herr⟩
      have i3 := fun (S' : M.St) (hle : S'.rest.length ≤ S1.rest.length) => ib.mono o3 (S' := S') hle
      cases htk : M.take S1 (M.ch 58) with
      | error f =>
        obtain rfl := herr f htk
        refine ⟨rfl, (i3 S1 (Nat.le_refl _)).only, ?_, ?_⟩
        · intro S' b' hr'; rw [HR.out, htk] at hr'; cases hr'
        · intro f' hr'; rw [HR.out, htk] at hr'; cases hr'; rfl
      | ok p =>
        obtain ⟨S2, u⟩ := p
        obtain ⟨v, rfl, r3, hv⟩ := hok S2 u htk
        obtain rfl : v = .tuple #[] := hv
        have hI := i3 S2 (M.take_le htk).rest
        have hle2 := (M.take_le htk).rest
        have HR2 : Hid (M.itemProp S l = M.bnd (M.operand S2) fun S3 o => .ok (S3, (l.1 ++ [n], l.2 ++ [o]))) := by unfold Hid; rw [HR.out, htk]; rfl
        have cR3 : w3.cell? ⟨R, 0, none⟩ = some (.pointer (some ⟨r, 0, none⟩)) := by rw [Lib.cell_of_heap hI.boxR]; rfl
        have cL3 : w3.cell? ⟨L, 4, none⟩ = some va := by rw [Lib.cell_of_heap hI.boxL]; rfl
        have hvLc : va.ownBlock ≠ some L := fun e => by have := (hI.ownA.lt L e).1; omega
        clear hok herr i3
        cases h3 : M.operand S2 with
        | error f =>
          have hcall2 : Calls Tryz.prog 138 #[.pointer (some ⟨r, 0, none⟩)] w3.drew fun e w' => e = .panicked (stopOf f) ∧ Only r w3 w' :=
            (operand_any r S2 _ r3.drew).mono fun e w' ⟨o1, _, h2⟩ => ⟨h2 f h3, (Only.refl r w3).drew.trans o1⟩
          go_wp2_with fail
          refine wp_region_held_drew (S := (fun w' => w'.cell? ⟨L, 4, none⟩ = some va ∧ w'.cell? ⟨R, 0, none⟩ = some (.pointer (some ⟨r, 0, none⟩)))) (by kernel_rfl) ⟨cL3, cR3⟩ (fun hHeld => ?_)
          refine wpAnyH_take (i := 0) (oi := _) (v := .pointer (some ⟨L, 4, none⟩)) rfl (by kernel_rfl) (by kernel_rfl) (by kernel_rfl) (fun _ _ _ h => h) (Or.inl ⟨by rfl, ?_⟩) hHeld ?_
          · intro w hSw
            try dsimp only at hSw
            go_simp
          simp only [Act.put, List.setIfInBounds_toArray]
          refine wpAnyH_take (i := 1) (oi := _) (v := va) rfl (by kernel_rfl) (by kernel_rfl) (by kernel_rfl) (fun _ _ _ h => h) (Or.inl ⟨by rfl, ?_⟩) hHeld ?_
          · intro w hSw
            try dsimp only at hSw
            go_simp
          simp only [Act.put]
          refine wpAnyH_take (i := 2) (oi := _) (v := .pointer (some ⟨r, 0, none⟩)) rfl (by kernel_rfl) (by kernel_rfl) (by kernel_rfl) (fun _ _ _ h => h) (Or.inl ⟨by rfl, ?_⟩) hHeld ?_
          · intro w hSw
            try dsimp only at hSw
            go_simp
          simp only [Act.put]
          refine wpAnyH_ready (rs := [3]) (by kernel_rfl) (by simp) ?_
          refine AllReadyH.cons rfl (fun K hK => ?_) AllReadyH.nil
          go_simp
          refine hcall2.mono ?_
          rintro e w4 ⟨rfl, o4⟩
          refine ⟨rfl, hI.only.trans o4, ?_, ?_⟩
          · intro S' l' hr'; rw [HR2.out, h3] at hr'; cases hr'
          · intro f' hr'; rw [HR2.out, h3] at hr'; cases hr'; rfl
        | ok p =>
          obtain ⟨S3, o⟩ := p
          have hshort3 := M.operand_short h3
          have hcall2 := operand_call r3 hI h3
          go_wp2_with fail
          go_region_law
            (first
              | (refine step_append_lies _ (by rfl) _ _ _ (by rfl) base 47 j0 _ 3 32 Tryz.underlying28 hj0 hy0 hy1 hy2 rfl (by omega) va l.2.length (l.2.flatMap opCells) (by rfl) (own4.alloc _)
                  ⟨w4.heap.size, 0, none⟩ 1 1 [.int .i64 o.k, .int .i64 o.n, .string o.s] (by rfl) (by rfl) (World.news_of_block (cs := #[.int .i64 o.k, .int .i64 o.n, .string o.s]) (t := 47) (fr := (0, 0)) (heap_alloc_new w4 _)) (by simp [Value.oneCell'])
                  Nat.one_pos hn63 hnby (by simp; omega) (w4.heap.size + 1) (by simp) ?_; intro cg ccap cw hownc hgrowc hatc hltc; have bLc := (hgrowc.block L (by rw [World.size_alloc]; omega) (Ne.symm hvLc)).trans ((Below.heap_alloc _ _ _ (by omega)).trans bL4); have hfzc := Lib.frozen_of_heap bLc 4; have cLc : cw.cell? ⟨L, 4, none⟩ = some va := by (rw [Lib.cell_of_heap bLc]; rfl))
              | (go_simp; go_at_call 138; refine hcall2.mono ?_; rintro e w4 ⟨rfl, cLw4, cRw4, rw4, ow4, iw4, own4, bL4⟩; have hszw4 := ow4.size; have hbsw4 := iw4.bs; have hlLw4 : L < w4.heap.size := (by omega)))
          all_goals
            go_wp2_with fail
            go_end0
            obtain ⟨rd, idd⟩ := PropsIn.nextA iw4 rw4 (by have := fewA; show l.2.length + 1 + S3.rest.length ≤ _; omega) hownc hgrowc
            refine ⟨idd.only, ?_, ?_⟩
            · intro S' l' hr'
              rw [HR2.out, h3] at hr'
              simp only [M.bnd, Except.ok.injEq, Prod.mk.injEq] at hr'
              obtain ⟨rfl, rfl⟩ := hr'
              exact ⟨rfl, rd, _, _, idd⟩
            · intro f' hr'; rw [HR2.out, h3] at hr'; cases hr'
end Go.Proofs.YtkpmpnebmkeocaaGreatDoor
end
section
namespace Go.Proofs.YtkpmpnebmkeocaaGreatDoor
open Go.RowKit

theorem cells8 {w : World} {g : Nat} {T : TypeId} {v0 v1 v2 v3 v4 v5 v6 v7 : Value} (h : w.heap[g]? = some (.cells #[v0, v1, v2, v3, v4, v5, v6, v7] T (0, 0))) :
    w.cell? ⟨g, 0, none⟩ = some v0 ∧ w.cell? ⟨g, 1, none⟩ = some v1 ∧ w.cell? ⟨g, 2, none⟩ = some v2 ∧ w.cell? ⟨g, 3, none⟩ = some v3 ∧ w.cell? ⟨g, 4, none⟩ = some v4 ∧ w.cell? ⟨g, 5, none⟩ = some v5 ∧ w.cell? ⟨g, 6, none⟩ = some v6 ∧ w.cell? ⟨g, 7, none⟩ = some v7 ∧ (∀ i, w.frozen? ⟨g, i, none⟩ = false) ∧ g < w.heap.size := by
  refine ⟨?_, ?_, ?_, ?_, ?_, ?_, ?_, ?_, fun i => Lib.frozen_of_heap h i, (Array.getElem?_eq_some_iff.1 h).1⟩
  all_goals (rw [Lib.cell_of_heap h]; rfl)

abbrev put8 (W : World) (g : Nat) (c0 c1 c2 c3 c4 c5 c6 c7 : Value) : World := (((((((W.setCell ⟨g, 0, none⟩ c0).setCell ⟨g, 1, none⟩ c1).setCell ⟨g, 2, none⟩ c2).setCell ⟨g, 3, none⟩ c3).setCell ⟨g, 4, none⟩ c4).setCell ⟨g, 5, none⟩ c5).setCell ⟨g, 6, none⟩ c6).setCell ⟨g, 7, none⟩ c7
theorem put8_at {W : World} {g : Nat} {T : TypeId} {v0 v1 v2 v3 v4 v5 v6 v7 : Value} (h : W.heap[g]? = some (.cells #[v0, v1, v2, v3, v4, v5, v6, v7] T (0, 0))) (c0 c1 c2 c3 c4 c5 c6 c7 : Value) : (put8 W g c0 c1 c2 c3 c4 c5 c6 c7).heap[g]? = some (.cells #[c0, c1, c2, c3, c4, c5, c6, c7] T (0, 0)) := by
  have h0 : (W.setCell ⟨g, 0, none⟩ c0).heap[g]? = some (.cells #[c0, v1, v2, v3, v4, v5, v6, v7] T (0, 0)) := heap_setCell_same _ _ _ _ _ _ h
  have h1 : ((W.setCell ⟨g, 0, none⟩ c0).setCell ⟨g, 1, none⟩ c1).heap[g]? = some (.cells #[c0, c1, v2, v3, v4, v5, v6, v7] T (0, 0)) := heap_setCell_same _ _ _ _ _ _ h0
  have h2 : (((W.setCell ⟨g, 0, none⟩ c0).setCell ⟨g, 1, none⟩ c1).setCell ⟨g, 2, none⟩ c2).heap[g]? = some (.cells #[c0, c1, c2, v3, v4, v5, v6, v7] T (0, 0)) := heap_setCell_same _ _ _ _ _ _ h1
  have h3 : ((((W.setCell ⟨g, 0, none⟩ c0).setCell ⟨g, 1, none⟩ c1).setCell ⟨g, 2, none⟩ c2).setCell ⟨g, 3, none⟩ c3).heap[g]? = some (.cells #[c0, c1, c2, c3, v4, v5, v6, v7] T (0, 0)) := heap_setCell_same _ _ _ _ _ _ h2
  have h4 : (((((W.setCell ⟨g, 0, none⟩ c0).setCell ⟨g, 1, none⟩ c1).setCell ⟨g, 2, none⟩ c2).setCell ⟨g, 3, none⟩ c3).setCell ⟨g, 4, none⟩ c4).heap[g]? = some (.cells #[c0, c1, c2, c3, c4, v5, v6, v7] T (0, 0)) := heap_setCell_same _ _ _ _ _ _ h3
  have h5 : ((((((W.setCell ⟨g, 0, none⟩ c0).setCell ⟨g, 1, none⟩ c1).setCell ⟨g, 2, none⟩ c2).setCell ⟨g, 3, none⟩ c3).setCell ⟨g, 4, none⟩ c4).setCell ⟨g, 5, none⟩ c5).heap[g]? = some (.cells #[c0, c1, c2, c3, c4, c5, v6, v7] T (0, 0)) := heap_setCell_same _ _ _ _ _ _ h4
  have h6 : (((((((W.setCell ⟨g, 0, none⟩ c0).setCell ⟨g, 1, none⟩ c1).setCell ⟨g, 2, none⟩ c2).setCell ⟨g, 3, none⟩ c3).setCell ⟨g, 4, none⟩ c4).setCell ⟨g, 5, none⟩ c5).setCell ⟨g, 6, none⟩ c6).heap[g]? = some (.cells #[c0, c1, c2, c3, c4, c5, c6, v7] T (0, 0)) := heap_setCell_same _ _ _ _ _ _ h5
  have h7 : ((((((((W.setCell ⟨g, 0, none⟩ c0).setCell ⟨g, 1, none⟩ c1).setCell ⟨g, 2, none⟩ c2).setCell ⟨g, 3, none⟩ c3).setCell ⟨g, 4, none⟩ c4).setCell ⟨g, 5, none⟩ c5).setCell ⟨g, 6, none⟩ c6).setCell ⟨g, 7, none⟩ c7).heap[g]? = some (.cells #[c0, c1, c2, c3, c4, c5, c6, c7] T (0, 0)) := heap_setCell_same _ _ _ _ _ _ h6
  exact h7
theorem put8_only {r g : Nat} {w W : World} (h : Only r w W) (hg : w.heap.size ≤ g) (c0 c1 c2 c3 c4 c5 c6 c7 : Value) : Only r w (put8 W g c0 c1 c2 c3 c4 c5 c6 c7) :=
  ((((((((h.setCell (.inr hg) _).setCell (.inr hg) _).setCell (.inr hg) _).setCell (.inr hg) _).setCell (.inr hg) _).setCell (.inr hg) _).setCell (.inr hg) _).setCell (.inr hg) _)
theorem put8_rd {r g : Nat} {W : World} {S : M.St} (h : Rd W r S) (hg : r < g) (c0 c1 c2 c3 c4 c5 c6 c7 : Value) : Rd (put8 W g c0 c1 c2 c3 c4 c5 c6 c7) r S :=
  ((((((((h.setCell hg _).setCell hg _).setCell hg _).setCell hg _).setCell hg _).setCell hg _).setCell hg _).setCell hg _)
theorem put8_keep {X : Nat → Prop} {W : World} {g : Nat} (hg : X g) (c0 c1 c2 c3 c4 c5 c6 c7 : Value) : Keep X W (put8 W g c0 c1 c2 c3 c4 c5 c6 c7) :=
  ((((((((keep_set (w := W) (p := ⟨g, 0, none⟩) hg _).trans (keep_set hg _)).trans (keep_set hg _)).trans (keep_set hg _)).trans (keep_set hg _)).trans (keep_set hg _)).trans (keep_set hg _)).trans (keep_set hg _))
theorem own_form {w : World} {b z n : Nat} {e : TypeId} {v : Value} {xs : List Value} (h : w.ownsRow b e z v n xs) : ∃ a c, v = .slice a n c := by
  rcases h.2 with ⟨rfl, rfl⟩ | ⟨g, cap, cur, rfl, _⟩
  · exact ⟨_, _, rfl⟩
  · exact ⟨_, _, rfl⟩
theorem SlAt.form {w : World} {X : Nat → Prop} {n : Nat} {v : Value} {xs : List Value} (h : SlAt w X v n xs) : ∃ a c, v = .slice a n c := by
  obtain ⟨_, a, c, rfl, _⟩ := h
  exact ⟨_, _, rfl⟩
theorem Ends.err {α : Type} {r : Nat} {w w' : World} {enc : α → Value → World → Prop} {res : M.Res α} {f : M.Flt} (h : res = .error f) (o : Only r w w') : Ends r w enc res (.panicked (stopOf f)) w' :=
  ⟨o, fun S a h' => (by rw [h] at h'; cases h'), fun f' h' => by rw [h] at h'; cases h'; rfl⟩
theorem Ends.ok {α : Type} {r : Nat} {w w' : World} {enc : α → Value → World → Prop} {res : M.Res α} {S : M.St} {a : α} {v : Value} (h : res = .ok (S, a)) (o : Only r w w') (hr : Rd w' r S) (he : enc a v w') : Ends r w enc res (.returned v) w' :=
  ⟨o, fun S' a' h' => by rw [h] at h'; cases h'; exact ⟨v, rfl, hr, he⟩, fun f' h' => by rw [h] at h'; cases h'⟩
theorem ret8 {α : Type} {fn : Func} {r : Nat} {w W : World} {enc : α → Value → World → Prop} {res : M.Res α} {S' : M.St} {a : α} {tm : Array Value} {v : Value} (hrun : (results fn tm).run Tryz.prog W = .ok v W) (hres : res = .ok (S', a)) (ho : Only r w W) (hr : Rd W r S') (he : enc a v W) :
    bodyPost Tryz.prog fn (Ends r w enc res) Exit.ret { tmps := tm, defers := [] } W := bodyPost_ret hrun rfl (Ends.ok hres ho hr he)
theorem res_object {tm : Array Value} {W : World} {g : Nat} {v0 v1 v2 v3 v4 v5 v6 v7 : Value} (ht : tm.getD 2 undef = .pointer (some ⟨g, 0, none⟩)) (h : W.heap[g]? = some (.cells #[v0, v1, v2, v3, v4, v5, v6, v7] 32 (0, 0))) :
    (results Tryz.f142 tm).run Tryz.prog W = .ok (.agg #[v0, v1, v2, v3, v4, v5, v6, v7]) W := by
  obtain ⟨k0, k1, k2, k3, k4, k5, k6, k7, kf, kz⟩ := cells8 h
  simp only [Array.getD_eq_getD_getElem?] at ht
  simp [results, Tryz.results142, go_sem, ht, k0, k1, k2, k3, k4, k5, k6, k7]
theorem res_value {tm : Array Value} {W : World} {g : Nat} {v0 v1 v2 v3 v4 v5 v6 v7 : Value} (ht : tm.getD 2 undef = .pointer (some ⟨g, 0, none⟩)) (h : W.heap[g]? = some (.cells #[v0, v1, v2, v3, v4, v5, v6, v7] 32 (0, 0))) :
    (results Tryz.f139 tm).run Tryz.prog W = .ok (.agg #[v0, v1, v2, v3, v4, v5, v6, v7]) W := by
  obtain ⟨k0, k1, k2, k3, k4, k5, k6, k7, kf, kz⟩ := cells8 h
  simp only [Array.getD_eq_getD_getElem?] at ht
  simp [results, Tryz.results139, go_sem, ht, k0, k1, k2, k3, k4, k5, k6, k7]
theorem res_plain {tm : Array Value} {W : World} {g : Nat} {v0 v1 v2 v3 v4 v5 v6 v7 : Value} (ht : tm.getD 2 undef = .pointer (some ⟨g, 0, none⟩)) (h : W.heap[g]? = some (.cells #[v0, v1, v2, v3, v4, v5, v6, v7] 32 (0, 0))) :
    (results Tryz.f135 tm).run Tryz.prog W = .ok (.agg #[v0, v1, v2, v3, v4, v5, v6, v7]) W := by
  obtain ⟨k0, k1, k2, k3, k4, k5, k6, k7, kf, kz⟩ := cells8 h
  simp only [Array.getD_eq_getD_getElem?] at ht
  simp [results, Tryz.results135, go_sem, ht, k0, k1, k2, k3, k4, k5, k6, k7]
theorem res_branch {tm : Array Value} {W : World} {g : Nat} {v0 v1 v2 v3 v4 v5 v6 v7 : Value} (ht : tm.getD 2 undef = .pointer (some ⟨g, 0, none⟩)) (h : W.heap[g]? = some (.cells #[v0, v1, v2, v3, v4, v5, v6, v7] 32 (0, 0))) :
    (results Tryz.f133 tm).run Tryz.prog W = .ok (.agg #[v0, v1, v2, v3, v4, v5, v6, v7]) W := by
  obtain ⟨k0, k1, k2, k3, k4, k5, k6, k7, kf, kz⟩ := cells8 h
  simp only [Array.getD_eq_getD_getElem?] at ht
  simp [results, Tryz.results133, go_sem, ht, k0, k1, k2, k3, k4, k5, k6, k7]
theorem res_statement {tm : Array Value} {W : World} {g : Nat} {v0 v1 v2 v3 v4 v5 v6 v7 : Value} (ht : tm.getD 2 undef = .pointer (some ⟨g, 0, none⟩)) (h : W.heap[g]? = some (.cells #[v0, v1, v2, v3, v4, v5, v6, v7] 32 (0, 0))) :
    (results Tryz.f122 tm).run Tryz.prog W = .ok (.agg #[v0, v1, v2, v3, v4, v5, v6, v7]) W := by
  obtain ⟨k0, k1, k2, k3, k4, k5, k6, k7, kf, kz⟩ := cells8 h
  simp only [Array.getD_eq_getD_getElem?] at ht
  simp [results, Tryz.results122, go_sem, ht, k0, k1, k2, k3, k4, k5, k6, k7]

set_option maxHeartbeats 400000 in
theorem atStatement_any (r : Nat) (S : M.St) (w : World) (h : Rd w r S) :
    Calls Tryz.prog 132 #[.pointer (some ⟨r, 0, none⟩)] w fun e w' => e = .returned (.bool S.atStmt) ∧ w' = w := by
  unfold M.St.atStmt
  cases h0 : S.isName
  · skip
    cases h1 : S.at M.kOut
    · skip
      cases h2 : S.at M.kReturn
      · skip
        cases h3 : S.at M.kIf
        · skip
          cases h4 : S.at M.kWhile
          · skip
            have g0 := atName_any r S w h
            rw [h0] at g0
            have g1 := at_any r S M.kOut w h
            rw [h1] at g1
            have g2 := at_any r S M.kReturn w h
            rw [h2] at g2
            have g3 := at_any r S M.kIf w h
            rw [h3] at g3
            have g4 := at_any r S M.kWhile w h
            rw [h4] at g4
            go_enter Tryz.func132, Tryz.ntmps132
            go_wp2_with fail
            refine g0.mono ?_
            rintro e w' ⟨rfl, rfl⟩
            go_wp2_with fail
            refine g1.mono ?_
            rintro e w' ⟨rfl, rfl⟩
            go_wp2_with fail
            refine g2.mono ?_
            rintro e w' ⟨rfl, rfl⟩
            go_wp2_with fail
            refine g3.mono ?_
            rintro e w' ⟨rfl, rfl⟩
            go_wp2_with fail
            refine g4.mono ?_
            rintro e w' ⟨rfl, rfl⟩
            go_wp2_with fail
            go_ret
            exact ⟨by simp, rfl⟩
          · skip
            have g0 := atName_any r S w h
            rw [h0] at g0
            have g1 := at_any r S M.kOut w h
            rw [h1] at g1
            have g2 := at_any r S M.kReturn w h
            rw [h2] at g2
            have g3 := at_any r S M.kIf w h
            rw [h3] at g3
            have g4 := at_any r S M.kWhile w h
            rw [h4] at g4
            go_enter Tryz.func132, Tryz.ntmps132
            go_wp2_with fail
            refine g0.mono ?_
            rintro e w' ⟨rfl, rfl⟩
            go_wp2_with fail
            refine g1.mono ?_
            rintro e w' ⟨rfl, rfl⟩
            go_wp2_with fail
            refine g2.mono ?_
            rintro e w' ⟨rfl, rfl⟩
            go_wp2_with fail
            refine g3.mono ?_
            rintro e w' ⟨rfl, rfl⟩
            go_wp2_with fail
            refine g4.mono ?_
            rintro e w' ⟨rfl, rfl⟩
            go_wp2_with fail
            go_ret
            exact ⟨by simp, rfl⟩
        · skip
          have g0 := atName_any r S w h
          rw [h0] at g0
          have g1 := at_any r S M.kOut w h
          rw [h1] at g1
          have g2 := at_any r S M.kReturn w h
          rw [h2] at g2
          have g3 := at_any r S M.kIf w h
          rw [h3] at g3
          go_enter Tryz.func132, Tryz.ntmps132
          go_wp2_with fail
          refine g0.mono ?_
          rintro e w' ⟨rfl, rfl⟩
          go_wp2_with fail
          refine g1.mono ?_
          rintro e w' ⟨rfl, rfl⟩
          go_wp2_with fail
          refine g2.mono ?_
          rintro e w' ⟨rfl, rfl⟩
          go_wp2_with fail
          refine g3.mono ?_
          rintro e w' ⟨rfl, rfl⟩
          go_wp2_with fail
          go_ret
          exact ⟨by simp, rfl⟩
      · skip
        have g0 := atName_any r S w h
        rw [h0] at g0
        have g1 := at_any r S M.kOut w h
        rw [h1] at g1
        have g2 := at_any r S M.kReturn w h
        rw [h2] at g2
        go_enter Tryz.func132, Tryz.ntmps132
        go_wp2_with fail
        refine g0.mono ?_
        rintro e w' ⟨rfl, rfl⟩
        go_wp2_with fail
        refine g1.mono ?_
        rintro e w' ⟨rfl, rfl⟩
        go_wp2_with fail
        refine g2.mono ?_
        rintro e w' ⟨rfl, rfl⟩
        go_wp2_with fail
        go_ret
        exact ⟨by simp, rfl⟩
    · skip
      have g0 := atName_any r S w h
      rw [h0] at g0
      have g1 := at_any r S M.kOut w h
      rw [h1] at g1
      go_enter Tryz.func132, Tryz.ntmps132
      go_wp2_with fail
      refine g0.mono ?_
      rintro e w' ⟨rfl, rfl⟩
      go_wp2_with fail
      refine g1.mono ?_
      rintro e w' ⟨rfl, rfl⟩
      go_wp2_with fail
      go_ret
      exact ⟨by simp, rfl⟩
  · skip
    have g0 := atName_any r S w h
    rw [h0] at g0
    go_enter Tryz.func132, Tryz.ntmps132
    go_wp2_with fail
    refine g0.mono ?_
    rintro e w' ⟨rfl, rfl⟩
    go_wp2_with fail
    go_ret
    exact ⟨by simp, rfl⟩

set_option maxHeartbeats 400000 in
theorem atArith_any (r : Nat) (S : M.St) (w : World) (h : Rd w r S) :
    Calls Tryz.prog 143 #[.pointer (some ⟨r, 0, none⟩)] w fun e w' => e = .returned (.bool S.atArith) ∧ w' = w := by
  unfold M.St.atArith
  cases h0 : S.at (M.ch 43)
  · skip
    cases h1 : S.at (M.ch 45)
    · skip
      cases h2 : S.at (M.ch 42)
      · skip
        cases h3 : S.at (M.ch 60)
        · skip
          cases h4 : S.at (M.ch 61)
          · skip
            have g0 := at_any r S (M.ch 43) w h
            rw [h0] at g0
            have g1 := at_any r S (M.ch 45) w h
            rw [h1] at g1
            have g2 := at_any r S (M.ch 42) w h
            rw [h2] at g2
            have g3 := at_any r S (M.ch 60) w h
            rw [h3] at g3
            have g4 := at_any r S (M.ch 61) w h
            rw [h4] at g4
            go_enter Tryz.func143, Tryz.ntmps143
            go_wp2_with fail
            refine g0.mono ?_
            rintro e w' ⟨rfl, rfl⟩
            go_wp2_with fail
            refine g1.mono ?_
            rintro e w' ⟨rfl, rfl⟩
            go_wp2_with fail
            refine g2.mono ?_
            rintro e w' ⟨rfl, rfl⟩
            go_wp2_with fail
            refine g3.mono ?_
            rintro e w' ⟨rfl, rfl⟩
            go_wp2_with fail
            refine g4.mono ?_
            rintro e w' ⟨rfl, rfl⟩
            go_wp2_with fail
            go_ret
            exact ⟨by simp, rfl⟩
          · skip
            have g0 := at_any r S (M.ch 43) w h
            rw [h0] at g0
            have g1 := at_any r S (M.ch 45) w h
            rw [h1] at g1
            have g2 := at_any r S (M.ch 42) w h
            rw [h2] at g2
            have g3 := at_any r S (M.ch 60) w h
            rw [h3] at g3
            have g4 := at_any r S (M.ch 61) w h
            rw [h4] at g4
            go_enter Tryz.func143, Tryz.ntmps143
            go_wp2_with fail
            refine g0.mono ?_
            rintro e w' ⟨rfl, rfl⟩
            go_wp2_with fail
            refine g1.mono ?_
            rintro e w' ⟨rfl, rfl⟩
            go_wp2_with fail
            refine g2.mono ?_
            rintro e w' ⟨rfl, rfl⟩
            go_wp2_with fail
            refine g3.mono ?_
            rintro e w' ⟨rfl, rfl⟩
            go_wp2_with fail
            refine g4.mono ?_
            rintro e w' ⟨rfl, rfl⟩
            go_wp2_with fail
            go_ret
            exact ⟨by simp, rfl⟩
        · skip
          have g0 := at_any r S (M.ch 43) w h
          rw [h0] at g0
          have g1 := at_any r S (M.ch 45) w h
          rw [h1] at g1
          have g2 := at_any r S (M.ch 42) w h
          rw [h2] at g2
          have g3 := at_any r S (M.ch 60) w h
          rw [h3] at g3
          go_enter Tryz.func143, Tryz.ntmps143
          go_wp2_with fail
          refine g0.mono ?_
          rintro e w' ⟨rfl, rfl⟩
          go_wp2_with fail
          refine g1.mono ?_
          rintro e w' ⟨rfl, rfl⟩
          go_wp2_with fail
          refine g2.mono ?_
          rintro e w' ⟨rfl, rfl⟩
          go_wp2_with fail
          refine g3.mono ?_
          rintro e w' ⟨rfl, rfl⟩
          go_wp2_with fail
          go_ret
          exact ⟨by simp, rfl⟩
      · skip
        have g0 := at_any r S (M.ch 43) w h
        rw [h0] at g0
        have g1 := at_any r S (M.ch 45) w h
        rw [h1] at g1
        have g2 := at_any r S (M.ch 42) w h
        rw [h2] at g2
        go_enter Tryz.func143, Tryz.ntmps143
        go_wp2_with fail
        refine g0.mono ?_
        rintro e w' ⟨rfl, rfl⟩
        go_wp2_with fail
        refine g1.mono ?_
        rintro e w' ⟨rfl, rfl⟩
        go_wp2_with fail
        refine g2.mono ?_
        rintro e w' ⟨rfl, rfl⟩
        go_wp2_with fail
        go_ret
        exact ⟨by simp, rfl⟩
    · skip
      have g0 := at_any r S (M.ch 43) w h
      rw [h0] at g0
      have g1 := at_any r S (M.ch 45) w h
      rw [h1] at g1
      go_enter Tryz.func143, Tryz.ntmps143
      go_wp2_with fail
      refine g0.mono ?_
      rintro e w' ⟨rfl, rfl⟩
      go_wp2_with fail
      refine g1.mono ?_
      rintro e w' ⟨rfl, rfl⟩
      go_wp2_with fail
      go_ret
      exact ⟨by simp, rfl⟩
  · skip
    have g0 := at_any r S (M.ch 43) w h
    rw [h0] at g0
    go_enter Tryz.func143, Tryz.ntmps143
    go_wp2_with fail
    refine g0.mono ?_
    rintro e w' ⟨rfl, rfl⟩
    go_wp2_with fail
    go_ret
    exact ⟨by simp, rfl⟩
end Go.Proofs.YtkpmpnebmkeocaaGreatDoor
end
section
namespace Go.Proofs.YtkpmpnebmkeocaaGreatDoor
open Go.RowKit

def valEnc (w0 : World) : M.Val → Value → World → Prop := fun x v w => ∃ va vp, v = .agg #[.int .i64 x.op, .string ⟨#[]⟩, .string x.y, .string x.p, va, vp, .slice none 0 0, .slice none 0 0] ∧ OpsAt w (Old w0) va x.a ∧ StrsAt w (Old w0) vp x.pr

abbrev zero8 : Obj := .cells #[.int .i64 0, .string ⟨#[]⟩, .string ⟨#[]⟩, .string ⟨#[]⟩, .slice none 0 0, .slice none 0 0, .slice none 0 0, .slice none 0 0] 32

set_option maxRecDepth 8000 in
set_option maxHeartbeats 1600000 in
theorem object_any (r : Nat) (S : M.St) (w : World) (h : Rd w r S) :
    Calls Tryz.prog 142 #[.pointer (some ⟨r, 0, none⟩)] w (Ends r w (valEnc w) (M.object S)) := by
  have hlt := h.lt
  have hmf : ∀ (fn : Fn) (first cap : Array Value) (w : World), (Instr.makeFunc fn first cap).run Tryz.prog w = .ok (.func fn first cap) w := fun _ _ _ _ => rfl
  obtain ⟨j0, hj0, hy0, hy1, hy2⟩ := info_parts infoOpd
  have ha := ((h.alloc (.cells #[.pointer (some ⟨r, 0, none⟩)] 110)).alloc zero8).alloc (.cells #[.int .i64 4, .string ⟨#[]⟩, .string ⟨#[]⟩, .string ⟨#[]⟩, .slice none 0 0, .slice none 0 0, .slice none 0 0, .slice none 0 0] 32)
  have hin : PropsIn r (w.heap.size + 1 + 1) w.heap.size (w.heap.size + 3) ((w.alloc (.cells #[.pointer (some ⟨r, 0, none⟩)] 110)).alloc zero8) (((w.alloc (.cells #[.pointer (some ⟨r, 0, none⟩)] 110)).alloc zero8).alloc (.cells #[.int .i64 4, .string ⟨#[]⟩, .string ⟨#[]⟩, .string ⟨#[]⟩, .slice none 0 0, .slice none 0 0, .slice none 0 0, .slice none 0 0] 32)) S ([], []) (.slice none 0 0) (.slice none 0 0) := by
    refine ⟨(Only.refl _ _).alloc _, ?_, by omega, by omega, ?_, by omega, by omega, ?_, ?_, ?_, World.ownsRow_nil _ _ _ _, World.ownsRow_nil _ _ _ _, ?_, ?_⟩
    · simp only [World.size_alloc]; omega
    · simp only [World.size_alloc]; omega
    · simp only [World.size_alloc]; omega
    · rw [Below.heap_alloc _ _ _ (by simp only [World.size_alloc]; omega), Below.heap_alloc _ _ _ (by simp only [World.size_alloc]; omega)]; exact heap_alloc_new w _
    · have := heap_alloc_new ((w.alloc (.cells #[.pointer (some ⟨r, 0, none⟩)] 110)).alloc zero8) (.cells #[.int .i64 4, .string ⟨#[]⟩, .string ⟨#[]⟩, .string ⟨#[]⟩, .slice none 0 0, .slice none 0 0, .slice none 0 0, .slice none 0 0] 32)
      simp only [World.size_alloc] at this; exact this
    · simpa using h.few
    · simpa using h.few
  have o0 : Only r w ((w.alloc (.cells #[.pointer (some ⟨r, 0, none⟩)] 110)).alloc zero8) := ((Only.refl r w).alloc _).alloc _
  have hg0 : ((w.alloc (.cells #[.pointer (some ⟨r, 0, none⟩)] 110)).alloc zero8).heap[w.heap.size + 1]? = some zero8 := by
    have := heap_alloc_new (w.alloc (.cells #[.pointer (some ⟨r, 0, none⟩)] 110)) zero8
    simp only [World.size_alloc] at this; exact this
  have hz0 : ((w.alloc (.cells #[.pointer (some ⟨r, 0, none⟩)] 110)).alloc zero8).heap.size = w.heap.size + 2 := by simp only [World.size_alloc]
  generalize hw0 : ((w.alloc (.cells #[.pointer (some ⟨r, 0, none⟩)] 110)).alloc zero8) = w0 at hin o0 hg0 hz0
  rw [hw0] at ha
  have HW0 := hid hw0
  have HZ0 := hid hz0
  clear hw0 hz0
  go_enter Tryz.func142, Tryz.ntmps142
  go_wp2_with fail
  have hg1 := HW0.out
  unfold zero8 at hg1
  rw [hg1]
  clear hg1
  have hz0 := HZ0.out
  refine (take_any r S (M.ch 123) _ ha (by decide)).mono ?_
  rintro e w1 ⟨o1, hok, herr⟩
  cases htk : M.take S (M.ch 123) with
  | error f =>
    obtain rfl := herr f htk
    exact ⟨rfl, Ends.err (by rw [M.object, htk]; rfl) (o0.trans (hin.only.trans o1))⟩
  | ok p =>
    obtain ⟨S1, u⟩ := p
    obtain ⟨v, rfl, r1, hv⟩ := hok S1 u htk
    obtain rfl : v = .tuple #[] := hv
    have HR : Hid (M.object S = M.bnd (M.list (M.ch 125) M.itemProp S1 ([], [])) fun S2 l => M.bnd (M.take S2 M.kProto) fun S3 _ => M.bnd (M.operand S3) fun S4 o => .ok (S4, ⟨4, M.em, M.em, l.2 ++ [o], l.1⟩)) := by unfold Hid; rw [M.object, htk]; rfl
    have hin1 := hin.mono o1 (S' := S1) (M.take_le htk).rest
    have cR1 := cell0 hin1.boxR
    clear hok herr
    go_wp2_with fail
    refine (list_obj r (M.ch 125) (by decide) M.itemProp (fun W S l => ∃ va vp, PropsIn r (w.heap.size + 1 + 1) w.heap.size (w.heap.size + 3) w0 W S l va vp) _ _ w0 (fun _ _ _ ⟨_, _, h⟩ => h.only) (fun _ _ _ _ _ ⟨va, vp, h⟩ o l => ⟨va, vp, h.mono o l⟩) (fun _ _ _ _ h => M.itemProp_short h)
      (fun W S l hR hI => propItem_any r _ _ _ w0 W S l hR hI) S1 ([], []) _ r1 ⟨_, _, hin1⟩).mono ?_
    rintro e w2 ⟨o2, hok2, herr2⟩
    cases hls : M.list (M.ch 125) M.itemProp S1 ([], []) with
    | error f =>
      obtain rfl := herr2 f hls
      exact ⟨rfl, Ends.err (by rw [HR.out, hls]; rfl) (o0.trans o2)⟩
    | ok p =>
      obtain ⟨S2, l⟩ := p
      obtain ⟨rfl, r2, va, vp, i2⟩ := hok2 S2 l hls
      obtain ⟨ap, cp, rfl⟩ := own_form i2.ownP
      have HR2 : Hid (M.object S = M.bnd (M.take S2 M.kProto) fun S3 _ => M.bnd (M.operand S3) fun S4 o => .ok (S4, ⟨4, M.em, M.em, l.2 ++ [o], l.1⟩)) := by unfold Hid; rw [HR.out, hls]; rfl
      have cR2 := cell0 i2.boxR
      clear hok2 herr2 HR
      go_wp2_with fail
      refine (take_any r S2 M.kProto _ r2 (by decide)).mono ?_
      rintro e w3 ⟨o3, hok, herr⟩
      cases htk2 : M.take S2 M.kProto with
      | error f =>
        obtain rfl := herr f htk2
        exact ⟨rfl, Ends.err (by rw [HR2.out, htk2]; rfl) (o0.trans (i2.only.trans o3))⟩
      | ok p =>
        obtain ⟨S3, u⟩ := p
        obtain ⟨v, rfl, r3, hv⟩ := hok S3 u htk2
        obtain rfl : v = .tuple #[] := hv
        have HR3 : Hid (M.object S = M.bnd (M.operand S3) fun S4 o => .ok (S4, ⟨4, M.em, M.em, l.2 ++ [o], l.1⟩)) := by unfold Hid; rw [HR2.out, htk2]; rfl
        have hI := i2.mono o3 (S' := S3) (M.take_le htk2).rest
        have cR3 := cell0 hI.boxR
        have cL3 : w3.cell? ⟨w.heap.size + 1 + 1, 4, none⟩ = some va := by rw [Lib.cell_of_heap hI.boxL]; rfl
        have hvLc : va.ownBlock ≠ some (w.heap.size + 1 + 1) := fun e => by have := (hI.ownA.lt _ e).1; omega
        have hbs3 := hI.bs
        have fewA3 := hI.fewA
        clear hok herr HR2
        cases h3 : M.operand S3 with
        | error f =>
          have hcall2 : Calls Tryz.prog 138 #[.pointer (some ⟨r, 0, none⟩)] w3.drew fun e w' => e = .panicked (stopOf f) ∧ Only r w3 w' :=
            (operand_any r S3 _ r3.drew).mono fun e w' ⟨o1, _, h2⟩ => ⟨h2 f h3, (Only.refl r w3).drew.trans o1⟩
          go_wp2_with fail
          refine wp_region_held_drew (S := (fun w' => w'.cell? ⟨w.heap.size + 1 + 1, 4, none⟩ = some va ∧ w'.cell? ⟨w.heap.size, 0, none⟩ = some (.pointer (some ⟨r, 0, none⟩)))) (by kernel_rfl) ⟨cL3, cR3⟩ (fun hHeld => ?_)
          refine wpAnyH_take (i := 0) (oi := _) (v := .pointer (some ⟨w.heap.size + 1 + 1, 4, none⟩)) rfl (by kernel_rfl) (by kernel_rfl) (by kernel_rfl) (fun _ _ _ h => h) (Or.inl ⟨by rfl, ?_⟩) hHeld ?_
          · intro w hSw
            try dsimp only at hSw
            go_simp
          simp only [Act.put, List.setIfInBounds_toArray]
          refine wpAnyH_take (i := 1) (oi := _) (v := va) rfl (by kernel_rfl) (by kernel_rfl) (by kernel_rfl) (fun _ _ _ h => h) (Or.inl ⟨by rfl, ?_⟩) hHeld ?_
          · intro w hSw
            try dsimp only at hSw
            go_simp
          simp only [Act.put]
          refine wpAnyH_take (i := 2) (oi := _) (v := .pointer (some ⟨r, 0, none⟩)) rfl (by kernel_rfl) (by kernel_rfl) (by kernel_rfl) (fun _ _ _ h => h) (Or.inl ⟨by rfl, ?_⟩) hHeld ?_
          · intro w hSw
            try dsimp only at hSw
            go_simp
          simp only [Act.put]
          refine wpAnyH_ready (rs := [3]) (by kernel_rfl) (by simp) ?_
          refine AllReadyH.cons rfl (fun K hK => ?_) AllReadyH.nil
          go_simp
          refine hcall2.mono ?_
          rintro e w4 ⟨rfl, o4⟩
          exact ⟨rfl, Ends.err (by rw [HR3.out, h3]; rfl) (o0.trans (hI.only.trans o4))⟩
        | ok p =>
          obtain ⟨S4, o⟩ := p
          have hshort3 := M.operand_short h3
          have hcall2 := operand_call r3 hI h3
          have hn63 : l.2.length + 1 ≤ maxLen := by unfold maxLen; omega
          have hnby : (l.2.length + 1) * 32 ≤ 140737488355328 := by omega
          go_wp2_with fail
          go_region_law
            (first
              | (refine step_append_lies _ (by rfl) _ _ _ (by rfl) (w.heap.size + 3) 47 j0 _ 3 32 Tryz.underlying28 hj0 hy0 hy1 hy2 rfl (by omega) va l.2.length (l.2.flatMap opCells) (by rfl) (own4.alloc _)
                  ⟨w4.heap.size, 0, none⟩ 1 1 [.int .i64 o.k, .int .i64 o.n, .string o.s] (by rfl) (by rfl) (World.news_of_block (cs := #[.int .i64 o.k, .int .i64 o.n, .string o.s]) (t := 47) (fr := (0, 0)) (heap_alloc_new w4 _)) (by simp [Value.oneCell'])
                  Nat.one_pos hn63 hnby (by simp; omega) (w4.heap.size + 1) (by simp) ?_; intro cg ccap cw hownc hgrowc hatc hltc; have bLc := (hgrowc.block (w.heap.size + 1 + 1) (by rw [World.size_alloc]; omega) (Ne.symm hvLc)).trans ((Below.heap_alloc _ _ _ (by omega)).trans bL4); have hfzc := Lib.frozen_of_heap bLc 4; have cLc : cw.cell? ⟨w.heap.size + 1 + 1, 4, none⟩ = some va := by (rw [Lib.cell_of_heap bLc]; rfl))
              | (go_simp; go_at_call 138; refine hcall2.mono ?_; rintro e w4 ⟨rfl, cLw4, cRw4, rw4, ow4, iw4, own4, bL4⟩; have hszw4 := ow4.size; have hbsw4 := iw4.bs; have hlLw4 : w.heap.size + 1 + 1 < w4.heap.size := (by omega)))
          all_goals
            obtain ⟨rd, idd⟩ := PropsIn.nextA iw4 rw4 (by omega) hownc hgrowc
            obtain ⟨k0, k1, k2, k3, k4, k5, k6, k7, kf, kz⟩ := cells8 idd.boxL
            have hg5 := (idd.only.block (w.heap.size + 1) (by omega) (by omega)).trans hg0
            obtain ⟨q0, q1, q2, q3, q4, q5, q6, q7, qf, qz⟩ := cells8 hg5
            go_wp2_with fail
            refine ret8 (enc := valEnc w) (res := M.object S) (S' := S4) (a := (⟨4, M.em, M.em, l.2 ++ [o], l.1⟩ : M.Val)) (res_object (by rfl) (put8_at hg5 _ _ _ _ _ _ _ _)) (by rw [HR3.out, h3]; rfl) (put8_only (o0.trans idd.only) (by omega) _ _ _ _ _ _ _ _) (put8_rd rd (by omega) _ _ _ _ _ _ _ _) ⟨_, _, rfl, ?_, ?_⟩
            · exact ((SlAt.of_owns (X := fun b => b < w.heap.size + 3) idd.ownA (fun b hb hx => by omega) (by have := idd.fewA; omega)).keep (put8_keep (by omega) _ _ _ _ _ _ _ _)).weak fun b _ hx hy => hx (by have : b < w.heap.size := hy; omega)
            · exact ((SlAt.of_owns (X := fun b => b < w.heap.size + 3) idd.ownP (fun b hb hx => by omega) (by have := idd.few; omega)).keep (put8_keep (by omega) _ _ _ _ _ _ _ _)).weak fun b _ hx hy => hx (by have : b < w.heap.size := hy; omega)
end Go.Proofs.YtkpmpnebmkeocaaGreatDoor
end
section
namespace Go.Proofs.YtkpmpnebmkeocaaGreatDoor
open Go.RowKit

theorem kept8 {w w1 : World} {r : Nat} (h : Only r (w.alloc zero8) w1) (hr : r < w.heap.size) : w1.heap[w.heap.size]? = some (.cells #[.int .i64 0, .string ⟨#[]⟩, .string ⟨#[]⟩, .string ⟨#[]⟩, .slice none 0 0, .slice none 0 0, .slice none 0 0, .slice none 0 0] 32 (0, 0)) :=
  (h.block w.heap.size (by simp) (by omega)).trans (heap_alloc_new w _)
theorem kept_new {w w1 : World} {r : Nat} {o : Obj} (h : Only r (w.alloc o) w1) (hr : r < w.heap.size) : w1.heap[w.heap.size]? = some o :=
  (h.block w.heap.size (by simp) (by omega)).trans (heap_alloc_new w o)
theorem cells3 {w : World} {g : Nat} {T : TypeId} {v0 v1 v2 : Value} (h : w.heap[g]? = some (.cells #[v0, v1, v2] T (0, 0))) :
    w.cell? ⟨g, 0, none⟩ = some v0 ∧ w.cell? ⟨g, 1, none⟩ = some v1 ∧ w.cell? ⟨g, 2, none⟩ = some v2 ∧ (∀ i, w.frozen? ⟨g, i, none⟩ = false) ∧ g < w.heap.size := by
  refine ⟨?_, ?_, ?_, fun i => Lib.frozen_of_heap h i, (Array.getElem?_eq_some_iff.1 h).1⟩
  all_goals (rw [Lib.cell_of_heap h]; rfl)
theorem put8_size (W : World) (g : Nat) (c0 c1 c2 c3 c4 c5 c6 c7 : Value) : (put8 W g c0 c1 c2 c3 c4 c5 c6 c7).heap.size = W.heap.size := by simp [put8, World.setCell]
theorem slAt_newAt (w : World) (X : Nat → Prop) (T : TypeId) (k n cap : Nat) (cs : List Value) (arr : Array Value) (hk : w.heap.size = k) (hr : ¬ X k) (hn : n ≤ 4398046511104) (ha : arr = cs.toArray) (hcp : n ≤ cap ∧ cap ≤ maxLen := by simp [maxLen]) :
    SlAt (w.alloc (.cells arr T)) X (.slice (some ⟨k, 0, none⟩) n cap) n cs := by
  subst hk; exact slAt_new w X T n cap cs arr hr hn ha hcp
theorem OpsAt.fresh {w W w3 w4 : World} {v : Value} {l : List M.Opd} (h : OpsAt w3 (Old W) v l) (hk : Keep (Old W) w3 w4) (hz : w.heap.size ≤ W.heap.size) : OpsAt w4 (Old w) v l :=
  (SlAt.keep h hk).weak fun b _ hx hy => hx (Nat.lt_of_lt_of_le hy hz)
theorem StrsAt.fresh {w W w3 w4 : World} {v : Value} {l : List ByteArray} (h : StrsAt w3 (Old W) v l) (hk : Keep (Old W) w3 w4) (hz : w.heap.size ≤ W.heap.size) : StrsAt w4 (Old w) v l :=
  (SlAt.keep h hk).weak fun b _ hx hy => hx (Nat.lt_of_lt_of_le hy hz)

set_option maxRecDepth 8000 in
set_option maxHeartbeats 1600000 in
theorem value_in (r : Nat) (S : M.St) (w : World) (h : Rd w r S) (h1 : S.at M.kIn = true) :
    Calls Tryz.prog 139 #[.pointer (some ⟨r, 0, none⟩)] w (Ends r w (valEnc w) (M.value S)) := by
  have hlt := h.lt
  have ha := h.alloc zero8
  have o0 : Only r w (w.alloc zero8) := (Only.refl r w).alloc _
  have HR : Hid (M.value S = .ok (S.adv, ⟨7, M.em, M.em, [], []⟩)) := by unfold Hid; simp [M.value, h1]
  go_enter Tryz.func139, Tryz.ntmps139
  go_wp2_with fail
  refine (passIf_yes r S M.kIn _ ha h1 (by decide)).mono ?_
  rintro e w1 ⟨rfl, r1, o1⟩
  have hg := kept8 o1 hlt
  obtain ⟨q0, q1, q2, q3, q4, q5, q6, q7, qf, qz⟩ := cells8 hg
  go_wp2_with fail
  exact ret8 (enc := valEnc w) (res := M.value S) (S' := S.adv) (a := (⟨7, M.em, M.em, [], []⟩ : M.Val)) (res_value (by rfl) (put8_at hg _ _ _ _ _ _ _ _)) HR.out (put8_only (o0.trans o1) (Nat.le_refl _) _ _ _ _ _ _ _ _) (put8_rd r1 hlt _ _ _ _ _ _ _ _) ⟨_, _, rfl, OpsAt.nil _ _, StrsAt.nil _ _⟩

set_option maxRecDepth 8000 in
set_option maxHeartbeats 1600000 in
theorem value_call (r : Nat) (S : M.St) (w : World) (h : Rd w r S) (h1 : S.at M.kIn = false) (h2 : S.at M.kCall = true) :
    Calls Tryz.prog 139 #[.pointer (some ⟨r, 0, none⟩)] w (Ends r w (valEnc w) (M.value S)) := by
  have hlt := h.lt
  have ha := h.alloc zero8
  have o0 : Only r w (w.alloc zero8) := (Only.refl r w).alloc _
  have HR : Hid (M.value S = M.bnd (M.name S.adv) fun S1 n => M.bnd (M.operands S1) fun S2 l => .ok (S2, ⟨5, M.em, n, l, []⟩)) := by unfold Hid; simp [M.value, h1, h2]
  go_enter Tryz.func139, Tryz.ntmps139
  go_wp2_with fail
  refine (passIf_no r S M.kIn _ ha h1).mono ?_
  rintro e w' ⟨rfl, rfl⟩
  go_wp2_with fail
  refine (passIf_yes r S M.kCall _ ha h2 (by decide)).mono ?_
  rintro e w1 ⟨rfl, r1, o1⟩
  go_wp2_with fail
  refine (name_any r S.adv _ r1).mono ?_
  rintro e w2 ⟨o2, hok, herr⟩
  cases hnm : M.name S.adv with
  | error f =>
    obtain rfl := herr f hnm
    exact ⟨rfl, Ends.err (by rw [HR.out, hnm]; rfl) (o0.trans (o1.trans o2))⟩
  | ok p =>
    obtain ⟨S2, nm⟩ := p
    obtain ⟨v2, rfl, r2, hv2⟩ := hok S2 nm hnm
    obtain rfl : v2 = .string nm := hv2
    clear hok herr
    have o12 := o1.trans o2
    have hz2 := o12.size
    rw [World.size_alloc] at hz2
    have ra := r2.alloc (.cells #[.int .i64 5, .string ⟨#[]⟩, .string ⟨#[]⟩, .string nm, .slice none 0 0, .slice none 0 0, .slice none 0 0, .slice none 0 0] 32)
    go_wp2_with fail
    refine (operands_any r S2 _ ra).mono ?_
    rintro e w3 ⟨o3, hok, herr⟩
    have o3' := ((Only.refl r w2).alloc _).trans o3
    cases hop : M.operands S2 with
    | error f =>
      obtain rfl := herr f hop
      exact ⟨rfl, Ends.err (by rw [HR.out, hnm]; simp only [M.bnd, hop]) (o0.trans (o12.trans o3'))⟩
    | ok p =>
      obtain ⟨S3, l⟩ := p
      obtain ⟨v3, rfl, r3, hv3⟩ := hok S3 l hop
      have hv3' : OpsAt w3 (Old (w2.alloc (.cells #[.int .i64 5, .string ⟨#[]⟩, .string ⟨#[]⟩, .string nm, .slice none 0 0, .slice none 0 0, .slice none 0 0, .slice none 0 0] 32))) v3 l := hv3
      obtain ⟨av, cv, rfl⟩ := SlAt.form hv3'
      have hL := kept_new o3 r2.lt
      have hg := kept8 (o12.trans o3') hlt
      obtain ⟨k0, k1, k2, k3, k4, k5, k6, k7, kf, kz⟩ := cells8 hL
      obtain ⟨q0, q1, q2, q3, q4, q5, q6, q7, qf, qz⟩ := cells8 hg
      have hgL : ¬ w.heap.size = w2.heap.size := by omega
      have hLg : ¬ w2.heap.size = w.heap.size := by omega
      clear hok herr
      go_wp2_with fail
      have hg' : (w3.setCell ⟨w2.heap.size, 4, none⟩ (.slice av l.length cv)).heap[w.heap.size]? = _ := (Below.heap_setCell _ _ _ _ hgL).trans hg
      have hO : Only r w (w3.setCell ⟨w2.heap.size, 4, none⟩ (.slice av l.length cv)) := (o0.trans (o12.trans o3')).setCell (.inr (by show w.heap.size ≤ w2.heap.size; omega)) _
      refine ret8 (enc := valEnc w) (res := M.value S) (S' := S3) (a := (⟨5, M.em, nm, l, []⟩ : M.Val)) (res_value (by rfl) (put8_at hg' _ _ _ _ _ _ _ _)) (by rw [HR.out, hnm]; simp only [M.bnd, hop]) (put8_only hO (Nat.le_refl _) _ _ _ _ _ _ _ _) (put8_rd (r3.setCell (by show r < w2.heap.size; exact r2.lt) _) hlt _ _ _ _ _ _ _ _) ⟨_, _, rfl, hv3'.fresh ((keep_set (by show w2.heap.size < _; simp) _).trans (put8_keep (by show w.heap.size < _; rw [World.size_alloc]; omega) _ _ _ _ _ _ _ _)) (by rw [World.size_alloc]; omega), StrsAt.nil _ _⟩

set_option maxRecDepth 8000 in
set_option maxHeartbeats 1600000 in
theorem value_new (r : Nat) (S : M.St) (w : World) (h : Rd w r S) (h1 : S.at M.kIn = false) (h2 : S.at M.kCall = false) (h3 : S.at M.kNew = true) :
    Calls Tryz.prog 139 #[.pointer (some ⟨r, 0, none⟩)] w (Ends r w (valEnc w) (M.value S)) := by
  have hlt := h.lt
  have ha := h.alloc zero8
  have o0 : Only r w (w.alloc zero8) := (Only.refl r w).alloc _
  have HR : Hid (M.value S = M.object S.adv) := by unfold Hid; simp [M.value, h1, h2, h3]
  go_enter Tryz.func139, Tryz.ntmps139
  go_wp2_with fail
  refine (passIf_no r S M.kIn _ ha h1).mono ?_
  rintro e w' ⟨rfl, rfl⟩
  go_wp2_with fail
  refine (passIf_no r S M.kCall _ ha h2).mono ?_
  rintro e w' ⟨rfl, rfl⟩
  go_wp2_with fail
  refine (passIf_yes r S M.kNew _ ha h3 (by decide)).mono ?_
  rintro e w1 ⟨rfl, r1, o1⟩
  go_wp2_with fail
  refine (object_any r S.adv _ r1).mono ?_
  rintro e w2 ⟨o2, hok, herr⟩
  cases hnm : M.object S.adv with
  | error f =>
    obtain rfl := herr f hnm
    exact ⟨rfl, Ends.err (by rw [HR.out, hnm]) (o0.trans (o1.trans o2))⟩
  | ok p =>
    obtain ⟨S2, x⟩ := p
    obtain ⟨v2, rfl, r2, va, vp, rfl, hA, hP⟩ := hok S2 x hnm
    obtain ⟨aa, ca, rfl⟩ := SlAt.form hA
    obtain ⟨ap, cp, rfl⟩ := SlAt.form hP
    have o12 := o1.trans o2
    have hz1 := o1.size
    rw [World.size_alloc] at hz1
    have hg := kept8 o12 hlt
    obtain ⟨q0, q1, q2, q3, q4, q5, q6, q7, qf, qz⟩ := cells8 hg
    clear hok herr
    go_wp2_with fail
    exact ret8 (enc := valEnc w) (res := M.value S) (S' := S2) (a := x) (res_value (by rfl) (put8_at hg _ _ _ _ _ _ _ _)) (by rw [HR.out, hnm]) (put8_only (o0.trans o12) (Nat.le_refl _) _ _ _ _ _ _ _ _) (put8_rd r2 hlt _ _ _ _ _ _ _ _) ⟨_, _, rfl, hA.fresh (put8_keep (by show w.heap.size < _; omega) _ _ _ _ _ _ _ _) (by omega), hP.fresh (put8_keep (by show w.heap.size < _; omega) _ _ _ _ _ _ _ _) (by omega)⟩

set_option maxRecDepth 8000 in
set_option maxHeartbeats 1600000 in
theorem value_bad (r : Nat) (S : M.St) (w : World) (h : Rd w r S) (h1 : S.at M.kIn = false) (h2 : S.at M.kCall = false) (h3 : S.at M.kNew = false) (f : M.Flt) (hop : M.operand S = .error f) :
    Calls Tryz.prog 139 #[.pointer (some ⟨r, 0, none⟩)] w (Ends r w (valEnc w) (M.value S)) := by
  have hlt := h.lt
  have ha := h.alloc zero8
  have o0 : Only r w (w.alloc zero8) := (Only.refl r w).alloc _
  go_enter Tryz.func139, Tryz.ntmps139
  go_wp2_with fail
  refine (passIf_no r S M.kIn _ ha h1).mono ?_
  rintro e w' ⟨rfl, rfl⟩
  go_wp2_with fail
  refine (passIf_no r S M.kCall _ ha h2).mono ?_
  rintro e w' ⟨rfl, rfl⟩
  go_wp2_with fail
  refine (passIf_no r S M.kNew _ ha h3).mono ?_
  rintro e w' ⟨rfl, rfl⟩
  go_wp2_with fail
  refine (operand_any r S _ ha).mono ?_
  rintro e w1 ⟨o1, hok, herr⟩
  obtain rfl := herr f hop
  exact ⟨rfl, Ends.err (by simp [M.value, h1, h2, h3, hop]; rfl) (o0.trans o1)⟩

set_option maxRecDepth 8000 in
set_option maxHeartbeats 1600000 in
theorem value_get (r : Nat) (S : M.St) (w : World) (h : Rd w r S) (h1 : S.at M.kIn = false) (h2 : S.at M.kCall = false) (h3 : S.at M.kNew = false) (S1 : M.St) (an : Int) (nm4 : ByteArray) (hop : M.operand S = .ok (S1, ⟨4, an, nm4⟩)) (hd : S1.at (M.ch 46) = true) :
    Calls Tryz.prog 139 #[.pointer (some ⟨r, 0, none⟩)] w (Ends r w (valEnc w) (M.value S)) := by
  have hlt := h.lt
  have ha := h.alloc zero8
  have o0 : Only r w (w.alloc zero8) := (Only.refl r w).alloc _
  have HR : Hid (M.value S = M.bnd (M.name S1.adv) fun S2 n => .ok (S2, ⟨2, nm4, n, [], []⟩)) := by unfold Hid; simp [M.value, h1, h2, h3, hop, M.bnd, M.value2, hd]
  go_enter Tryz.func139, Tryz.ntmps139
  go_wp2_with fail
  refine (passIf_no r S M.kIn _ ha h1).mono ?_
  rintro e w' ⟨rfl, rfl⟩
  go_wp2_with fail
  refine (passIf_no r S M.kCall _ ha h2).mono ?_
  rintro e w' ⟨rfl, rfl⟩
  go_wp2_with fail
  refine (passIf_no r S M.kNew _ ha h3).mono ?_
  rintro e w' ⟨rfl, rfl⟩
  go_wp2_with fail
  refine (operand_any r S _ ha).mono ?_
  rintro e w1 ⟨o1, hok, herr⟩
  obtain ⟨v1, rfl, r1, hv1⟩ := hok S1 _ hop
  obtain rfl : v1 = .agg #[.int .i64 4, .int .i64 an, .string nm4] := hv1
  have hz1 := o1.size
  rw [World.size_alloc] at hz1
  have rA := r1.alloc (.cells #[.int .i64 4, .int .i64 an, .string nm4] 47)
  have oA : Only r (w.alloc zero8) (w1.alloc (.cells #[.int .i64 4, .int .i64 an, .string nm4] 47)) := o1.alloc _
  have hA := heap_alloc_new w1 (.cells #[.int .i64 4, .int .i64 an, .string nm4] 47)
  have hgA := kept8 oA hlt
  clear hok herr
  go_wp2_with fail
  refine (passIf_yes r S1 (M.ch 46) _ rA hd (by decide)).mono ?_
  rintro e w2 ⟨rfl, r2, o2⟩
  have hA2 := kept_new o2 r1.lt
  obtain ⟨a0, a1, a2, af, az⟩ := cells3 hA2
  have oA2 := oA.trans o2
  cases hnm : M.name S1.adv with
  | error f =>
    have hcall : Calls Tryz.prog 105 #[.pointer (some ⟨r, 0, none⟩)] w2.drew fun e w' => e = .panicked (stopOf f) ∧ Only r w2 w' :=
      (name_any r S1.adv _ r2.drew).mono fun e w' ⟨o1, _, h2⟩ => ⟨h2 f hnm, (Only.refl r w2).drew.trans o1⟩
    go_wp2_with fail
    refine wp_region_held_drew (S := fun w' => w'.cell? ⟨w1.heap.size, 2, none⟩ = some (.string nm4)) (by kernel_rfl) a2 (fun hHeld => ?_)
    refine wpAnyH_take (i := 0) (oi := _) (v := .pointer (some ⟨w1.heap.size, 2, none⟩)) rfl (by kernel_rfl) (by kernel_rfl) (by kernel_rfl) (fun _ _ _ h => h) (Or.inl ⟨by rfl, ?_⟩) hHeld ?_
    · intro w hSw
      try dsimp only at hSw
      go_simp
    simp only [Act.put, List.setIfInBounds_toArray]
    refine wpAnyH_take (i := 1) (oi := _) (v := .string nm4) rfl (by kernel_rfl) (by kernel_rfl) (by kernel_rfl) (fun _ _ _ h => h) (Or.inl ⟨by rfl, ?_⟩) hHeld ?_
    · intro w hSw
      try dsimp only at hSw
      go_simp
    simp only [Act.put]
    refine wpAnyH_take (i := 2) (oi := _) (v := .pointer (some ⟨r, 0, none⟩)) rfl (by kernel_rfl) (by kernel_rfl) (by kernel_rfl) (fun _ _ _ h => h) (Or.inl ⟨by rfl, ?_⟩) hHeld ?_
    · intro w hSw
      try dsimp only at hSw
      go_simp
    simp only [Act.put]
    refine wpAnyH_ready (rs := [3]) (by kernel_rfl) (by simp) ?_
    refine AllReadyH.cons rfl (fun K hK => ?_) AllReadyH.nil
    go_simp
    refine hcall.mono ?_
    rintro e w4 ⟨rfl, o4⟩
    exact ⟨rfl, Ends.err (by rw [HR.out, hnm]; rfl) ((o0.trans oA2).trans o4)⟩
  | ok p =>
    obtain ⟨S2, nm⟩ := p
    have hcall : Calls Tryz.prog 105 #[.pointer (some ⟨r, 0, none⟩)] w2.drew fun e w' => e = .returned (.string nm) ∧ Rd w' r S2 ∧ Only r w2 w' ∧ w'.heap[w1.heap.size]? = some (.cells #[.int .i64 4, .int .i64 an, .string nm4] 47) ∧ w'.heap[w.heap.size]? = some zero8 :=
      (name_any r S1.adv _ r2.drew).mono fun e w' ⟨o1, h1, _⟩ => by
        obtain ⟨v1, rfl, q1, hv1⟩ := h1 S2 nm hnm
        have o3 : Only r w2 w' := (Only.refl r w2).drew.trans o1
        exact ⟨by rw [hv1], q1, o3, (o3.block _ az (by have := r1.lt; omega)).trans hA2, kept8 (oA2.trans o3) hlt⟩
    have hsm : w1.heap.size < w2.heap.size := az
    have hsg : w.heap.size < w2.heap.size := by omega
    go_wp2_with fail
    go_region_law (first | (go_simp; go_at_call 105; refine hcall.mono ?_; rintro e w3 ⟨rfl, r3, o3, hA3, hg3⟩; obtain ⟨b0, b1, b2, bf, bz⟩ := cells3 hA3; obtain ⟨q0, q1, q2, q3, q4, q5, q6, q7, qf, qz⟩ := cells8 hg3))
    all_goals
      go_wp2_with fail
      exact ret8 (enc := valEnc w) (res := M.value S) (S' := S2) (a := (⟨2, nm4, nm, [], []⟩ : M.Val)) (res_value (by rfl) (put8_at hg3 _ _ _ _ _ _ _ _)) (by rw [HR.out, hnm]; rfl) (put8_only (o0.trans (oA2.trans o3)) (Nat.le_refl _) _ _ _ _ _ _ _ _) (put8_rd r3 hlt _ _ _ _ _ _ _ _) ⟨_, _, rfl, OpsAt.nil _ _, StrsAt.nil _ _⟩

set_option maxRecDepth 8000 in
set_option maxHeartbeats 1600000 in
theorem value_apply (r : Nat) (S : M.St) (w : World) (h : Rd w r S) (h1 : S.at M.kIn = false) (h2 : S.at M.kCall = false) (h3 : S.at M.kNew = false) (S1 : M.St) (an : Int) (nm4 : ByteArray) (hop : M.operand S = .ok (S1, ⟨4, an, nm4⟩)) (hd : S1.at (M.ch 46) = false) (hb : S1.at (M.ch 40) = true) :
    Calls Tryz.prog 139 #[.pointer (some ⟨r, 0, none⟩)] w (Ends r w (valEnc w) (M.value S)) := by
  have hlt := h.lt
  have ha := h.alloc zero8
  have o0 : Only r w (w.alloc zero8) := (Only.refl r w).alloc _
  have HR : Hid (M.value S = M.bnd (M.operands S1) fun S2 l => .ok (S2, ⟨6, nm4, M.em, l, []⟩)) := by unfold Hid; simp [M.value, h1, h2, h3, hop, M.bnd, M.value2, hd, hb]
  go_enter Tryz.func139, Tryz.ntmps139
  go_wp2_with fail
  refine (passIf_no r S M.kIn _ ha h1).mono ?_
  rintro e w' ⟨rfl, rfl⟩
  go_wp2_with fail
  refine (passIf_no r S M.kCall _ ha h2).mono ?_
  rintro e w' ⟨rfl, rfl⟩
  go_wp2_with fail
  refine (passIf_no r S M.kNew _ ha h3).mono ?_
  rintro e w' ⟨rfl, rfl⟩
  go_wp2_with fail
  refine (operand_any r S _ ha).mono ?_
  rintro e w1 ⟨o1, hok, herr⟩
  obtain ⟨v1, rfl, r1, hv1⟩ := hok S1 _ hop
  obtain rfl : v1 = .agg #[.int .i64 4, .int .i64 an, .string nm4] := hv1
  have hz1 := o1.size
  rw [World.size_alloc] at hz1
  have rA := r1.alloc (.cells #[.int .i64 4, .int .i64 an, .string nm4] 47)
  have oA : Only r (w.alloc zero8) (w1.alloc (.cells #[.int .i64 4, .int .i64 an, .string nm4] 47)) := o1.alloc _
  have hA := heap_alloc_new w1 (.cells #[.int .i64 4, .int .i64 an, .string nm4] 47)
  have hgA := kept8 oA hlt
  clear hok herr
  have hat := at_any r S1 (M.ch 40) _ rA
  rw [hb] at hat
  go_wp2_with fail
  refine (passIf_no r S1 (M.ch 46) _ rA hd).mono ?_
  rintro e w' ⟨rfl, rfl⟩
  go_wp2_with fail
  refine hat.mono ?_
  rintro e w' ⟨rfl, rfl⟩
  generalize hw2 : w1.alloc (.cells #[.int .i64 4, .int .i64 an, .string nm4] 47) = w2 at rA oA hA hgA ⊢
  have HW2 := hid hw2
  clear hw2
  have hA2 : w2.heap[w1.heap.size]? = some (.cells #[.int .i64 4, .int .i64 an, .string nm4] 47) := hA
  have r2 := rA
  obtain ⟨a0, a1, a2, af, az⟩ := cells3 hA2
  have oA2 := oA
  cases hnm : M.operands S1 with
  | error f =>
    have hcall : Calls Tryz.prog 141 #[.pointer (some ⟨r, 0, none⟩)] w2.drew fun e w' => e = .panicked (stopOf f) ∧ Only r w2 w' :=
      (operands_any r S1 _ r2.drew).mono fun e w' ⟨o1, _, h2⟩ => ⟨h2 f hnm, (Only.refl r w2).drew.trans o1⟩
    go_wp2_with fail
    refine wp_region_held_drew (S := fun w' => w'.cell? ⟨w1.heap.size, 2, none⟩ = some (.string nm4)) (by kernel_rfl) a2 (fun hHeld => ?_)
    refine wpAnyH_take (i := 0) (oi := _) (v := .pointer (some ⟨w1.heap.size, 2, none⟩)) rfl (by kernel_rfl) (by kernel_rfl) (by kernel_rfl) (fun _ _ _ h => h) (Or.inl ⟨by rfl, ?_⟩) hHeld ?_
    · intro w hSw
      try dsimp only at hSw
      go_simp
    simp only [Act.put, List.setIfInBounds_toArray]
    refine wpAnyH_take (i := 1) (oi := _) (v := .string nm4) rfl (by kernel_rfl) (by kernel_rfl) (by kernel_rfl) (fun _ _ _ h => h) (Or.inl ⟨by rfl, ?_⟩) hHeld ?_
    · intro w hSw
      try dsimp only at hSw
      go_simp
    simp only [Act.put]
    refine wpAnyH_take (i := 2) (oi := _) (v := .pointer (some ⟨r, 0, none⟩)) rfl (by kernel_rfl) (by kernel_rfl) (by kernel_rfl) (fun _ _ _ h => h) (Or.inl ⟨by rfl, ?_⟩) hHeld ?_
    · intro w hSw
      try dsimp only at hSw
      go_simp
    simp only [Act.put]
    refine wpAnyH_ready (rs := [3]) (by kernel_rfl) (by simp) ?_
    refine AllReadyH.cons rfl (fun K hK => ?_) AllReadyH.nil
    go_simp
    refine hcall.mono ?_
    rintro e w4 ⟨rfl, o4⟩
    exact ⟨rfl, Ends.err (by rw [HR.out, hnm]; rfl) ((o0.trans oA2).trans o4)⟩
  | ok p =>
    obtain ⟨S2, nm⟩ := p
    have hcall : Calls Tryz.prog 141 #[.pointer (some ⟨r, 0, none⟩)] w2.drew fun e w' => (∃ v, e = .returned v ∧ OpsAt w' (Old w2) v nm) ∧ Rd w' r S2 ∧ Only r w2 w' ∧ w'.heap[w1.heap.size]? = some (.cells #[.int .i64 4, .int .i64 an, .string nm4] 47) ∧ w'.heap[w.heap.size]? = some zero8 :=
      (operands_any r S1 _ r2.drew).mono fun e w' ⟨o1, h1, _⟩ => by
        obtain ⟨v1, rfl, q1, hv1⟩ := h1 S2 nm hnm
        have o3 : Only r w2 w' := (Only.refl r w2).drew.trans o1
        exact ⟨⟨v1, rfl, hv1⟩, q1, o3, (o3.block _ az (by have := r1.lt; omega)).trans hA2, kept8 (oA2.trans o3) hlt⟩
    have hsm : w1.heap.size < w2.heap.size := az
    have hsg : w.heap.size < w2.heap.size := by omega
    go_wp2_with fail
    go_region_law (first | (go_simp; go_at_call 141; refine hcall.mono ?_; rintro e w3 ⟨⟨v3, rfl, hv3⟩, r3, o3, hA3, hg3⟩; obtain ⟨av, cv, rfl⟩ := SlAt.form hv3; obtain ⟨b0, b1, b2, bf, bz⟩ := cells3 hA3; obtain ⟨q0, q1, q2, q3, q4, q5, q6, q7, qf, qz⟩ := cells8 hg3))
    all_goals
      go_wp2_with fail
      exact ret8 (enc := valEnc w) (res := M.value S) (S' := S2) (a := (⟨6, nm4, M.em, nm, []⟩ : M.Val)) (res_value (by rfl) (put8_at hg3 _ _ _ _ _ _ _ _)) (by rw [HR.out, hnm]; rfl) (put8_only (o0.trans (oA2.trans o3)) (Nat.le_refl _) _ _ _ _ _ _ _ _) (put8_rd r3 hlt _ _ _ _ _ _ _ _) ⟨_, _, rfl, OpsAt.fresh hv3 (put8_keep (by show w.heap.size < _; omega) _ _ _ _ _ _ _ _) (by omega), StrsAt.nil _ _⟩

set_option maxRecDepth 8000 in
set_option maxHeartbeats 1600000 in
theorem value_arithV (r : Nat) (S : M.St) (w : World) (h : Rd w r S) (h1 : S.at M.kIn = false) (h2 : S.at M.kCall = false) (h3 : S.at M.kNew = false) (S1 : M.St) (an : Int) (nm4 : ByteArray) (hop : M.operand S = .ok (S1, ⟨4, an, nm4⟩)) (hd : S1.at (M.ch 46) = false) (hb : S1.at (M.ch 40) = false) (har : S1.atArith = true) :
    Calls Tryz.prog 139 #[.pointer (some ⟨r, 0, none⟩)] w (Ends r w (valEnc w) (M.value S)) := by
  have hlt := h.lt
  have ha := h.alloc zero8
  have o0 : Only r w (w.alloc zero8) := (Only.refl r w).alloc _
  have HR : Hid (M.value S = M.bnd (M.operand S1.adv) fun S2 b => .ok (S2, ⟨1, M.em, S1.now.t, [⟨4, an, nm4⟩, b], []⟩)) := by unfold Hid; simp [M.value, h1, h2, h3, hop, M.bnd, M.value2, har, hd, hb]
  go_enter Tryz.func139, Tryz.ntmps139
  go_wp2_with fail
  refine (passIf_no r S M.kIn _ ha h1).mono ?_
  rintro e w' ⟨rfl, rfl⟩
  go_wp2_with fail
  refine (passIf_no r S M.kCall _ ha h2).mono ?_
  rintro e w' ⟨rfl, rfl⟩
  go_wp2_with fail
  refine (passIf_no r S M.kNew _ ha h3).mono ?_
  rintro e w' ⟨rfl, rfl⟩
  go_wp2_with fail
  refine (operand_any r S _ ha).mono ?_
  rintro e w1 ⟨o1, hok, herr⟩
  obtain ⟨v1, rfl, r1, hv1⟩ := hok S1 _ hop
  obtain rfl : v1 = .agg #[.int .i64 4, .int .i64 an, .string nm4] := hv1
  have hz1 := o1.size
  rw [World.size_alloc] at hz1
  have rA := r1.alloc (.cells #[.int .i64 4, .int .i64 an, .string nm4] 47)
  have oA : Only r (w.alloc zero8) (w1.alloc (.cells #[.int .i64 4, .int .i64 an, .string nm4] 47)) := o1.alloc _
  have hA := heap_alloc_new w1 (.cells #[.int .i64 4, .int .i64 an, .string nm4] 47)
  have hgA := kept8 oA hlt
  clear hok herr
  have har' := atArith_any r S1 _ rA
  rw [har] at har'
  have hne := M.arith_ne har
  have hat := at_any r S1 (M.ch 40) _ rA
  rw [hb] at hat
  go_wp2_with fail
  refine (passIf_no r S1 (M.ch 46) _ rA hd).mono ?_
  rintro e w' ⟨rfl, rfl⟩
  go_wp2_with fail
  refine hat.mono ?_
  rintro e w' ⟨rfl, rfl⟩
  go_wp2_with fail
  refine har'.mono ?_
  rintro e w' ⟨rfl, rfl⟩
  go_wp2_with fail
  refine (pass_any r S1 _ rA hne).mono ?_
  rintro e w2 ⟨rfl, r2, o2⟩
  have hA2 := kept_new o2 r1.lt
  obtain ⟨az0, az1, az2, azf, az⟩ := cells3 hA2
  have oA2 := oA.trans o2
  have rB := r2.alloc (.cells #[.int .i64 1, .string ⟨#[]⟩, .string ⟨#[]⟩, .string S1.now.t, .slice none 0 0, .slice none 0 0, .slice none 0 0, .slice none 0 0] 32)
  have hB := heap_alloc_new w2 (.cells #[.int .i64 1, .string ⟨#[]⟩, .string ⟨#[]⟩, .string S1.now.t, .slice none 0 0, .slice none 0 0, .slice none 0 0, .slice none 0 0] 32)
  have oB : Only r w2 (w2.alloc (.cells #[.int .i64 1, .string ⟨#[]⟩, .string ⟨#[]⟩, .string S1.now.t, .slice none 0 0, .slice none 0 0, .slice none 0 0, .slice none 0 0] 32)) := (Only.refl r w2).alloc _
  have hzB : (w2.alloc (.cells #[.int .i64 1, .string ⟨#[]⟩, .string ⟨#[]⟩, .string S1.now.t, .slice none 0 0, .slice none 0 0, .slice none 0 0, .slice none 0 0] 32)).heap.size = w2.heap.size + 1 := World.size_alloc _ _
  have hA3 := (oB.block w1.heap.size az (by have := r1.lt; omega)).trans hA2
  generalize hwB : w2.alloc (.cells #[.int .i64 1, .string ⟨#[]⟩, .string ⟨#[]⟩, .string S1.now.t, .slice none 0 0, .slice none 0 0, .slice none 0 0, .slice none 0 0] 32) = wB at rB hB oB hzB hA3
  have HWB := hid hwB
  have HZB := hid hzB
  clear hwB hzB
  obtain ⟨a0, a1, a2, af, azB⟩ := cells3 hA3
  have hne1 : w1.heap.size ≠ r := by have := r1.lt; omega
  have hne2 : w2.heap.size ≠ r := by have := r2.lt; omega
  have hsz2 : w2.heap.size < wB.heap.size := by have := HZB.out; omega
  cases hnm : M.operand S1.adv with
  | error f =>
    have hcall : Calls Tryz.prog 138 #[.pointer (some ⟨r, 0, none⟩)] wB.drew fun e w' => e = .panicked (stopOf f) ∧ Only r wB w' :=
      (operand_any r S1.adv _ rB.drew).mono fun e w' ⟨o1, _, h2⟩ => ⟨h2 f hnm, (Only.refl r wB).drew.trans o1⟩
    go_wp2_with fail
    rw [HWB.out]
    refine wp_region_held_drew (S := fun w' => w'.cell? ⟨w1.heap.size, 0, none⟩ = some (.int .i64 4) ∧ w'.cell? ⟨w1.heap.size, 1, none⟩ = some (.int .i64 an) ∧ w'.cell? ⟨w1.heap.size, 2, none⟩ = some (.string nm4)) (by kernel_rfl) ⟨a0, a1, a2⟩ (fun hHeld => ?_)
    refine wpAnyH_take (i := 0) (oi := _) (v := .agg #[.int .i64 4, .int .i64 an, .string nm4]) rfl (by kernel_rfl) (by kernel_rfl) (by kernel_rfl) (fun _ _ _ h => h) (Or.inl ⟨by rfl, ?_⟩) hHeld ?_
    · intro w hSw
      try dsimp only at hSw
      go_simp
    simp only [Act.put, List.setIfInBounds_toArray]
    refine wpAnyH_take (i := 1) (oi := _) (v := .pointer (some ⟨r, 0, none⟩)) rfl (by kernel_rfl) (by kernel_rfl) (by kernel_rfl) (fun _ _ _ h => h) (Or.inl ⟨by rfl, ?_⟩) hHeld ?_
    · intro w hSw
      try dsimp only at hSw
      go_simp
    simp only [Act.put]
    refine wpAnyH_ready (rs := [2]) (by kernel_rfl) (by simp) ?_
    refine AllReadyH.cons rfl (fun K hK => ?_) AllReadyH.nil
    go_simp
    refine hcall.mono ?_
    rintro e w4 ⟨rfl, o4⟩
    exact ⟨rfl, Ends.err (by rw [HR.out, hnm]; rfl) ((o0.trans (oA2.trans oB)).trans o4)⟩
  | ok p =>
    obtain ⟨S2, b⟩ := p
    have hcall : Calls Tryz.prog 138 #[.pointer (some ⟨r, 0, none⟩)] wB.drew fun e w' => e = .returned (.agg #[.int .i64 b.k, .int .i64 b.n, .string b.s]) ∧ Rd w' r S2 ∧ Only r wB w' ∧ w'.heap[w1.heap.size]? = some (.cells #[.int .i64 4, .int .i64 an, .string nm4] 47) ∧ w'.heap[w.heap.size]? = some zero8 ∧ w'.heap[w2.heap.size]? = some (.cells #[.int .i64 1, .string ⟨#[]⟩, .string ⟨#[]⟩, .string S1.now.t, .slice none 0 0, .slice none 0 0, .slice none 0 0, .slice none 0 0] 32) :=
      (operand_any r S1.adv _ rB.drew).mono fun e w' ⟨o1, h1, _⟩ => by
        obtain ⟨v1, rfl, q1, hv1⟩ := h1 S2 b hnm
        have o3 : Only r wB w' := (Only.refl r wB).drew.trans o1
        exact ⟨by rw [hv1], q1, o3, (o3.block _ azB hne1).trans hA3, kept8 (oA2.trans (oB.trans o3)) hlt, (o3.block _ hsz2 hne2).trans hB⟩
    have hsm : w1.heap.size < w2.heap.size := az
    have hsg : w.heap.size < w2.heap.size := by omega
    have hgL : ¬ w.heap.size = w2.heap.size := by omega
    have hLg : ¬ w2.heap.size = w.heap.size := by omega
    go_wp2_with fail
    rw [HWB.out]
    go_region_law (first | (go_simp; go_at_call 138; refine hcall.mono ?_; rintro e w3 ⟨rfl, r3, o3, hA4, hg3, hL3⟩; obtain ⟨b0, b1, b2, bf, bz⟩ := cells3 hA4; obtain ⟨k0, k1, k2, k3, k4, k5, k6, k7, kf, kz⟩ := cells8 hL3; obtain ⟨q0, q1, q2, q3, q4, q5, q6, q7, qf, qz⟩ := cells8 hg3; have hneN : ¬ w2.heap.size = w3.heap.size := (by omega); have hneN' : ¬ w3.heap.size = w2.heap.size := (by omega)))
    all_goals
      go_wp2_with fail
      have hW : Only r w (w3.setCell ⟨w2.heap.size, 4, none⟩ (.slice (some ⟨w3.heap.size, 0, none⟩) 2 2)) := (o0.trans (oA2.trans (oB.trans o3))).setCell (.inr (by show w.heap.size ≤ w2.heap.size; omega)) _
      have rW : Rd (w3.setCell ⟨w2.heap.size, 4, none⟩ (.slice (some ⟨w3.heap.size, 0, none⟩) 2 2)) r S2 := r3.setCell (by show r < w2.heap.size; exact r2.lt) _
      have hg' : (w3.setCell ⟨w2.heap.size, 4, none⟩ (.slice (some ⟨w3.heap.size, 0, none⟩) 2 2)).heap[w.heap.size]? = _ := (Below.heap_setCell _ _ _ _ hgL).trans hg3
      have hn := slAt_newAt (put8 (w3.setCell ⟨w2.heap.size, 4, none⟩ (.slice (some ⟨w3.heap.size, 0, none⟩) 2 2)) w.heap.size (.int .i64 1) (.string ⟨#[]⟩) (.string ⟨#[]⟩) (.string S1.now.t) (.slice (some ⟨w3.heap.size, 0, none⟩) 2 2) (.slice none 0 0) (.slice none 0 0) (.slice none 0 0)) (Old w) 47 w3.heap.size 2 2 [.int .i64 4, .int .i64 an, .string nm4, .int .i64 b.k, .int .i64 b.n, .string b.s] #[.int .i64 4, .int .i64 an, .string nm4, .int .i64 b.k, .int .i64 b.n, .string b.s] (by rw [put8_size]; simp [World.setCell]) (by show ¬ w3.heap.size < w.heap.size; omega) (by omega) rfl
      exact ret8 (enc := valEnc w) (res := M.value S) (S' := S2) (a := (⟨1, M.em, S1.now.t, [⟨4, an, nm4⟩, b], []⟩ : M.Val)) (res_value (by rfl) ((Below.heap_alloc _ _ _ (by rw [put8_size]; simp [World.setCell]; omega)).trans (put8_at hg' _ _ _ _ _ _ _ _))) (by rw [HR.out, hnm]; rfl) ((put8_only hW (Nat.le_refl _) _ _ _ _ _ _ _ _).alloc _) ((put8_rd rW hlt _ _ _ _ _ _ _ _).alloc _) ⟨_, _, rfl, hn, StrsAt.nil _ _⟩

set_option maxRecDepth 8000 in
set_option maxHeartbeats 1600000 in
theorem value_moveV (r : Nat) (S : M.St) (w : World) (h : Rd w r S) (h1 : S.at M.kIn = false) (h2 : S.at M.kCall = false) (h3 : S.at M.kNew = false) (S1 : M.St) (an : Int) (nm4 : ByteArray) (hop : M.operand S = .ok (S1, ⟨4, an, nm4⟩)) (hd : S1.at (M.ch 46) = false) (hb : S1.at (M.ch 40) = false) (har : S1.atArith = false) :
    Calls Tryz.prog 139 #[.pointer (some ⟨r, 0, none⟩)] w (Ends r w (valEnc w) (M.value S)) := by
  have hlt := h.lt
  have ha := h.alloc zero8
  have o0 : Only r w (w.alloc zero8) := (Only.refl r w).alloc _
  have HR : Hid (M.value S = .ok (S1, ⟨0, M.em, M.em, [⟨4, an, nm4⟩], []⟩)) := by unfold Hid; simp [M.value, h1, h2, h3, hop, M.bnd, M.value2, har, hd, hb]
  go_enter Tryz.func139, Tryz.ntmps139
  go_wp2_with fail
  refine (passIf_no r S M.kIn _ ha h1).mono ?_
  rintro e w' ⟨rfl, rfl⟩
  go_wp2_with fail
  refine (passIf_no r S M.kCall _ ha h2).mono ?_
  rintro e w' ⟨rfl, rfl⟩
  go_wp2_with fail
  refine (passIf_no r S M.kNew _ ha h3).mono ?_
  rintro e w' ⟨rfl, rfl⟩
  go_wp2_with fail
  refine (operand_any r S _ ha).mono ?_
  rintro e w1 ⟨o1, hok, herr⟩
  obtain ⟨v1, rfl, r1, hv1⟩ := hok S1 _ hop
  obtain rfl : v1 = .agg #[.int .i64 4, .int .i64 an, .string nm4] := hv1
  have hz1 := o1.size
  rw [World.size_alloc] at hz1
  have rA := r1.alloc (.cells #[.int .i64 4, .int .i64 an, .string nm4] 47)
  have oA : Only r (w.alloc zero8) (w1.alloc (.cells #[.int .i64 4, .int .i64 an, .string nm4] 47)) := o1.alloc _
  have hA := heap_alloc_new w1 (.cells #[.int .i64 4, .int .i64 an, .string nm4] 47)
  have hgA := kept8 oA hlt
  clear hok herr
  have har' := atArith_any r S1 _ rA
  rw [har] at har'
  have hat := at_any r S1 (M.ch 40) _ rA
  rw [hb] at hat
  go_wp2_with fail
  refine (passIf_no r S1 (M.ch 46) _ rA hd).mono ?_
  rintro e w' ⟨rfl, rfl⟩
  go_wp2_with fail
  refine hat.mono ?_
  rintro e w' ⟨rfl, rfl⟩
  go_wp2_with fail
  refine har'.mono ?_
  rintro e w' ⟨rfl, rfl⟩
  have hg1 := kept8 o1 hlt
  obtain ⟨q0, q1, q2, q3, q4, q5, q6, q7, qf, qz⟩ := cells8 hg1
  have hgn : ¬ w.heap.size = w1.heap.size := by omega
  have hgn' : ¬ w1.heap.size = w.heap.size := by omega
  go_wp2_with fail
  have hn := slAt_newAt ((put8 w1 w.heap.size (.int .i64 0) (.string ⟨#[]⟩) (.string ⟨#[]⟩) (.string ⟨#[]⟩) (.slice (some ⟨w1.heap.size + 1, 0, none⟩) 1 1) (.slice none 0 0) (.slice none 0 0) (.slice none 0 0)).alloc (.cells #[.int .i64 4, .int .i64 an, .string nm4] 47)) (Old w) 47 (w1.heap.size + 1) 1 1 [.int .i64 4, .int .i64 an, .string nm4] #[.int .i64 4, .int .i64 an, .string nm4] (by rw [World.size_alloc, put8_size]) (by show ¬ w1.heap.size + 1 < w.heap.size; omega) (by omega) rfl
  exact ret8 (enc := valEnc w) (res := M.value S) (S' := S1) (a := (⟨0, M.em, M.em, [⟨4, an, nm4⟩], []⟩ : M.Val)) (res_value (by rfl) ((Below.heap_alloc _ _ _ (by rw [World.size_alloc, put8_size]; omega)).trans ((Below.heap_alloc _ _ _ (by rw [put8_size]; omega)).trans (put8_at hg1 _ _ _ _ _ _ _ _)))) HR.out (((put8_only (o0.trans o1) (Nat.le_refl _) _ _ _ _ _ _ _ _).alloc _).alloc _) (((put8_rd r1 hlt _ _ _ _ _ _ _ _).alloc _).alloc _) ⟨_, _, rfl, hn, StrsAt.nil _ _⟩

set_option maxRecDepth 8000 in
set_option maxHeartbeats 1600000 in
theorem value_arithN (r : Nat) (S : M.St) (w : World) (h : Rd w r S) (h1 : S.at M.kIn = false) (h2 : S.at M.kCall = false) (h3 : S.at M.kNew = false) (S1 : M.St) (a : M.Opd) (hop : M.operand S = .ok (S1, a)) (hk : ¬ a.k = 4) (har : S1.atArith = true) :
    Calls Tryz.prog 139 #[.pointer (some ⟨r, 0, none⟩)] w (Ends r w (valEnc w) (M.value S)) := by
  have hlt := h.lt
  have ha := h.alloc zero8
  have o0 : Only r w (w.alloc zero8) := (Only.refl r w).alloc _
  have HR : Hid (M.value S = M.bnd (M.operand S1.adv) fun S2 b => .ok (S2, ⟨1, M.em, S1.now.t, [a, b], []⟩)) := by unfold Hid; simp [M.value, h1, h2, h3, hop, M.bnd, M.value2, har, hk]
  go_enter Tryz.func139, Tryz.ntmps139
  go_wp2_with fail
  refine (passIf_no r S M.kIn _ ha h1).mono ?_
  rintro e w' ⟨rfl, rfl⟩
  go_wp2_with fail
  refine (passIf_no r S M.kCall _ ha h2).mono ?_
  rintro e w' ⟨rfl, rfl⟩
  go_wp2_with fail
  refine (passIf_no r S M.kNew _ ha h3).mono ?_
  rintro e w' ⟨rfl, rfl⟩
  go_wp2_with fail
  refine (operand_any r S _ ha).mono ?_
  rintro e w1 ⟨o1, hok, herr⟩
  obtain ⟨v1, rfl, r1, hv1⟩ := hok S1 _ hop
  obtain rfl : v1 = .agg #[.int .i64 a.k, .int .i64 a.n, .string a.s] := hv1
  have hz1 := o1.size
  rw [World.size_alloc] at hz1
  have rA := r1.alloc (.cells #[.int .i64 a.k, .int .i64 a.n, .string a.s] 47)
  have oA : Only r (w.alloc zero8) (w1.alloc (.cells #[.int .i64 a.k, .int .i64 a.n, .string a.s] 47)) := o1.alloc _
  have hA := heap_alloc_new w1 (.cells #[.int .i64 a.k, .int .i64 a.n, .string a.s] 47)
  have hgA := kept8 oA hlt
  clear hok herr
  have har' := atArith_any r S1 _ rA
  rw [har] at har'
  have hne := M.arith_ne har
  have hkb : (a.k == 4) = false := by simpa using hk
  go_wp2_with fail
  refine har'.mono ?_
  rintro e w' ⟨rfl, rfl⟩
  go_wp2_with fail
  refine (pass_any r S1 _ rA hne).mono ?_
  rintro e w2 ⟨rfl, r2, o2⟩
  have hA2 := kept_new o2 r1.lt
  obtain ⟨az0, az1, az2, azf, az⟩ := cells3 hA2
  have oA2 := oA.trans o2
  have rB := r2.alloc (.cells #[.int .i64 1, .string ⟨#[]⟩, .string ⟨#[]⟩, .string S1.now.t, .slice none 0 0, .slice none 0 0, .slice none 0 0, .slice none 0 0] 32)
  have hB := heap_alloc_new w2 (.cells #[.int .i64 1, .string ⟨#[]⟩, .string ⟨#[]⟩, .string S1.now.t, .slice none 0 0, .slice none 0 0, .slice none 0 0, .slice none 0 0] 32)
  have oB : Only r w2 (w2.alloc (.cells #[.int .i64 1, .string ⟨#[]⟩, .string ⟨#[]⟩, .string S1.now.t, .slice none 0 0, .slice none 0 0, .slice none 0 0, .slice none 0 0] 32)) := (Only.refl r w2).alloc _
  have hzB : (w2.alloc (.cells #[.int .i64 1, .string ⟨#[]⟩, .string ⟨#[]⟩, .string S1.now.t, .slice none 0 0, .slice none 0 0, .slice none 0 0, .slice none 0 0] 32)).heap.size = w2.heap.size + 1 := World.size_alloc _ _
  have hA3 := (oB.block w1.heap.size az (by have := r1.lt; omega)).trans hA2
  generalize hwB : w2.alloc (.cells #[.int .i64 1, .string ⟨#[]⟩, .string ⟨#[]⟩, .string S1.now.t, .slice none 0 0, .slice none 0 0, .slice none 0 0, .slice none 0 0] 32) = wB at rB hB oB hzB hA3
  have HWB := hid hwB
  have HZB := hid hzB
  clear hwB hzB
  obtain ⟨a0, a1, a2, af, azB⟩ := cells3 hA3
  have hne1 : w1.heap.size ≠ r := by have := r1.lt; omega
  have hne2 : w2.heap.size ≠ r := by have := r2.lt; omega
  have hsz2 : w2.heap.size < wB.heap.size := by have := HZB.out; omega
  cases hnm : M.operand S1.adv with
  | error f =>
    have hcall : Calls Tryz.prog 138 #[.pointer (some ⟨r, 0, none⟩)] wB.drew fun e w' => e = .panicked (stopOf f) ∧ Only r wB w' :=
      (operand_any r S1.adv _ rB.drew).mono fun e w' ⟨o1, _, h2⟩ => ⟨h2 f hnm, (Only.refl r wB).drew.trans o1⟩
    go_wp2_with fail
    rw [HWB.out]
    refine wp_region_held_drew (S := fun w' => w'.cell? ⟨w1.heap.size, 0, none⟩ = some (.int .i64 a.k) ∧ w'.cell? ⟨w1.heap.size, 1, none⟩ = some (.int .i64 a.n) ∧ w'.cell? ⟨w1.heap.size, 2, none⟩ = some (.string a.s)) (by kernel_rfl) ⟨a0, a1, a2⟩ (fun hHeld => ?_)
    refine wpAnyH_take (i := 0) (oi := _) (v := .agg #[.int .i64 a.k, .int .i64 a.n, .string a.s]) rfl (by kernel_rfl) (by kernel_rfl) (by kernel_rfl) (fun _ _ _ h => h) (Or.inl ⟨by rfl, ?_⟩) hHeld ?_
    · intro w hSw
      try dsimp only at hSw
      go_simp
    simp only [Act.put, List.setIfInBounds_toArray]
    refine wpAnyH_take (i := 1) (oi := _) (v := .pointer (some ⟨r, 0, none⟩)) rfl (by kernel_rfl) (by kernel_rfl) (by kernel_rfl) (fun _ _ _ h => h) (Or.inl ⟨by rfl, ?_⟩) hHeld ?_
    · intro w hSw
      try dsimp only at hSw
      go_simp
    simp only [Act.put]
    refine wpAnyH_ready (rs := [2]) (by kernel_rfl) (by simp) ?_
    refine AllReadyH.cons rfl (fun K hK => ?_) AllReadyH.nil
    go_simp
    refine hcall.mono ?_
    rintro e w4 ⟨rfl, o4⟩
    exact ⟨rfl, Ends.err (by rw [HR.out, hnm]; rfl) ((o0.trans (oA2.trans oB)).trans o4)⟩
  | ok p =>
    obtain ⟨S2, b⟩ := p
    have hcall : Calls Tryz.prog 138 #[.pointer (some ⟨r, 0, none⟩)] wB.drew fun e w' => e = .returned (.agg #[.int .i64 b.k, .int .i64 b.n, .string b.s]) ∧ Rd w' r S2 ∧ Only r wB w' ∧ w'.heap[w1.heap.size]? = some (.cells #[.int .i64 a.k, .int .i64 a.n, .string a.s] 47) ∧ w'.heap[w.heap.size]? = some zero8 ∧ w'.heap[w2.heap.size]? = some (.cells #[.int .i64 1, .string ⟨#[]⟩, .string ⟨#[]⟩, .string S1.now.t, .slice none 0 0, .slice none 0 0, .slice none 0 0, .slice none 0 0] 32) :=
      (operand_any r S1.adv _ rB.drew).mono fun e w' ⟨o1, h1, _⟩ => by
        obtain ⟨v1, rfl, q1, hv1⟩ := h1 S2 b hnm
        have o3 : Only r wB w' := (Only.refl r wB).drew.trans o1
        exact ⟨by rw [hv1], q1, o3, (o3.block _ azB hne1).trans hA3, kept8 (oA2.trans (oB.trans o3)) hlt, (o3.block _ hsz2 hne2).trans hB⟩
    have hsm : w1.heap.size < w2.heap.size := az
    have hsg : w.heap.size < w2.heap.size := by omega
    have hgL : ¬ w.heap.size = w2.heap.size := by omega
    have hLg : ¬ w2.heap.size = w.heap.size := by omega
    go_wp2_with fail
    rw [HWB.out]
    go_region_law (first | (go_simp; go_at_call 138; refine hcall.mono ?_; rintro e w3 ⟨rfl, r3, o3, hA4, hg3, hL3⟩; obtain ⟨b0, b1, b2, bf, bz⟩ := cells3 hA4; obtain ⟨k0, k1, k2, k3, k4, k5, k6, k7, kf, kz⟩ := cells8 hL3; obtain ⟨q0, q1, q2, q3, q4, q5, q6, q7, qf, qz⟩ := cells8 hg3; have hneN : ¬ w2.heap.size = w3.heap.size := (by omega); have hneN' : ¬ w3.heap.size = w2.heap.size := (by omega)))
    all_goals
      go_wp2_with fail
      have hW : Only r w (w3.setCell ⟨w2.heap.size, 4, none⟩ (.slice (some ⟨w3.heap.size, 0, none⟩) 2 2)) := (o0.trans (oA2.trans (oB.trans o3))).setCell (.inr (by show w.heap.size ≤ w2.heap.size; omega)) _
      have rW : Rd (w3.setCell ⟨w2.heap.size, 4, none⟩ (.slice (some ⟨w3.heap.size, 0, none⟩) 2 2)) r S2 := r3.setCell (by show r < w2.heap.size; exact r2.lt) _
      have hg' : (w3.setCell ⟨w2.heap.size, 4, none⟩ (.slice (some ⟨w3.heap.size, 0, none⟩) 2 2)).heap[w.heap.size]? = _ := (Below.heap_setCell _ _ _ _ hgL).trans hg3
      have hn := slAt_newAt (put8 (w3.setCell ⟨w2.heap.size, 4, none⟩ (.slice (some ⟨w3.heap.size, 0, none⟩) 2 2)) w.heap.size (.int .i64 1) (.string ⟨#[]⟩) (.string ⟨#[]⟩) (.string S1.now.t) (.slice (some ⟨w3.heap.size, 0, none⟩) 2 2) (.slice none 0 0) (.slice none 0 0) (.slice none 0 0)) (Old w) 47 w3.heap.size 2 2 [.int .i64 a.k, .int .i64 a.n, .string a.s, .int .i64 b.k, .int .i64 b.n, .string b.s] #[.int .i64 a.k, .int .i64 a.n, .string a.s, .int .i64 b.k, .int .i64 b.n, .string b.s] (by rw [put8_size]; simp [World.setCell]) (by show ¬ w3.heap.size < w.heap.size; omega) (by omega) rfl
      exact ret8 (enc := valEnc w) (res := M.value S) (S' := S2) (a := (⟨1, M.em, S1.now.t, [a, b], []⟩ : M.Val)) (res_value (by rfl) ((Below.heap_alloc _ _ _ (by rw [put8_size]; simp [World.setCell]; omega)).trans (put8_at hg' _ _ _ _ _ _ _ _))) (by rw [HR.out, hnm]; rfl) ((put8_only hW (Nat.le_refl _) _ _ _ _ _ _ _ _).alloc _) ((put8_rd rW hlt _ _ _ _ _ _ _ _).alloc _) ⟨_, _, rfl, hn, StrsAt.nil _ _⟩

set_option maxRecDepth 8000 in
set_option maxHeartbeats 1600000 in
theorem value_moveN (r : Nat) (S : M.St) (w : World) (h : Rd w r S) (h1 : S.at M.kIn = false) (h2 : S.at M.kCall = false) (h3 : S.at M.kNew = false) (S1 : M.St) (a : M.Opd) (hop : M.operand S = .ok (S1, a)) (hk : ¬ a.k = 4) (har : S1.atArith = false) :
    Calls Tryz.prog 139 #[.pointer (some ⟨r, 0, none⟩)] w (Ends r w (valEnc w) (M.value S)) := by
  have hlt := h.lt
  have ha := h.alloc zero8
  have o0 : Only r w (w.alloc zero8) := (Only.refl r w).alloc _
  have HR : Hid (M.value S = .ok (S1, ⟨0, M.em, M.em, [a], []⟩)) := by unfold Hid; simp [M.value, h1, h2, h3, hop, M.bnd, M.value2, har, hk]
  go_enter Tryz.func139, Tryz.ntmps139
  go_wp2_with fail
  refine (passIf_no r S M.kIn _ ha h1).mono ?_
  rintro e w' ⟨rfl, rfl⟩
  go_wp2_with fail
  refine (passIf_no r S M.kCall _ ha h2).mono ?_
  rintro e w' ⟨rfl, rfl⟩
  go_wp2_with fail
  refine (passIf_no r S M.kNew _ ha h3).mono ?_
  rintro e w' ⟨rfl, rfl⟩
  go_wp2_with fail
  refine (operand_any r S _ ha).mono ?_
  rintro e w1 ⟨o1, hok, herr⟩
  obtain ⟨v1, rfl, r1, hv1⟩ := hok S1 _ hop
  obtain rfl : v1 = .agg #[.int .i64 a.k, .int .i64 a.n, .string a.s] := hv1
  have hz1 := o1.size
  rw [World.size_alloc] at hz1
  have rA := r1.alloc (.cells #[.int .i64 a.k, .int .i64 a.n, .string a.s] 47)
  have oA : Only r (w.alloc zero8) (w1.alloc (.cells #[.int .i64 a.k, .int .i64 a.n, .string a.s] 47)) := o1.alloc _
  have hA := heap_alloc_new w1 (.cells #[.int .i64 a.k, .int .i64 a.n, .string a.s] 47)
  have hgA := kept8 oA hlt
  clear hok herr
  have har' := atArith_any r S1 _ rA
  rw [har] at har'
  have hkb : (a.k == 4) = false := by simpa using hk
  go_wp2_with fail
  refine har'.mono ?_
  rintro e w' ⟨rfl, rfl⟩
  have hg1 := kept8 o1 hlt
  obtain ⟨q0, q1, q2, q3, q4, q5, q6, q7, qf, qz⟩ := cells8 hg1
  have hgn : ¬ w.heap.size = w1.heap.size := by omega
  have hgn' : ¬ w1.heap.size = w.heap.size := by omega
  go_wp2_with fail
  have hn := slAt_newAt ((put8 w1 w.heap.size (.int .i64 0) (.string ⟨#[]⟩) (.string ⟨#[]⟩) (.string ⟨#[]⟩) (.slice (some ⟨w1.heap.size + 1, 0, none⟩) 1 1) (.slice none 0 0) (.slice none 0 0) (.slice none 0 0)).alloc (.cells #[.int .i64 a.k, .int .i64 a.n, .string a.s] 47)) (Old w) 47 (w1.heap.size + 1) 1 1 [.int .i64 a.k, .int .i64 a.n, .string a.s] #[.int .i64 a.k, .int .i64 a.n, .string a.s] (by rw [World.size_alloc, put8_size]) (by show ¬ w1.heap.size + 1 < w.heap.size; omega) (by omega) rfl
  exact ret8 (enc := valEnc w) (res := M.value S) (S' := S1) (a := (⟨0, M.em, M.em, [a], []⟩ : M.Val)) (res_value (by rfl) ((Below.heap_alloc _ _ _ (by rw [World.size_alloc, put8_size]; omega)).trans ((Below.heap_alloc _ _ _ (by rw [put8_size]; omega)).trans (put8_at hg1 _ _ _ _ _ _ _ _)))) HR.out (((put8_only (o0.trans o1) (Nat.le_refl _) _ _ _ _ _ _ _ _).alloc _).alloc _) (((put8_rd r1 hlt _ _ _ _ _ _ _ _).alloc _).alloc _) ⟨_, _, rfl, hn, StrsAt.nil _ _⟩


theorem value_any (r : Nat) (S : M.St) (w : World) (h : Rd w r S) :
    Calls Tryz.prog 139 #[.pointer (some ⟨r, 0, none⟩)] w (Ends r w (valEnc w) (M.value S)) := by
  cases h1 : S.at M.kIn
  · cases h2 : S.at M.kCall
    · cases h3 : S.at M.kNew
      · cases hop : M.operand S with
        | error f => exact value_bad r S w h h1 h2 h3 f hop
        | ok p =>
          obtain ⟨S1, ak, an, nm4⟩ := p
          by_cases hk : ak = 4
          · subst hk
            cases hd : S1.at (M.ch 46)
            · cases hb : S1.at (M.ch 40)
              · cases har : S1.atArith
                · exact value_moveV r S w h h1 h2 h3 S1 an nm4 hop hd hb har
                · exact value_arithV r S w h h1 h2 h3 S1 an nm4 hop hd hb har
              · exact value_apply r S w h h1 h2 h3 S1 an nm4 hop hd hb
            · exact value_get r S w h h1 h2 h3 S1 an nm4 hop hd
          · cases har : S1.atArith
            · exact value_moveN r S w h h1 h2 h3 S1 _ hop hk har
            · exact value_arithN r S w h h1 h2 h3 S1 _ hop hk har
      · exact value_new r S w h h1 h2 h3
    · exact value_call r S w h h1 h2
  · exact value_in r S w h h1
end Go.Proofs.YtkpmpnebmkeocaaGreatDoor
end
