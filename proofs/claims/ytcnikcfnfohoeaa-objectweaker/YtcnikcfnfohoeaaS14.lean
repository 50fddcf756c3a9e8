/-
  The walks of the two closures that write into a field: object.Strong's and object.Weak's. Conditions: lists of at most 100000 atoms.
-/
import Derived.Test.YtcnikcfnfohoeaaS13
set_option linter.unusedVariables false
set_option linter.unusedSimpArgs false
namespace Go.Proofs.Ytcnikcfnfohoeaa
open Go.RowKit Go.Sort

theorem bel_grown {w w' : World} {g : Nat} (h : Below w.heap.size w w') : w.grownBy w' (some g) := ⟨h.os, h.tape, h.output, h.size, fun k hk _ => h.block k hk⟩
theorem grown_bel {w w1 w2 : World} {g : Nat} (h : w.grownBy w1 (some g)) (hb : Below w1.heap.size w1 w2) : w.grownBy w2 (some g) :=
  ⟨hb.os.trans h.os, hb.tape.trans h.tape, hb.output.trans h.output, Nat.le_trans h.size hb.size, fun k hk hne => (hb.block k (Nat.lt_of_lt_of_le hk h.size)).trans (h.block k hk hne)⟩
/-- a field of a row is another one now: all have their atoms still -/
theorem ones_set {w : World} {g p : Nat} {R : List Cel} {x0 x1 : Cel} (hp : p < R.length) (h : ∀ x ∈ R, OneAt w x) (h1 : AtAt w (.slice x1.a x1.f.vs.length x1.c) x1.f.vs) (hc : w.cell? ⟨g, p * 3 + 2, none⟩ = some (.slice x0.a x0.f.vs.length x0.c)) {u : Value} :
    ∀ x ∈ R.set p x1, OneAt (w.setCell ⟨g, p * 3 + 2, none⟩ u) x := fun x hx => by
  rcases List.mem_or_eq_of_mem_set hx with hx | rfl
  · exact AtAt.setn (h x hx) hc (noInt_v _ _ _)
  · exact AtAt.setn h1 hc (noInt_v _ _ _)
set_option maxHeartbeats 2000000 in
theorem strong1_any (w : World) (base g cap bx p : Nat) (R : List Cel) (v : Value) (l : List M.Atm) (hrow : RowF base w (.slice (some ⟨g, 0, none⟩) R.length cap) R) (hone : ∀ x ∈ R, OneAt w x) (hp : p < R.length) (hbx : w.cell? ⟨bx, 0, none⟩ = some v) (hne : bx ≠ g) (hlt : bx < w.heap.size) (hv : AtAt w v l) (hl : l.length ≤ 100000) :
    Calls Try.prog 42 #[.pointer (some ⟨g, p * 3, none⟩), .pointer (some ⟨bx, 0, none⟩)] w fun e w' => e = .returned (.tuple #[]) ∧ ∃ x' : Cel, x'.f = ⟨R[p].f.nm, true, M.norm l⟩ ∧ RowF base w' (.slice (some ⟨g, 0, none⟩) R.length cap) (R.set p x') ∧ (∀ x ∈ R.set p x', OneAt w' x) ∧ w.grownBy w' (some g) := by
  obtain ⟨c1, c2, c3⟩ := hrow.tri.1 p hp
  have cf := hrow.tri.2.2.2.2.2
  obtain ⟨a, n, c, rfl⟩ : ∃ a n c, v = .slice a n c := by obtain ⟨a, c, e⟩ := hv.form; exact ⟨a, _, c, e⟩
  obtain ⟨W1, hW1⟩ : ∃ W1, w.setCell ⟨g, p * 3 + 1, none⟩ (.bool true) = W1 := ⟨_, rfl⟩
  have d0 : W1.cell? ⟨bx, 0, none⟩ = some (.slice a n c) := by
    rw [← hW1, World.cell?_setCell_other _ _ _ _ (fun e => hne (Addr.mk.inj e).1.symm)]; exact hbx
  have A1 : AtAt W1 (.slice a n c) l := by rw [← hW1]; exact AtAt.setn hv c2 (noInt_b _)
  obtain ⟨x1, hx1⟩ : ∃ x1 : Cel, x1 = ⟨⟨R[p].f.nm, true, R[p].f.vs⟩, R[p].a, R[p].c⟩ := ⟨_, rfl⟩
  have R1 : Hid (RowF base W1 (.slice (some ⟨g, 0, none⟩) (R.set p x1).length cap) (R.set p x1)) := by
    have := own_set (p := p * 3 + 1) (u := .bool true) hrow
    rw [flat_set R p 1 x1 _ hp (by omega) (by subst hx1; rfl), hW1] at this
    show World.ownsRow _ _ _ _ _ _ _
    rw [List.length_set]
    exact this
  have O1 : Hid (∀ x ∈ R.set p x1, OneAt W1 x) := fun x hx => by
    rw [← hW1]
    rcases List.mem_or_eq_of_mem_set hx with hx | rfl
    · exact AtAt.setn (hone x hx) c2 (noInt_b _)
    · rw [hx1]
      have h0 : AtAt w (.slice R[p].a R[p].f.vs.length R[p].c) R[p].f.vs := hone R[p] (List.getElem_mem hp)
      exact AtAt.setn h0 c2 (noInt_b _)
  have G1 : Hid (w.grownBy W1 (some g)) := by unfold Hid; rw [← hW1]; exact grown_set (World.grownBy.refl _ _) _
  have K := hid (norm_any W1 _ l A1 hl)
  have HX1 := hid hx1
  have hpl : p < (R.set p x1).length := by rw [List.length_set]; exact hp
  clear A1 hrow hone hv hx1
  go_enter Try.func42, Try.ntmps42
  go_wp2_with (go_at_call 43; refine stopHere ?_)
  refine stopAt ?_
  refine K.out.mono ?_
  rintro e w2 ⟨v2, rfl, hA2, hb2⟩
  obtain ⟨q2, m2, rfl⟩ := hA2.form
  have R2 := hid (R1.out.keep hb2)
  have O2 := hid (fun x hx => (O1.out x hx).bel hb2)
  have G2 := hid (grown_bel G1.out hb2)
  have A2 := hid hA2
  obtain ⟨d1, d2, d3⟩ := R2.out.tri.1 p hpl
  have df := R2.out.tri.2.2.2.2.2
  clear hA2 hb2 hW1 d0 c1 c2 c3 cf hbx
  go_wp2
  go_end0
  refine ⟨rfl, ⟨⟨R[p].f.nm, true, M.norm l⟩, q2, m2⟩, rfl, ?_, ?_, grown_set G2.out _⟩
  · have := R2.out.setV hpl ⟨⟨R[p].f.nm, true, M.norm l⟩, q2, m2⟩ (by rw [List.getElem_set_self, HX1.out]) (by rw [List.getElem_set_self, HX1.out])
    rw [List.set_set, List.length_set] at this
    exact this
  · have := ones_set hpl (x1 := ⟨⟨R[p].f.nm, true, M.norm l⟩, q2, m2⟩) O2.out A2.out d3 (u := .slice q2 (M.norm l).length m2)
    rw [List.set_set] at this
    exact this

set_option maxHeartbeats 2000000 in
theorem weak1_any (w : World) (base g cap bx p : Nat) (R : List Cel) (v : Value) (l : List M.Atm) (hrow : RowF base w (.slice (some ⟨g, 0, none⟩) R.length cap) R) (hone : ∀ x ∈ R, OneAt w x) (hp : p < R.length) (hbx : w.cell? ⟨bx, 0, none⟩ = some v) (hne : bx ≠ g) (hlt : bx < w.heap.size) (hv : AtAt w v l) (hl : l.length ≤ 100000) (hn : R[p].f.vs.length ≤ 100000) :
    Calls Try.prog 45 #[.pointer (some ⟨g, p * 3, none⟩), .pointer (some ⟨bx, 0, none⟩)] w fun e w' => e = .returned (.tuple #[]) ∧ ∃ x' : Cel, x'.f = ⟨R[p].f.nm, R[p].f.su, M.norm (R[p].f.vs ++ l)⟩ ∧ RowF base w' (.slice (some ⟨g, 0, none⟩) R.length cap) (R.set p x') ∧ (∀ x ∈ R.set p x', OneAt w' x) ∧ w.grownBy w' (some g) := by
  have mixed := mixedP
  obtain ⟨c1, c2, c3⟩ := hrow.tri.1 p hp
  have cf := hrow.tri.2.2.2.2.2
  obtain ⟨a, n, c, rfl⟩ : ∃ a n c, v = .slice a n c := by obtain ⟨a, c, e⟩ := hv.form; exact ⟨a, _, c, e⟩
  have KB : Hid (∀ W, Below w.heap.size w W → W.cell? ⟨bx, 0, none⟩ = some (.slice a n c)) := fun W hb => by rw [hb.cell (p := ⟨bx, 0, none⟩) hlt]; exact hbx
  have KU : Hid (∀ W, Below w.heap.size w W → Calls Try.prog 36 #[.slice R[p].a R[p].f.vs.length R[p].c, .slice a n c] W fun e w' => ∃ q m, e = .returned (.slice q (M.norm (R[p].f.vs ++ l)).length m) ∧ AtAt w' (.slice q (M.norm (R[p].f.vs ++ l)).length m) (M.norm (R[p].f.vs ++ l)) ∧ Below w.heap.size w w') := fun W hb =>
    (union_any W _ _ R[p].f.vs l ((hone _ (List.getElem_mem hp)).bel hb) (hv.bel hb) hn hl).mono fun e w' ⟨v, h1, h2, h3⟩ => by
      obtain ⟨q, m, rfl⟩ := h2.form
      exact ⟨q, m, h1, h2, hb.trans (h3.mono hb.size)⟩
  have hrow := hid hrow
  have hone := hid hone
  clear hv hbx
  go_enter Try.func45, Try.ntmps45
  go_wp2_with fail
  refine wp_region_held_drew (S := (fun W => W.cell? ⟨bx, 0, none⟩ = some (.slice a n c))) (by kernel_rfl) (KB.out _ (Below.refl _ _).drew) (fun hHeld => ?_)
  refine wpAnyH_take (i := 0) (oi := { dst := some 3, op := Op.move (Operand.tmp 0), type := 53, pos := "object.go:55", after := #[], guard := none }) (v := ?_) rfl (by kernel_rfl) (by kernel_rfl) (by kernel_rfl) (fun _ _ _ h => h) (Or.inl ⟨by rfl, ?_⟩) hHeld ?_
  rotate_left
  · intro w hSw; (try dsimp only at hSw); go_simp; (try with_reducible rfl)
  simp only [Act.put, List.setIfInBounds_toArray, List.set_cons_zero, List.set_cons_succ]
  refine wpAnyH_take (i := 1) (oi := { dst := some 4, op := Op.move (Operand.tmp 0), type := 53, pos := "object.go:55", after := #[], guard := none }) (v := ?_) rfl (by kernel_rfl) (by kernel_rfl) (by kernel_rfl) (fun _ _ _ h => h) (Or.inl ⟨by rfl, ?_⟩) hHeld ?_
  rotate_left
  · intro w hSw; (try dsimp only at hSw); go_simp; (try with_reducible rfl)
  simp only [Act.put, List.setIfInBounds_toArray, List.set_cons_zero, List.set_cons_succ]
  refine wpAnyH_take (i := 2) (oi := { dst := some 5, op := Op.nilCheck (Operand.tmp 4), type := 0, pos := "object.go:55", after := #[{ on := 1, ground := Ground.data }], guard := none }) (v := ?_) rfl (by kernel_rfl) (by kernel_rfl) (by kernel_rfl) (fun _ _ _ h => h) (Or.inl ⟨by rfl, ?_⟩) hHeld ?_
  rotate_left
  · intro w hSw; (try dsimp only at hSw); go_simp; (try with_reducible rfl)
  simp only [Act.put, List.setIfInBounds_toArray, List.set_cons_zero, List.set_cons_succ]
  refine wpAnyH_take (i := 3) (oi := { dst := some 6, op := Op.fieldAddr 29 (Operand.tmp 5) 2, type := 0, pos := "object.go:55", after := #[{ on := 2, ground := Ground.data }], guard := none }) (v := ?_) rfl (by kernel_rfl) (by kernel_rfl) (by kernel_rfl) (fun _ _ _ h => h) (Or.inl ⟨by rfl, ?_⟩) hHeld ?_
  rotate_left
  · intro w hSw; (try dsimp only at hSw); go_simp; (try with_reducible rfl)
  simp only [Act.put, List.setIfInBounds_toArray, List.set_cons_zero, List.set_cons_succ]
  refine wpAnyH_take (i := 5) (oi := { dst := some 8, op := Op.load 23 (Operand.tmp 1), type := 23, pos := "object.go:55", after := #[], guard := none }) (v := ?_) rfl (by kernel_rfl) (by kernel_rfl) (by kernel_rfl) (fun _ _ _ h => h) (Or.inl ⟨by rfl, ?_⟩) hHeld ?_
  rotate_left
  · intro w hSw; (try dsimp only at hSw); go_simp; (try with_reducible rfl)
  simp only [Act.put, List.setIfInBounds_toArray, List.set_cons_zero, List.set_cons_succ]
  refine wpAnyH_ready (rs := [4]) (by kernel_rfl) (by simp) ?_
  refine AllReadyH.cons (o := { dst := some 7, op := Op.load 23 (Operand.tmp 6), type := 23, pos := "object.go:55", after := #[{ on := 3, ground := Ground.data }], guard := none }) rfl (fun K hK => ?_) AllReadyH.nil
  go_simp
  refine hK.out _ _ (KB.out _ (Gr.refl w).drew.below) (fun hHeld => ?_)
  refine wpAnyH_ready (rs := [6]) (by kernel_rfl) (by simp) ?_
  refine AllReadyH.cons (o := { dst := some 9, op := Op.call { callee := Callee.value (Operand.func 36), args := #[Operand.tmp 7, Operand.tmp 8], argTypes := #[23, 23] }, type := 23, pos := "object.go:55", after := #[{ on := 4, ground := Ground.data }, { on := 5, ground := Ground.data }], guard := none }) rfl (fun K hK => ?_) AllReadyH.nil
  go_simp
  refine (KU.out _ (Gr.refl w).drew.below).mono ?_
  rintro e w2 ⟨q2, m2, rfl, hA2, hb2⟩
  refine hK.out _ _ (KB.out _ hb2) (fun hHeld => ?_)
  obtain ⟨d1, d2, d3⟩ := (hrow.out.keep hb2).tri.1 p hp
  have df := (hrow.out.keep hb2).tri.2.2.2.2.2
  refine wpAnyH_take (i := 7) (oi := { dst := some 10, op := Op.nilCheck (Operand.tmp 3), type := 0, pos := "object.go:55", after := #[{ on := 0, ground := Ground.data }, { on := 0, ground := Ground.phase }, { on := 1, ground := Ground.phase }, { on := 2, ground := Ground.phase }, { on := 3, ground := Ground.phase }, { on := 4, ground := Ground.phase }, { on := 5, ground := Ground.phase }, { on := 6, ground := Ground.phase }], guard := none }) (v := ?_) rfl (by kernel_rfl) (by kernel_rfl) (by kernel_rfl) (fun _ _ _ h => h) (Or.inl ⟨by rfl, ?_⟩) hHeld ?_
  rotate_left
  · intro w hSw; (try dsimp only at hSw); go_simp; (try with_reducible rfl)
  simp only [Act.put, List.setIfInBounds_toArray, List.set_cons_zero, List.set_cons_succ]
  refine wpAnyH_take (i := 8) (oi := { dst := some 11, op := Op.fieldAddr 29 (Operand.tmp 10) 2, type := 0, pos := "object.go:55", after := #[{ on := 7, ground := Ground.data }, { on := 0, ground := Ground.phase }, { on := 1, ground := Ground.phase }, { on := 2, ground := Ground.phase }, { on := 3, ground := Ground.phase }, { on := 4, ground := Ground.phase }, { on := 5, ground := Ground.phase }, { on := 6, ground := Ground.phase }], guard := none }) (v := ?_) rfl (by kernel_rfl) (by kernel_rfl) (by kernel_rfl) (fun _ _ _ h => h) (Or.inl ⟨by rfl, ?_⟩) hHeld ?_
  rotate_left
  · intro w hSw; (try dsimp only at hSw); go_simp; (try with_reducible rfl)
  simp only [Act.put, List.setIfInBounds_toArray, List.set_cons_zero, List.set_cons_succ]
  refine wpAnyH_ready (rs := [9]) (by kernel_rfl) (by simp) ?_
  refine AllReadyH.cons (o := { dst := none, op := Op.store 23 (Operand.tmp 11) (Operand.tmp 9), type := 0, pos := "object.go:55", after := #[{ on := 8, ground := Ground.data }, { on := 6, ground := Ground.data }, { on := 6, ground := Ground.chain }, { on := 0, ground := Ground.phase }, { on := 1, ground := Ground.phase }, { on := 2, ground := Ground.phase }, { on := 3, ground := Ground.phase }, { on := 4, ground := Ground.phase }, { on := 5, ground := Ground.phase }, { on := 6, ground := Ground.phase }], guard := none }) rfl (fun K hK => ?_) AllReadyH.nil
  go_simp
  refine hK.out _ _ (by rw [World.cell?_setCell_other _ _ _ _ (fun e => hne (Addr.mk.inj e).1.symm)]; exact KB.out _ hb2) (fun hHeld => ?_)
  refine wpAnyH_done (by kernel_rfl) ?_ _
  have hA' := hid hA2
  have hB' := hid hb2
  clear hHeld hA2 hb2
  go_wp2
  go_end0
  refine ⟨rfl, ⟨⟨R[p].f.nm, R[p].f.su, M.norm (R[p].f.vs ++ l)⟩, q2, m2⟩, rfl, (hrow.out.keep hB'.out).setV hp ⟨⟨R[p].f.nm, R[p].f.su, M.norm (R[p].f.vs ++ l)⟩, q2, m2⟩ rfl rfl, ?_, ?_⟩
  · exact ones_set hp (fun x hx => (hone.out x hx).bel hB'.out) hA'.out d3
  · exact grown_set (bel_grown hB'.out) _
end Go.Proofs.Ytcnikcfnfohoeaa
