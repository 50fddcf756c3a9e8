/-
  The walks of object.copied, object.Get and the document's Get. Conditions: shapes of at most 100000 fields of as many atoms.
-/
import Derived.Test.YtbaaeobdjiglgaaGreatS5
set_option linter.unusedVariables false
set_option linter.unusedSimpArgs false
namespace Go.Proofs.YtbaaeobdjiglgaaGreat
open Go.RowKit Go.Sort

/-- atoms whose block is as it was -/
theorem AtAt.blk {w w' : World} {a : Option Addr} {n c : Nat} {l : List M.Atm} (h : AtAt w (.slice a n c) l) (hk : ∀ b o s, a = some ⟨b, o, s⟩ → w'.heap[b]? = w.heap[b]?) : AtAt w' (.slice a n c) l := by
  obtain ⟨h0, a', cap, e, h1⟩ := h
  simp only [Value.slice.injEq] at e
  obtain ⟨rfl, rfl, rfl⟩ := e
  refine ⟨h0, a, c, rfl, ?_⟩
  rcases h1 with h1 | ⟨b, o, rfl, hlt, hr, hc⟩
  · exact .inl h1
  · have hb := hk b o none rfl
    refine .inr ⟨b, o, rfl, ?_, hr, fun i hi => ?_⟩
    · rw [Array.getElem?_eq_getElem hlt] at hb
      exact (Array.getElem?_eq_some_iff.1 hb).1
    · rw [World.cell?_of_block (w := w) (a := ⟨b, o + i * 2, none⟩) hb, World.cell?_of_block (w := w) (a := ⟨b, o + i * 2 + 1, none⟩) hb]
      exact hc i hi
theorem set_blk (w : World) (g p : Nat) (u : Value) (b : Nat) (h : b ≠ g) : (w.setCell ⟨g, p, none⟩ u).heap[b]? = w.heap[b]? := Below.heap_setCell _ _ _ _ (fun e => h e)
theorem AtAt.set {w : World} {a : Option Addr} {n c g p : Nat} {u : Value} {l : List M.Atm} (h : AtAt w (.slice a n c) l) (hk : ∀ b o s, a = some ⟨b, o, s⟩ → b ≠ g) : AtAt (w.setCell ⟨g, p, none⟩ u) (.slice a n c) l :=
  h.blk fun b o s e => set_blk w g p u b (hk b o s e)
theorem row_off {base : Nat} {w : World} {a : Option Addr} {n c : Nat} {l : List M.Atm} (h : RowA base w (.slice a n c) l) : ∀ b o s, a = some ⟨b, o, s⟩ → base ≤ b := by
  rintro b o s rfl
  rcases h.2 with ⟨e, _⟩ | ⟨g, cap, cur, e, hb, _⟩
  · cases e
  · simp only [Value.slice.injEq, Option.some.injEq, Addr.mk.injEq] at e
    rw [e.1.1]; exact hb

set_option maxHeartbeats 1000000 in
theorem copied_any (w : World) (x : Cel) (h : OneAt w x) (hn : x.f.vs.length ≤ 1048576) :
    Calls Tryz.prog 77 #[fv x] w fun e w' => ∃ x' : Cel, e = .returned (fv x') ∧ x'.f = x.f ∧ OneAt w' x' ∧ (∀ b o s, x'.a = some ⟨b, o, s⟩ → w.heap.size + 2 ≤ b) ∧ Below w.heap.size w w' := by
  have HI : Hid (∀ y ∈ x.f.vs, InR y.n) := h.1
  obtain ⟨W, hW⟩ : ∃ W, (w.alloc (.cells #[.string x.f.nm, .bool x.f.su, .slice x.a x.f.vs.length x.c] 49)).alloc (.cells #[.string ⟨#[]⟩, .bool false, .slice none 0 0] 49) = W := ⟨_, rfl⟩
  have hb1 := (gr_new w (.cells #[.string x.f.nm, .bool x.f.su, .slice x.a x.f.vs.length x.c] 49)).below
  have hb2 := (gr_new (w.alloc (.cells #[.string x.f.nm, .bool x.f.su, .slice x.a x.f.vs.length x.c] 49)) (.cells #[.string ⟨#[]⟩, .bool false, .slice none 0 0] 49)).below
  have p1 := kept (new_at w (.cells #[.string x.f.nm, .bool x.f.su, .slice x.a x.f.vs.length x.c] 49)) (by simp) hb2
  have p2 := new_at (w.alloc (.cells #[.string x.f.nm, .bool x.f.su, .slice x.a x.f.vs.length x.c] 49)) (.cells #[.string ⟨#[]⟩, .bool false, .slice none 0 0] 49)
  rw [World.size_alloc] at p2
  have hz : W.heap.size = w.heap.size + 2 := by rw [← hW]; simp
  have hB : Below w.heap.size w W := by rw [← hW]; exact hb1.trans (hb2.mono hb1.size)
  have hA : AtAt W (.slice x.a x.f.vs.length x.c) x.f.vs := h.bel hB
  rw [hW] at p1 p2
  have K := hid (clone_any W _ x.f.vs hA hn)
  have HB := hid hB
  have HZ := hid hz
  have P1 := hid p1
  have P2 := hid p2
  obtain ⟨c1, c2, c3, cf⟩ := cells3 p1
  clear h hb1 hb2 hB hA hz p1 p2
  unfold fv
  go_enter Tryz.func77, Tryz.ntmps77
  go_wp2_with (go_at_call 75; refine stopHere ?_)
  refine stopAt ?_
  refine K.out.mono ?_
  rintro e w3 ⟨v3, rfl, hown, hb3⟩
  clear hW c1 c2 c3 cf
  have hrow : RowA W.heap.size w3 v3 x.f.vs := hown
  have hat := hid (hrow.at HI.out)
  obtain ⟨q, m, rfl⟩ := hrow.form
  have hoff := hid (row_off hrow)
  have hwz : w.heap.size < W.heap.size := by have := HZ.out; omega
  have hwz2 : w.heap.size + 1 < W.heap.size := by have := HZ.out; omega
  obtain ⟨c1, c2, c3, cf⟩ := cells3 (kept P1.out hwz hb3)
  obtain ⟨d1, d2, d3, df⟩ := cells3 (kept P2.out hwz2 hb3)
  have HBB := hid (HB.out.trans (hb3.mono HB.out.size))
  clear hrow hown hb3
  go_wp2
  refine bodyPost_ret (v := fv ⟨x.f, q, m⟩) (by unfold fv; simp [results, Tryz.results77, go_sem, c1, c2, c3, d1, d2, d3]) rfl ?_
  refine ⟨⟨x.f, q, m⟩, rfl, rfl, ?_, fun b o s e => ?_, ?_⟩
  · have off : ∀ b o s, q = some ⟨b, o, s⟩ → b ≠ w.heap.size ∧ b ≠ w.heap.size + 1 := fun b o s e => by
      have := hoff.out b o s e
      have := HZ.out
      omega
    exact (((hat.out.set fun b o s e => (off b o s e).1).set fun b o s e => (off b o s e).2).set fun b o s e => (off b o s e).2).set fun b o s e => (off b o s e).2
  · have := hoff.out b o s e
    have := HZ.out
    omega
  · have := HBB.out.setCell (p := ⟨w.heap.size, 2, none⟩) (Nat.le_refl _) (.slice q x.f.vs.length m)
    exact set3 this (Nat.le_succ _) _ _ _

/-- what is found of a name among the first j -/
def Seen (l : List M.Fld) (n : ByteArray) (j : Nat) : Prop := ∀ i (h : i < l.length), i < j → l[i].nm ≠ n
theorem seen_hit {l : List M.Fld} {n : ByteArray} {j : Nat} (h : Seen l n j) (hj : j < l.length) (e : l[j].nm = n) : M.getF l n = some l[j] := by
  induction l generalizing j with
  | nil => simp at hj
  | cons x r ih =>
    rw [M.getF_cons]
    cases j with
    | zero =>
      have e' : x.nm = n := e
      rw [if_pos e']; rfl
    | succ k =>
      have h0 : ¬ x.nm = n := h 0 (by simp) (by omega)
      rw [if_neg h0]
      exact ih (fun i hi hk => h (i + 1) (by simpa using hi) (by omega)) (by simpa using hj) e
theorem seen_end {l : List M.Fld} {n : ByteArray} {j : Nat} (h : Seen l n j) (hj : l.length ≤ j) : M.getF l n = none := by
  rw [M.getF_none]
  intro f hf
  obtain ⟨i, hi, rfl⟩ := List.getElem_of_mem hf
  exact h i hi (by omega)
theorem seen_step {R : List Cel} {n : ByteArray} {j : Nat} {x : Cel} (h : Seen (fldOf R) n j) (hj : j < R.length) (hx : R[j] = x) (e : x.f.nm ≠ n) : Seen (fldOf R) n (j + 1) := fun i hi hij => by
  rcases Nat.lt_succ_iff_lt_or_eq.1 hij with h' | rfl
  · exact h i hi h'
  · simp only [fldOf, List.getElem_map]; rw [hx]; exact e
theorem seen_hitR {R : List Cel} {n : ByteArray} {j : Nat} {x : Cel} (h : Seen (fldOf R) n j) (hj : j < R.length) (hx : R[j] = x) (e : x.f.nm = n) : M.getF (fldOf R) n = some x.f := by
  have := seen_hit h (by rw [fldOf_len]; exact hj) (by simp only [fldOf, List.getElem_map]; rw [hx]; exact e)
  rw [this]
  simp only [fldOf, List.getElem_map]; rw [hx]

end Go.Proofs.YtbaaeobdjiglgaaGreat

/-
  Rows of fields that the call has made itself; what is stored in them; the walks of slices.Clone and slices.SortFunc over fields. Conditions: at most 2^20 fields.
-/
set_option linter.unusedVariables false
set_option linter.unusedSimpArgs false
namespace Go.Proofs.YtbaaeobdjiglgaaGreat
open Go.RowKit Go.Sort

def NoInt (u : Value) : Prop := ∀ k n, u ≠ .int k n
theorem noInt_s (s : ByteArray) : NoInt (.string s) := fun _ _ h => by cases h
theorem noInt_b (b : Bool) : NoInt (.bool b) := fun _ _ h => by cases h
theorem noInt_v (a : Option Addr) (n c : Nat) : NoInt (.slice a n c) := fun _ _ h => by cases h
/-- a store over a cell that holds no number leaves atoms as they are -/
theorem AtAt.setn {w : World} {v : Value} {l : List M.Atm} {g p : Nat} {u u0 : Value} (h : AtAt w v l) (hc : w.cell? ⟨g, p, none⟩ = some u0) (hi : NoInt u0) : AtAt (w.setCell ⟨g, p, none⟩ u) v l := by
  obtain ⟨h0, a, cap, rfl, h1⟩ := h
  refine ⟨h0, a, cap, rfl, ?_⟩
  rcases h1 with h1 | ⟨b, o, rfl, hlt, hr, hcs⟩
  · exact .inl h1
  · refine .inr ⟨b, o, rfl, by simpa [World.setCell] using hlt, hr, fun i hi' => ?_⟩
    obtain ⟨c1, c2⟩ := hcs i hi'
    have n1 : (⟨b, o + i * 2, none⟩ : Addr) ≠ ⟨g, p, none⟩ := fun e => by
      rw [e, hc] at c1; exact hi _ _ (Option.some.inj c1)
    have n2 : (⟨b, o + i * 2 + 1, none⟩ : Addr) ≠ ⟨g, p, none⟩ := fun e => by
      rw [e, hc] at c2; exact hi _ _ (Option.some.inj c2)
    have m : ∀ q, (⟨b, q, none⟩ : Addr) ≠ ⟨g, p, none⟩ → (w.setCell ⟨g, p, none⟩ u).cell? ⟨b, q, none⟩ = w.cell? ⟨b, q, none⟩ := fun q hq => by
      exact World.cell?_setCell_other _ _ _ _ (fun e => hq e.symm)
    exact ⟨by rw [m _ n1]; exact c1, by rw [m _ n2]; exact c2⟩
theorem cell_set_ne {w : World} {g p q : Nat} {u v : Value} (h : w.cell? ⟨g, q, none⟩ = some v) (hne : p ≠ q) : (w.setCell ⟨g, p, none⟩ u).cell? ⟨g, q, none⟩ = some v := by
  rw [World.cell?_setCell_other _ _ _ _ (fun e => hne (Addr.mk.inj e).2.1)]; exact h
/-- three stores over a field -/
theorem AtAt.set3n {w : World} {v : Value} {l : List M.Atm} {g p : Nat} {u0 u1 u2 x0 x1 x2 : Value} (h : AtAt w v l) (c0 : w.cell? ⟨g, p, none⟩ = some x0) (c1 : w.cell? ⟨g, p + 1, none⟩ = some x1) (c2 : w.cell? ⟨g, p + 2, none⟩ = some x2) (i0 : NoInt x0) (i1 : NoInt x1) (i2 : NoInt x2) :
    AtAt (((w.setCell ⟨g, p, none⟩ u0).setCell ⟨g, p + 1, none⟩ u1).setCell ⟨g, p + 2, none⟩ u2) v l :=
  ((h.setn c0 i0).setn (cell_set_ne c1 (by omega)) i1).setn (cell_set_ne (cell_set_ne c2 (by omega)) (by omega)) i2
theorem AtAt.set2n {w : World} {v : Value} {l : List M.Atm} {g p : Nat} {u0 u1 x0 x1 : Value} (h : AtAt w v l) (c0 : w.cell? ⟨g, p, none⟩ = some x0) (c1 : w.cell? ⟨g, p + 1, none⟩ = some x1) (i0 : NoInt x0) (i1 : NoInt x1) :
    AtAt ((w.setCell ⟨g, p, none⟩ u0).setCell ⟨g, p + 1, none⟩ u1) v l :=
  (h.setn c0 i0).setn (cell_set_ne c1 (by omega)) i1

/-- a row of fields of the call's own -/
def RowF (base : Nat) (w : World) (v : Value) (R : List Cel) : Prop := w.ownsRow base 49 3 v R.length (R.flatMap fc)
theorem fc_length (R : List Cel) : (R.flatMap fc).length = R.length * 3 := by
  induction R with
  | nil => rfl
  | cons x r ih => simp only [List.flatMap_cons, List.length_append, ih, List.length_cons, fc, List.length_nil]; omega
theorem fc_one (R : List Cel) : ∀ u ∈ R.flatMap fc, u.oneCell' = true := by
  intro u hu
  obtain ⟨x, _, hx⟩ := List.mem_flatMap.1 hu
  simp [fc] at hx
  rcases hx with rfl | rfl | rfl <;> rfl
theorem fc_get : ∀ (R : List Cel) (i : Nat) (h : i < R.length), (R.flatMap fc)[i * 3]? = some (.string R[i].f.nm) ∧ (R.flatMap fc)[i * 3 + 1]? = some (.bool R[i].f.su) ∧ (R.flatMap fc)[i * 3 + 2]? = some (.slice R[i].a R[i].f.vs.length R[i].c)
  | [], i, h => absurd h (by simp)
  | x :: r, 0, h => ⟨rfl, rfl, rfl⟩
  | x :: r, i + 1, h => by
    obtain ⟨h1, h2, h3⟩ := fc_get r i (by simpa using h)
    have e : (x :: r).flatMap fc = .string x.f.nm :: .bool x.f.su :: .slice x.a x.f.vs.length x.c :: r.flatMap fc := rfl
    rw [e, show (i + 1) * 3 = i * 3 + 1 + 1 + 1 by omega]
    exact ⟨by simpa using h1, by simpa using h2, by simpa using h3⟩
theorem owns_form3 {w : World} {base n size : Nat} {e : TypeId} {v : Value} {xs : List Value} (h : w.ownsRow base e size v n xs) : (v = .slice none 0 0 ∧ n = 0) ∨ ∃ g cap, v = .slice (some ⟨g, 0, none⟩) n cap := by
  rcases h.2 with h | ⟨g, cap, _, hv, _⟩
  · exact .inl h
  · exact .inr ⟨g, cap, hv⟩
theorem RowF.form {base : Nat} {w : World} {v : Value} {R : List Cel} (h : RowF base w v R) : ∃ q m, v = .slice q R.length m := by
  rcases owns_form3 h with ⟨rfl, h0⟩ | ⟨g, cap, rfl⟩
  · rw [h0]; exact ⟨_, _, rfl⟩
  · exact ⟨_, _, rfl⟩
theorem RowF.keep {base : Nat} {w w' : World} {v : Value} {R : List Cel} (h : RowF base w v R) (hb : Below w.heap.size w w') : RowF base w' v R := owns_keep h hb
/-- a row's cells -/
theorem RowF.tri {base : Nat} {w : World} {g n cap : Nat} {R : List Cel} (h : RowF base w (.slice (some ⟨g, 0, none⟩) n cap) R) : (∀ i (hi : i < R.length), Tri w g (i * 3) R[i]) ∧ g < w.heap.size ∧ base ≤ g ∧ R.length ≤ cap ∧ cap ≤ maxLen ∧ ∀ i, w.frozen? ⟨g, i, none⟩ = false := by
  have hl := h.1
  rcases h.2 with ⟨hv, _⟩ | ⟨g', cap', cur, hv, hb, hh, hc1, hc2, hc3, hc4⟩
  · cases hv
  · simp only [Value.slice.injEq, Option.some.injEq, Addr.mk.injEq, and_true, true_and] at hv
    obtain ⟨rfl, rfl, rfl⟩ := hv
    have f : ∀ p v, (R.flatMap fc)[p]? = some v → w.cell? ⟨g, p, none⟩ = some v := fun p v hp => by
      rw [← hc4, List.getElem?_take] at hp
      refine cell_cur hh ?_
      split at hp
      · simpa using hp
      · cases hp
    refine ⟨fun i hi => ?_, (Array.getElem?_eq_some_iff.1 hh).1, hb, hc1, hc2, fun i => Lib.frozen_of_heap hh i⟩
    obtain ⟨e1, e2, e3⟩ := fc_get R i hi
    exact ⟨f _ _ e1, f _ _ e2, f _ _ e3⟩
theorem RowF.at {base : Nat} {w : World} {v : Value} {R : List Cel} (h : RowF base w v R) (ha : ∀ x ∈ R, OneAt w x) : RsAt w v R := by
  rcases owns_form3 h with ⟨rfl, h0⟩ | ⟨g, cap, rfl⟩
  · have : R = [] := List.length_eq_zero_iff.1 h0
    subst this
    exact RsAt.nil w
  · obtain ⟨h1, h2, h3, h4, h5, h6⟩ := RowF.tri h
    exact ⟨ha, _, _, rfl, .inr ⟨g, 0, rfl, h2, ⟨h4, h5⟩, fun i hi => by rw [Nat.zero_add]; exact h1 i hi⟩⟩
theorem RowF.new (w : World) (base : Nat) (hb : base ≤ w.heap.size) : RowF base (w.alloc (.cells #[] 49)) (.slice (some ⟨w.heap.size, 0, none⟩) 0 0) [] :=
  World.ownsRow_lit (base := base) (e := 49) (size := 3) w #[] 0 hb (by simp [maxLen]) (by simp)
theorem RowF.nil (w : World) (base : Nat) : RowF base w (.slice none 0 0) [] := World.ownsRow_nil _ _ _ _
theorem RowF.snoc {base : Nat} {w : World} {v : Value} {R : List Cel} {x : Cel} (h : w.ownsRow base 49 3 v (R.length + 1) (R.flatMap fc ++ fc x)) : RowF base w v (R ++ [x]) := by
  unfold RowF
  rw [List.flatMap_append, List.length_append]
  simpa [fc] using h
theorem RowF.blk {base : Nat} {w : World} {v : Value} {R : List Cel} (h : RowF base w v R) : ∀ k, v.ownBlock = some k → base ≤ k := fun k hk => (h.lt k hk).1
theorem own_set {w : World} {base g n cap p size : Nat} {e : TypeId} {u : Value} {xs : List Value} (h : w.ownsRow base e size (.slice (some ⟨g, 0, none⟩) n cap) n xs) : (w.setCell ⟨g, p, none⟩ u).ownsRow base e size (.slice (some ⟨g, 0, none⟩) n cap) n (xs.set p u) := by
  refine ⟨by rw [List.length_set]; exact h.1, .inr ?_⟩
  rcases h.2 with ⟨hv, _⟩ | ⟨g', cap', cur, hv, hb, hh, hc1, hc2, hc3, hc4⟩
  · cases hv
  · simp only [Value.slice.injEq, Option.some.injEq, Addr.mk.injEq, and_true, true_and] at hv
    obtain ⟨rfl, rfl⟩ := hv
    refine ⟨g, cap, cur.setIfInBounds p u, rfl, hb, ?_, hc1, hc2, by rw [Array.size_setIfInBounds]; exact hc3, ?_⟩
    · show (w.heap.modify g _)[g]? = _
      rw [Array.getElem?_modify, if_pos rfl, hh]
      rfl
    · rw [Array.toList_setIfInBounds, List.take_set, hc4]
theorem flat_set : ∀ (R : List Cel) (j k : Nat) (x : Cel) (u : Value) (hj : j < R.length), k < 3 → (fc R[j]).set k u = fc x → (R.flatMap fc).set (j * 3 + k) u = (R.set j x).flatMap fc
  | [], j, _, _, _, hj, _, _ => absurd hj (by simp)
  | y :: r, 0, k, x, u, hj, hk, e => by
    have e' : (fc y).set k u = fc x := e
    rw [List.flatMap_cons, List.set_cons_zero, List.flatMap_cons, ← e', List.set_append_left _ _ (by simp [fc]; omega), show 0 * 3 + k = k by omega]
  | y :: r, j + 1, k, x, u, hj, hk, e => by
    have e' : (fc (r[j]'(by simpa using hj))).set k u = fc x := e
    have hl : (fc y).length = 3 := rfl
    rw [List.flatMap_cons, List.set_cons_succ, List.flatMap_cons, List.set_append_right _ _ (by rw [hl]; omega), hl, show (j + 1) * 3 + k - 3 = j * 3 + k by omega, flat_set r j k x u (by simpa using hj) hk e']
/-- a field's atoms are others now -/
theorem RowF.setV {base : Nat} {w : World} {g cap j : Nat} {R : List Cel} (h : RowF base w (.slice (some ⟨g, 0, none⟩) R.length cap) R) (hj : j < R.length) (x : Cel) (h1 : x.f.nm = R[j].f.nm) (h2 : x.f.su = R[j].f.su) :
    RowF base (w.setCell ⟨g, j * 3 + 2, none⟩ (.slice x.a x.f.vs.length x.c)) (.slice (some ⟨g, 0, none⟩) R.length cap) (R.set j x) := by
  unfold RowF
  rw [List.length_set, ← flat_set R j 2 x _ hj (by omega) (by unfold fc; rw [h1, h2]; rfl)]
  exact own_set h
/-- a field is another one now -/
theorem RowF.set {base : Nat} {w : World} {g cap j : Nat} {R : List Cel} (h : RowF base w (.slice (some ⟨g, 0, none⟩) R.length cap) R) (hj : j < R.length) (x : Cel) :
    RowF base (((w.setCell ⟨g, j * 3, none⟩ (.string x.f.nm)).setCell ⟨g, j * 3 + 1, none⟩ (.bool x.f.su)).setCell ⟨g, j * 3 + 2, none⟩ (.slice x.a x.f.vs.length x.c)) (.slice (some ⟨g, 0, none⟩) R.length cap) (R.set j x) := by
  have h1 := own_set (p := j * 3) (u := .string x.f.nm) h
  have h2 := own_set (p := j * 3 + 1) (u := .bool x.f.su) h1
  have h3 := own_set (p := j * 3 + 2) (u := .slice x.a x.f.vs.length x.c) h2
  obtain ⟨x1, hx1⟩ : ∃ x1 : Cel, x1 = ⟨⟨x.f.nm, R[j].f.su, R[j].f.vs⟩, R[j].a, R[j].c⟩ := ⟨_, rfl⟩
  obtain ⟨x2, hx2⟩ : ∃ x2 : Cel, x2 = ⟨⟨x.f.nm, x.f.su, R[j].f.vs⟩, R[j].a, R[j].c⟩ := ⟨_, rfl⟩
  have e1 := flat_set R j 0 x1 (.string x.f.nm) hj (by omega) (by subst hx1; rfl)
  have e2 := flat_set (R.set j x1) j 1 x2 (.bool x.f.su) (by rw [List.length_set]; exact hj) (by omega) (by rw [List.getElem_set_self]; subst hx1 hx2; rfl)
  have e3 := flat_set ((R.set j x1).set j x2) j 2 x (.slice x.a x.f.vs.length x.c) (by rw [List.length_set, List.length_set]; exact hj) (by omega) (by rw [List.getElem_set_self]; subst hx2; rfl)
  rw [Nat.add_zero] at e1
  rw [e1, e2, e3, List.set_set, List.set_set] at h3
  unfold RowF
  rw [List.length_set]
  exact h3

theorem infoField : (Tryz.prog.info? 49).map (fun i => (i.zero, i.size, i.bytes)) = some (some (.agg #[.string ⟨#[]⟩, .bool false, .slice none 0 0]), 3, 48) := by kernel_rfl
theorem tri_cells {w : World} {b o : Nat} {R : List Cel} (hc : ∀ i (h : i < R.length), Tri w b (o + i * 3) R[i]) : ∀ j u, (R.flatMap fc)[j]? = some u → w.cell? ⟨b, o + j, none⟩ = some u := by
  intro j u hu
  have hj : j < R.length * 3 := by
    have := (List.getElem?_eq_some_iff.1 hu).1
    rw [fc_length] at this; exact this
  obtain ⟨i, hi⟩ : ∃ i, j = i * 3 ∨ j = i * 3 + 1 ∨ j = i * 3 + 2 := ⟨j / 3, by omega⟩
  have hil : i < R.length := by omega
  obtain ⟨c1, c2, c3⟩ := hc i hil
  obtain ⟨e1, e2, e3⟩ := fc_get R i hil
  rcases hi with rfl | rfl | rfl
  · rw [e1] at hu; rw [← hu]; exact c1
  · rw [e2] at hu; rw [← hu, ← Nat.add_assoc]; exact c2
  · rw [e3] at hu; rw [← hu, ← Nat.add_assoc]; exact c3

set_option maxHeartbeats 1000000 in
theorem cloneF_any (w : World) (v : Value) (R : List Cel) (h : RsAt w v R) (hn : R.length ≤ 1048576) :
    Calls Tryz.prog 58 #[v] w fun e w' => ∃ v', e = .returned v' ∧ RowF w.heap.size w' v' R ∧ Below w.heap.size w w' := by
  obtain ⟨i0, hi, hz0, hz1, hz2⟩ := info_parts infoField
  obtain ⟨h0, a, cap, rfl, g⟩ := h
  clear h0
  cases a with
  | none =>
    rcases g with rfl | ⟨b, o, e, _⟩
    · have hnil : ∀ W, (binOp .eql 28 (.slice none 0 cap) (.slice none 0 0)).run Tryz.prog W = .ok (.bool true) W := fun W => Lib.run_eql_slice_nil_nil W _ _ Tryz.underlying28
      go_enter Tryz.func58, Tryz.ntmps58
      go_wp2
      go_ret
      exact ⟨_, rfl, RowF.nil _ _, Below.refl _ _⟩
    · cases e
  | some ad =>
    have hc : ∀ j u, (R.flatMap fc)[j]? = some u → (w.alloc (.cells #[] 49)).cell? (ad.add j) = some u := by
      intro j u hu
      rcases g with rfl | ⟨b, o, e, hlt, _, hcs⟩
      · simp at hu
      · cases e
        rw [add_at, World.cell?_alloc_lt _ _ _ (by exact hlt)]
        exact tri_cells hcs j u hu
    clear g
    have hrow := World.ownsRow_lit (base := w.heap.size) (e := 49) (size := 3) w #[] 0 (Nat.le_refl _) (by simp [maxLen]) (by simp)
    have hnil : ∀ W, (binOp .eql 28 (.slice (some ad) R.length cap) (.slice none 0 0)).run Tryz.prog W = .ok (.bool false) W := fun W => Lib.run_eql_slice_some_nil W _ _ _ Tryz.underlying28
    go_enter Tryz.func58, Tryz.ntmps58
    go_wp2_with (at_builtin; refine wpList_append_own _ rfl _ _ 28 rfl w.heap.size 49 i0 (.agg #[.string ⟨#[]⟩, .bool false, .slice none 0 0]) 3 48 Tryz.underlying28 hi hz0 hz1 hz2 rfl (by decide) (.slice (some ⟨w.heap.size, 0, none⟩) 0 0) 0 [] rfl hrow ad R.length cap (R.flatMap fc) rfl (fc_length R) hc (fc_one R) (by unfold maxLen; omega) (by omega) (by simp) ?_; intro v' w' hown hgrow _)
    rw [Nat.zero_add, List.nil_append] at hown
    obtain ⟨q, m, rfl⟩ : ∃ q m, v' = .slice q R.length m := by
      rcases owns_form3 hown with ⟨rfl, h0⟩ | ⟨g, cap, rfl⟩
      · rw [h0]; exact ⟨_, _, rfl⟩
      · exact ⟨_, _, rfl⟩
    go_wp2
    go_ret
    exact ⟨_, rfl, hown, ((Below.refl _ w).alloc (Nat.le_refl _) _).grown hgrow (by simp) (fun k e => by simp [Value.ownBlock] at e; omega)⟩

/-! slices.SortFunc -/
def cfF (x y : Cel) : Int := cmpN x.f.nm y.f.nm
theorem lt_cfF (x y : Cel) : ltOf cfF x y = M.ltN x.f.nm y.f.nm := by
  unfold ltOf cfF
  rw [Bool.eq_iff_iff, decide_eq_true_iff, cmpN_lt]
theorem swoF : SWO (ltOf cfF) where
  irrefl x := by rw [lt_cfF]; exact M.ltN_irrefl _
  trans x y z h1 h2 := by rw [lt_cfF] at *; exact M.ltN_trans h1 h2
  ntrans x y z h1 h2 := by rw [lt_cfF] at *; exact M.ltN_nle h2 h1
theorem flatF_get (l : List Cel) (i : Nat) (h : i < l.length) : (flatK fc 3 l.toArray)[i * 3]! = .string l[i].f.nm ∧ (flatK fc 3 l.toArray)[i * 3 + 1]! = .bool l[i].f.su ∧ (flatK fc 3 l.toArray)[i * 3 + 2]! = .slice l[i].a l[i].f.vs.length l[i].c := by
  have h1 : i * 3 < l.toArray.size * 3 := by simp; omega
  have h2 : i * 3 + 1 < l.toArray.size * 3 := by simp; omega
  have h3 : i * 3 + 2 < l.toArray.size * 3 := by simp; omega
  rw [get_flatK _ _ _ _ h1, get_flatK _ _ _ _ h2, get_flatK _ _ _ _ h3, show i * 3 / 3 = i by omega, show i * 3 % 3 = 0 by omega, show (i * 3 + 1) / 3 = i by omega, show (i * 3 + 1) % 3 = 1 by omega, show (i * 3 + 2) / 3 = i by omega, show (i * 3 + 2) % 3 = 2 by omega]
  have e : l.toArray[i]! = l[i] := by simp [h]
  rw [e]
  exact ⟨rfl, rfl, rfl⟩
theorem cmpLaysF (blk off size : Nat) (w : World) : CmpLays Tryz.prog 79 #[] fc 3 cfF blk off size w :=
  fun _ _ _ _ x y => byName_any x y _
theorem RowF.holds {base : Nat} {w : World} {g n cap : Nat} {R : List Cel} (h : RowF base w (.slice (some ⟨g, 0, none⟩) n cap) R) : HoldsK fc 3 w g 0 R.toArray := by
  obtain ⟨ht, _, _, _, _, hf⟩ := h.tri
  intro j hj
  have hj' : j < R.length * 3 := by simpa using hj
  refine ⟨?_, hf _⟩
  rw [Nat.zero_add]
  obtain ⟨i, hi⟩ : ∃ i, j = i * 3 ∨ j = i * 3 + 1 ∨ j = i * 3 + 2 := ⟨j / 3, by omega⟩
  have hil : i < R.length := by omega
  obtain ⟨c1, c2, c3⟩ := ht i hil
  obtain ⟨e1, e2, e3⟩ := flatF_get R i hil
  rcases hi with rfl | rfl | rfl
  · rw [e1]; exact c1
  · rw [e2]; exact c2
  · rw [e3]; exact c3
theorem row_sorted {base : Nat} {w : World} {g cap n : Nat} {R d : List Cel} {os : Array Obj} (h : RowF base w (.slice (some ⟨g, 0, none⟩) R.length cap) R) (hd : d.length = R.length) :
    RowF base (sortWorldK fc 3 w g 0 n d.toArray os) (.slice (some ⟨g, 0, none⟩) R.length cap) d ∧ w.grownBy (sortWorldK fc 3 w g 0 n d.toArray os) (some g) := by
  rcases h.2 with ⟨hv, _⟩ | ⟨g', cap', cur, hv, hb, h1, h2, h3, h4, h5⟩
  · cases hv
  simp only [Value.slice.injEq, Option.some.injEq, Addr.mk.injEq, and_true, true_and] at hv
  obtain ⟨rfl, rfl⟩ := hv
  have hg : g < w.heap.size := (Array.getElem?_eq_some_iff.1 h1).1
  have hz : (putRowK fc 3 (Sort.ahead w n) g 0 d.toArray).heap.size = w.heap.size := by simp [putRowK, putRow, mapBlock, Sort.ahead]
  have hold : ∀ k, k < w.heap.size → (sortWorldK fc 3 w g 0 n d.toArray os).heap[k]? = (putRowK fc 3 (Sort.ahead w n) g 0 d.toArray).heap[k]? := fun k hk => heap_grow_old _ _ (by rw [hz]; exact hk)
  have hmod : ∀ k, (putRowK fc 3 (Sort.ahead w n) g 0 d.toArray).heap[k]? = if g = k then (w.heap[k]?).map (onCells (putCells id 0 (flatK fc 3 d.toArray))) else w.heap[k]? := fun k => by
    show (w.heap.modify g _)[k]? = _
    rw [Array.getElem?_modify]
  refine ⟨⟨by rw [fc_length, hd], .inr ⟨g, cap, putCells id 0 (flatK fc 3 d.toArray) cur, by rw [hd], hb, ?_, by omega, h3, by simp [putCells, h4], ?_⟩⟩, rfl, rfl, rfl, ?_, fun k hk hne => ?_⟩
  · rw [hold g hg, hmod g, if_pos rfl, h1]; rfl
  · have hs : (flatK fc 3 d.toArray).size = d.length * 3 := by simp
    apply List.ext_getElem?
    intro p
    rw [List.getElem?_take]
    by_cases hp : p < d.length * 3
    · rw [if_pos hp]
      obtain ⟨i, hi⟩ : ∃ i, p = i * 3 ∨ p = i * 3 + 1 ∨ p = i * 3 + 2 := ⟨p / 3, by omega⟩
      have hil : i < d.length := by omega
      obtain ⟨e1, e2, e3⟩ := flatF_get d i hil
      obtain ⟨k1, k2, k3⟩ := fc_get d i hil
      have hpc : p < cur.size := by omega
      unfold putCells
      rw [Array.getElem?_toList, Array.getElem?_mapIdx, Array.getElem?_eq_getElem hpc, Option.map_some, if_pos ⟨Nat.zero_le _, by omega⟩, Nat.sub_zero]
      rcases hi with rfl | rfl | rfl
      · rw [k1, e1]; rfl
      · rw [k2, e2]; rfl
      · rw [k3, e3]; rfl
    · rw [if_neg hp, List.getElem?_eq_none (by rw [fc_length]; omega)]
  · show w.heap.size ≤ (Sort.grow _ os).heap.size
    rw [size_grow, hz]; omega
  · rw [hold k hk, hmod k, if_neg (fun e => hne (by rw [e]))]

theorem sortF_any (w : World) (base g cap : Nat) (R : List Cel) (h : RowF base w (.slice (some ⟨g, 0, none⟩) R.length cap) R) (hn : R.length ≤ 1048576) :
    Calls Tryz.prog 78 #[.slice (some ⟨g, 0, none⟩) R.length cap, fnByName] w fun e w' => e = .returned (.tuple #[]) ∧ ∃ d : List Cel, d.Perm R ∧ M.SteadyF (fldOf d) ∧ RowF base w' (.slice (some ⟨g, 0, none⟩) R.length cap) d ∧ w.grownBy w' (some g) := by
  have hg : g < w.heap.size := h.tri.2.1
  have hcon := AnyQ.slices_SortFunc Tryz.sortF 3 Tryz.isAgg49 Tryz.sizeOf49 fc (fun _ => rfl) (fun x v hv => by simp [fc] at hv; rcases hv with rfl | rfl | rfl <;> rfl) cfF swoF 79 #[] g 0 cap R.toArray w enters_byName (cmpLaysF g 0 _ w) h.holds hg (by simp; omega)
  refine Calls.mono hcon ?_
  rintro e w' ⟨he, d, n, os, hp, hs, hw⟩
  have hsz : d.size = R.length := by simpa using hp.1
  have hperm : d.toList.Perm R := by
    have := hp.2.2
    have e1 : d.extract 0 R.toArray.size = d := by rw [← hp.1]; exact Array.extract_size
    have e2 : R.toArray.extract 0 R.toArray.size = R.toArray := Array.extract_size
    rw [e1, e2] at this
    simpa using this
  obtain ⟨r1, r2⟩ := row_sorted (n := n) (os := os) h (d := d.toList) (by simpa using hsz)
  simp only [Array.toArray_toList] at r1 r2
  refine ⟨he, d.toList, hperm, ?_, by rw [hw]; exact r1, by rw [hw]; exact r2⟩
  unfold M.SteadyF fldOf
  rw [List.pairwise_map, List.pairwise_iff_getElem]
  intro i j hi hj hij
  have := hs i j (Nat.zero_le _) hij (by simp at hj ⊢; omega)
  rw [lt_cfF] at this
  simp at hi hj
  rw [getElem!_pos d i (by omega), getElem!_pos d j (by omega)] at this
  simpa using this
end Go.Proofs.YtbaaeobdjiglgaaGreat
