/-
  The walks of object.copied, object.Get and the document's Get. Conditions: shapes of at most 100000 fields of as many atoms.
-/
import Derived.Test.YtbaaeobdjiglgaaGreatS5
set_option linter.unusedVariables false
set_option linter.unusedSimpArgs false
namespace Go.Proofs.YtbaaeobdjiglgaaGreat
open Go.RowKit Go.Sort

/-- atoms whose block is as it was -/
theorem AtAt.blk {w w' : World} {a : Option Addr} {n c : Nat} {l : List M.Atm} (h : AtAt w (.slice a n c) l) (hk : ∀ b o s, a = some ⟨b, o, s⟩ → w'.heap[b]? = w.heap[b]?) : AtAt w' (.slice a n c) l := by
  obtain ⟨h0, a', cap, e, h1⟩ := h
  simp only [Value.slice.injEq] at e
  obtain ⟨rfl, rfl, rfl⟩ := e
  refine ⟨h0, a, c, rfl, ?_⟩
  rcases h1 with h1 | ⟨b, o, rfl, hlt, hr, hc⟩
  · exact .inl h1
  · have hb := hk b o none rfl
    refine .inr ⟨b, o, rfl, ?_, hr, fun i hi => ?_⟩
    · rw [Array.getElem?_eq_getElem hlt] at hb
      exact (Array.getElem?_eq_some_iff.1 hb).1
    · rw [World.cell?_of_block (w := w) (a := ⟨b, o + i * 2, none⟩) hb, World.cell?_of_block (w := w) (a := ⟨b, o + i * 2 + 1, none⟩) hb]
      exact hc i hi
theorem set_blk (w : World) (g p : Nat) (u : Value) (b : Nat) (h : b ≠ g) : (w.setCell ⟨g, p, none⟩ u).heap[b]? = w.heap[b]? := Below.heap_setCell _ _ _ _ (fun e => h e)
theorem AtAt.set {w : World} {a : Option Addr} {n c g p : Nat} {u : Value} {l : List M.Atm} (h : AtAt w (.slice a n c) l) (hk : ∀ b o s, a = some ⟨b, o, s⟩ → b ≠ g) : AtAt (w.setCell ⟨g, p, none⟩ u) (.slice a n c) l :=
  h.blk fun b o s e => set_blk w g p u b (hk b o s e)
theorem row_off {base : Nat} {w : World} {a : Option Addr} {n c : Nat} {l : List M.Atm} (h : RowA base w (.slice a n c) l) : ∀ b o s, a = some ⟨b, o, s⟩ → base ≤ b := by
  rintro b o s rfl
  rcases h.2 with ⟨e, _⟩ | ⟨g, cap, cur, e, hb, _⟩
  · cases e
  · simp only [Value.slice.injEq, Option.some.injEq, Addr.mk.injEq] at e
    rw [e.1.1]; exact hb

set_option maxHeartbeats 1000000 in
theorem copied_any (w : World) (x : Cel) (h : OneAt w x) (hn : x.f.vs.length ≤ 1048576) :
    Calls Tryz.prog 77 #[fv x] w fun e w' => ∃ x' : Cel, e = .returned (fv x') ∧ x'.f = x.f ∧ OneAt w' x' ∧ (∀ b o s, x'.a = some ⟨b, o, s⟩ → w.heap.size + 2 ≤ b) ∧ Below w.heap.size w w' := by
  have HI : Hid (∀ y ∈ x.f.vs, InR y.n) := h.1
  obtain ⟨W, hW⟩ : ∃ W, (w.alloc (.cells #[.string x.f.nm, .bool x.f.su, .slice x.a x.f.vs.length x.c] 49)).alloc (.cells #[.string ⟨#[]⟩, .bool false, .slice none 0 0] 49) = W := ⟨_, rfl⟩
  have hb1 := (gr_new w (.cells #[.string x.f.nm, .bool x.f.su, .slice x.a x.f.vs.length x.c] 49)).below
  have hb2 := (gr_new (w.alloc (.cells #[.string x.f.nm, .bool x.f.su, .slice x.a x.f.vs.length x.c] 49)) (.cells #[.string ⟨#[]⟩, .bool false, .slice none 0 0] 49)).below
  have p1 := kept (new_at w (.cells #[.string x.f.nm, .bool x.f.su, .slice x.a x.f.vs.length x.c] 49)) (by simp) hb2
  have p2 := new_at (w.alloc (.cells #[.string x.f.nm, .bool x.f.su, .slice x.a x.f.vs.length x.c] 49)) (.cells #[.string ⟨#[]⟩, .bool false, .slice none 0 0] 49)
  rw [World.size_alloc] at p2
  have hz : W.heap.size = w.heap.size + 2 := by rw [← hW]; simp
  have hB : Below w.heap.size w W := by rw [← hW]; exact hb1.trans (hb2.mono hb1.size)
  have hA : AtAt W (.slice x.a x.f.vs.length x.c) x.f.vs := h.bel hB
  rw [hW] at p1 p2
  have K := hid (clone_any W _ x.f.vs hA hn)
  have HB := hid hB
  have HZ := hid hz
  have P1 := hid p1
  have P2 := hid p2
  obtain ⟨c1, c2, c3, cf⟩ := cells3 p1
  clear h hb1 hb2 hB hA hz p1 p2
  unfold fv
  go_enter Tryz.func77, Tryz.ntmps77
  go_wp2_with (go_at_call 75; refine stopHere ?_)
  refine stopAt ?_
  refine K.out.mono ?_
  rintro e w3 ⟨v3, rfl, hown, hb3⟩
  clear hW c1 c2 c3 cf
  have hrow : RowA W.heap.size w3 v3 x.f.vs := hown
  have hat := hid (hrow.at HI.out)
  obtain ⟨q, m, rfl⟩ := hrow.form
  have hoff := hid (row_off hrow)
  have hwz : w.heap.size < W.heap.size := by have := HZ.out; omega
  have hwz2 : w.heap.size + 1 < W.heap.size := by have := HZ.out; omega
  obtain ⟨c1, c2, c3, cf⟩ := cells3 (kept P1.out hwz hb3)
  obtain ⟨d1, d2, d3, df⟩ := cells3 (kept P2.out hwz2 hb3)
  have HBB := hid (HB.out.trans (hb3.mono HB.out.size))
  clear hrow hown hb3
  go_wp2
  refine bodyPost_ret (v := fv ⟨x.f, q, m⟩) (by unfold fv; simp [results, Tryz.results77, go_sem, c1, c2, c3, d1, d2, d3]) rfl ?_
  refine ⟨⟨x.f, q, m⟩, rfl, rfl, ?_, fun b o s e => ?_, ?_⟩
  · have off : ∀ b o s, q = some ⟨b, o, s⟩ → b ≠ w.heap.size ∧ b ≠ w.heap.size + 1 := fun b o s e => by
      have := hoff.out b o s e
      have := HZ.out
      omega
    exact (((hat.out.set fun b o s e => (off b o s e).1).set fun b o s e => (off b o s e).2).set fun b o s e => (off b o s e).2).set fun b o s e => (off b o s e).2
  · have := hoff.out b o s e
    have := HZ.out
    omega
  · have := HBB.out.setCell (p := ⟨w.heap.size, 2, none⟩) (Nat.le_refl _) (.slice q x.f.vs.length m)
    exact set3 this (Nat.le_succ _) _ _ _

/-- what is found of a name among the first j -/
def Seen (l : List M.Fld) (n : ByteArray) (j : Nat) : Prop := ∀ i (h : i < l.length), i < j → l[i].nm ≠ n
theorem seen_hit {l : List M.Fld} {n : ByteArray} {j : Nat} (h : Seen l n j) (hj : j < l.length) (e : l[j].nm = n) : M.getF l n = some l[j] := by
  induction l generalizing j with
  | nil => simp at hj
  | cons x r ih =>
    rw [M.getF_cons]
    cases j with
    | zero =>
      have e' : x.nm = n := e
      rw [if_pos e']; rfl
    | succ k =>
      have h0 : ¬ x.nm = n := h 0 (by simp) (by omega)
      rw [if_neg h0]
      exact ih (fun i hi hk => h (i + 1) (by simpa using hi) (by omega)) (by simpa using hj) e
theorem seen_end {l : List M.Fld} {n : ByteArray} {j : Nat} (h : Seen l n j) (hj : l.length ≤ j) : M.getF l n = none := by
  rw [M.getF_none]
  intro f hf
  obtain ⟨i, hi, rfl⟩ := List.getElem_of_mem hf
  exact h i hi (by omega)
theorem seen_step {R : List Cel} {n : ByteArray} {j : Nat} {x : Cel} (h : Seen (fldOf R) n j) (hj : j < R.length) (hx : R[j] = x) (e : x.f.nm ≠ n) : Seen (fldOf R) n (j + 1) := fun i hi hij => by
  rcases Nat.lt_succ_iff_lt_or_eq.1 hij with h' | rfl
  · exact h i hi h'
  · simp only [fldOf, List.getElem_map]; rw [hx]; exact e
theorem seen_hitR {R : List Cel} {n : ByteArray} {j : Nat} {x : Cel} (h : Seen (fldOf R) n j) (hj : j < R.length) (hx : R[j] = x) (e : x.f.nm = n) : M.getF (fldOf R) n = some x.f := by
  have := seen_hit h (by rw [fldOf_len]; exact hj) (by simp only [fldOf, List.getElem_map]; rw [hx]; exact e)
  rw [this]
  simp only [fldOf, List.getElem_map]; rw [hx]

end Go.Proofs.YtbaaeobdjiglgaaGreat
