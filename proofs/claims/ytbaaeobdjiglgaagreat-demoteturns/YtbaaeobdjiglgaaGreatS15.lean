/-
  The walk of object.written with the closures of Strong and Weak, and of object.Strong and Weak. Conditions: shapes of at most 100000 fields of as many atoms.
-/
import Derived.Test.YtbaaeobdjiglgaaGreatSJ
set_option linter.unusedVariables false
set_option linter.unusedSimpArgs false
namespace Go.Proofs.YtbaaeobdjiglgaaGreat
open Go.RowKit Go.Sort
theorem set3' {B : Nat} {w W : World} {g p : Nat} (h : Below B w W) (hg : B ≤ g) (u v x : Value) : Below B w (((W.setCell ⟨g, p, none⟩ u).setCell ⟨g, p + 1, none⟩ v).setCell ⟨g, p + 2, none⟩ x) :=
  ((h.setCell (p := ⟨g, p, none⟩) hg u).setCell (p := ⟨g, p + 1, none⟩) hg v).setCell (p := ⟨g, p + 2, none⟩) hg x
namespace M
theorem set_withF {f : Fld} : ∀ {l : List Fld} {p : Nat}, RisF l → (hp : p < l.length) → l[p].nm = f.nm → l.set p f = withF f l
  | [], p, _, hp, _ => absurd hp (by simp)
  | y :: r, 0, _, _, e => by
    have e' : y.nm = f.nm := e
    unfold withF
    rw [if_pos e'.symm]; rfl
  | y :: r, p + 1, h, hp, e => by
    have a := List.pairwise_cons.1 h
    have hp' : p < r.length := by simpa using hp
    have e' : r[p].nm = f.nm := e
    have hl : ltN y.nm f.nm = true := by rw [← e']; exact a.1 _ (List.getElem_mem hp')
    unfold withF
    rw [if_neg (fun h => ltN_ne hl h.symm), if_neg (by rw [ltN_asymm hl]; simp), List.set_cons_succ, set_withF a.2 hp' e']
theorem ins_withF {f : Fld} : ∀ {l : List Fld} {p : Nat}, RisF l → p ≤ l.length → (∀ i (h : i < l.length), i < p → ltN l[i].nm f.nm = true) → (∀ i (h : i < l.length), p ≤ i → ltN f.nm l[i].nm = true) → l.take p ++ f :: l.drop p = withF f l
  | [], 0, _, _, _, _ => rfl
  | [], p + 1, _, hp, _, _ => absurd hp (by simp)
  | y :: r, 0, _, _, _, h2 => by
    have hl : ltN f.nm y.nm = true := h2 0 (by simp) (Nat.le_refl _)
    unfold withF
    rw [if_neg (ltN_ne hl), if_pos hl]; rfl
  | y :: r, p + 1, h, hp, h1, h2 => by
    have a := List.pairwise_cons.1 h
    have hl : ltN y.nm f.nm = true := h1 0 (by simp) (by omega)
    unfold withF
    rw [if_neg (fun h => ltN_ne hl h.symm), if_neg (by rw [ltN_asymm hl]; simp), List.take_succ_cons, List.drop_succ_cons, List.cons_append, ins_withF a.2 (by simpa using hp) (fun i hi hip => h1 (i + 1) (by simpa using hi) (by omega)) (fun i hi hip => h2 (i + 1) (by simpa using hi) (by omega))]
end M
theorem fldOf_set {R : List Cel} {p : Nat} {x : Cel} : fldOf (R.set p x) = (fldOf R).set p x.f := by simp [fldOf, List.map_set]
/-- what is behind g among the first j -/
def Fr (g : Nat) (R : List Cel) (j : Nat) : Prop := ∀ i (h : i < R.length), i < j → ∀ b o s, R[i].a = some ⟨b, o, s⟩ → g < b
theorem fr_set {g : Nat} {R : List Cel} {j : Nat} {x : Cel} (h : Fr g R j) (hj : j < R.length) (hx : ∀ b o s, x.a = some ⟨b, o, s⟩ → g < b) : Fr g (R.set j x) (j + 1) := fun i hi hij b o s e => by
  rw [List.length_set] at hi
  rw [List.getElem_set] at e
  split at e
  · exact hx b o s e
  · exact h i hi (by omega) b o s e
/-- all of a row have their atoms still behind a store over a field -/
theorem ones_set3 {w : World} {g p : Nat} {R : List Cel} {x1 : Cel} {u0 u1 u2 x0 y0 z0 : Value} (h : ∀ x ∈ R, OneAt w x) (h1 : OneAt w x1) (c0 : w.cell? ⟨g, p, none⟩ = some x0) (c1 : w.cell? ⟨g, p + 1, none⟩ = some y0) (c2 : w.cell? ⟨g, p + 2, none⟩ = some z0) (i0 : NoInt x0) (i1 : NoInt y0) (i2 : NoInt z0) (j : Nat) :
    ∀ x ∈ R.set j x1, OneAt (((w.setCell ⟨g, p, none⟩ u0).setCell ⟨g, p + 1, none⟩ u1).setCell ⟨g, p + 2, none⟩ u2) x := fun x hx => by
  rcases List.mem_or_eq_of_mem_set hx with hx | rfl
  · exact AtAt.set3n (h x hx) c0 c1 c2 i0 i1 i2
  · exact AtAt.set3n h1 c0 c1 c2 i0 i1 i2

end Go.Proofs.YtbaaeobdjiglgaaGreat
