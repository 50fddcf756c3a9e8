/-
  The walks of the two closures that write into a field: object.Strong's and object.Weak's. Conditions: lists of at most 100000 atoms.
-/
import Derived.Test.YtbaaeobdjiglgaaGreatS13
set_option linter.unusedVariables false
set_option linter.unusedSimpArgs false
namespace Go.Proofs.YtbaaeobdjiglgaaGreat
open Go.RowKit Go.Sort

theorem bel_grown {w w' : World} {g : Nat} (h : Below w.heap.size w w') : w.grownBy w' (some g) := ⟨h.os, h.tape, h.output, h.size, fun k hk _ => h.block k hk⟩
theorem grown_bel {w w1 w2 : World} {g : Nat} (h : w.grownBy w1 (some g)) (hb : Below w1.heap.size w1 w2) : w.grownBy w2 (some g) :=
  ⟨hb.os.trans h.os, hb.tape.trans h.tape, hb.output.trans h.output, Nat.le_trans h.size hb.size, fun k hk hne => (hb.block k (Nat.lt_of_lt_of_le hk h.size)).trans (h.block k hk hne)⟩
/-- a field of a row is another one now: all have their atoms still -/
theorem ones_set {w : World} {g p : Nat} {R : List Cel} {x0 x1 : Cel} (hp : p < R.length) (h : ∀ x ∈ R, OneAt w x) (h1 : AtAt w (.slice x1.a x1.f.vs.length x1.c) x1.f.vs) (hc : w.cell? ⟨g, p * 3 + 2, none⟩ = some (.slice x0.a x0.f.vs.length x0.c)) {u : Value} :
    ∀ x ∈ R.set p x1, OneAt (w.setCell ⟨g, p * 3 + 2, none⟩ u) x := fun x hx => by
  rcases List.mem_or_eq_of_mem_set hx with hx | rfl
  · exact AtAt.setn (h x hx) hc (noInt_v _ _ _)
  · exact AtAt.setn h1 hc (noInt_v _ _ _)
end Go.Proofs.YtbaaeobdjiglgaaGreat
