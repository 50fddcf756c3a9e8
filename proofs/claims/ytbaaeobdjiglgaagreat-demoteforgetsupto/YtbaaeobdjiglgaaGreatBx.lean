/-
  A variable of the call's own, as a block: it stays, is written, and leaves shapes that lie elsewhere as they are. No conditions.
-/
import Derived.Test.YtbaaeobdjiglgaaGreatS12
set_option linter.unusedVariables false
set_option linter.unusedSimpArgs false
namespace Go.Proofs.YtbaaeobdjiglgaaGreat
open Go.RowKit Go.Sort

theorem bx_bel {w w' : World} {g : Nat} {o : Obj} (h : w.heap[g]? = some o) (hb : Below w.heap.size w w') : w'.heap[g]? = some o := kept h (Array.getElem?_eq_some_iff.1 h).1 hb
theorem bx_bel0 {w w' : World} {g : Nat} {o : Obj} (h : w.heap[g]? = some o) (hb : Below w.heap.size w w') : w'.heap[g]? = some o := kept h (Array.getElem?_eq_some_iff.1 h).1 hb
theorem box_put {w : World} {g p : Nat} {T : TypeId} {cs : Array Value} (h : w.heap[g]? = some (.cells cs T (0, 0))) (u : Value) :
    (w.setCell ⟨g, p, none⟩ u).heap[g]? = some (.cells (cs.setIfInBounds p u) T (0, 0)) := by
  show (w.heap.modify g _)[g]? = _
  rw [Array.getElem?_modify, if_pos rfl, h]
  rfl
theorem box_set3 {w : World} {g : Nat} {T : TypeId} {x0 x1 x2 : Value} (h : w.heap[g]? = some (.cells #[x0, x1, x2] T (0, 0))) (u0 u1 u2 : Value) :
    (((w.setCell ⟨g, 0, none⟩ u0).setCell ⟨g, 1, none⟩ u1).setCell ⟨g, 2, none⟩ u2).heap[g]? = some (.cells #[u0, u1, u2] T (0, 0)) := box_put (box_put (box_put h u0) u1) u2
theorem get_len0 {K : Nat} {s : M.Shp} {n : ByteArray} {x : M.Fld} (h : M.Sm K s) (hx : x = (M.getF s.fs n).getD zeroF) : x.vs.length ≤ K := by
  rw [hx]
  cases hg : M.getF s.fs n with
  | none => exact Nat.zero_le _
  | some f => exact h.2.1 f (M.getF_mem hg)
theorem box_set1 {w : World} {g p : Nat} {T : TypeId} {cs : Array Value} (h : w.heap[g]? = some (.cells cs T (0, 0))) (u : Value) :
    (w.setCell ⟨g, p, none⟩ u).heap[g]? = some (.cells (cs.setIfInBounds p u) T (0, 0)) := by
  show (w.heap.modify g _)[g]? = _
  rw [Array.getElem?_modify, if_pos rfl, h]
  rfl
/-- the two places of a block of two, written over -/
theorem box_set2 {w : World} {g : Nat} {T : TypeId} {x0 x1 : Value} (h : w.heap[g]? = some (.cells #[x0, x1] T (0, 0))) (u0 u1 : Value) :
    ((w.setCell ⟨g, 0, none⟩ u0).setCell ⟨g, 1, none⟩ u1).heap[g]? = some (.cells #[u0, u1] T (0, 0)) := box_set1 (box_set1 h u0) u1
theorem box_off {w : World} {g b : Nat} (h : b ≠ g) (u0 u1 : Value) : ((w.setCell ⟨g, 0, none⟩ u0).setCell ⟨g, 1, none⟩ u1).heap[b]? = w.heap[b]? := by
  rw [set_blk _ _ _ _ _ h, set_blk _ _ _ _ _ h]
/-- stores over a box of two slices leave a shape as it is: its fields' names lie elsewhere -/
theorem ShAt.off2 {w : World} {v : Value} {s : M.Shp} {g : Nat} {T : TypeId} {a0 a1 : Option Addr} {n0 n1 c0 c1 : Nat} (h : ShAt w v s) (hz : w.heap[g]? = some (.cells #[.slice a0 n0 c0, .slice a1 n1 c1] T (0, 0))) (u0 u1 : Value) :
    ShAt ((w.setCell ⟨g, 0, none⟩ u0).setCell ⟨g, 1, none⟩ u1) v s := by
  obtain ⟨z0, z1, _⟩ := cells2 hz
  have keep : ∀ (v : Value) (l : List M.Atm), AtAt w v l → AtAt ((w.setCell ⟨g, 0, none⟩ u0).setCell ⟨g, 1, none⟩ u1) v l := fun v l h =>
    (h.setn z0 (noInt_v _ _ _)).setn (cell_set_ne z1 (by omega)) (noInt_v _ _ _)
  obtain ⟨vf, vp, rfl, ⟨R, hR, h0, a, cap, rfl, h1⟩, hp⟩ := h
  refine ⟨_, _, rfl, ⟨R, hR, fun x hx => keep _ _ (h0 x hx), a, cap, rfl, ?_⟩, keep _ _ hp⟩
  rcases h1 with h1 | ⟨b, o, rfl, hlt, hr, hc⟩
  · exact .inl h1
  · refine .inr ⟨b, o, rfl, by simpa [World.setCell] using hlt, hr, fun i hi => ?_⟩
    have hne : b ≠ g := fun e => by
      subst e
      have t := (hc i hi).1
      rw [Lib.cell_of_heap hz] at t
      match hq : o + i * 3 with
      | 0 => rw [hq] at t; simp at t
      | 1 => rw [hq] at t; simp at t
      | n + 2 => rw [hq] at t; simp at t
    have m : ∀ q, ((w.setCell ⟨g, 0, none⟩ u0).setCell ⟨g, 1, none⟩ u1).cell? ⟨b, q, none⟩ = w.cell? ⟨b, q, none⟩ := fun q => by
      rw [World.cell?_setCell_other _ _ _ _ (fun e => hne (Addr.mk.inj e).1.symm), World.cell?_setCell_other _ _ _ _ (fun e => hne (Addr.mk.inj e).1.symm)]
    obtain ⟨t1, t2, t3⟩ := hc i hi
    exact ⟨by rw [m]; exact t1, by rw [m]; exact t2, by rw [m]; exact t3⟩
end Go.Proofs.YtbaaeobdjiglgaaGreat
