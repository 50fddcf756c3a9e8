/-
  The walk of object.find. Conditions: fields that rise, at most 2^20 of them.
-/
import Derived.Test.YtbaaeobdjiglgaaGreatS3
set_option linter.unusedVariables false
set_option linter.unusedSimpArgs false
namespace Go.Proofs.YtbaaeobdjiglgaaGreat
open Go.RowKit Go.Sort
def zeroF : M.Fld := ⟨⟨#[]⟩, false, []⟩
theorem suO_getD (o : Option M.Fld) : (o.getD zeroF).su = M.suO o := by cases o <;> rfl
theorem vsO_getD (o : Option M.Fld) : (o.getD zeroF).vs = M.vsO o := by cases o <;> rfl
theorem gr_new (w : World) (o : Obj) : Gr w (w.alloc o) := (Gr.refl w).alloc o
/-- the cells of a field, and of a shape, that is none -/
def zf : Obj := .cells #[.string ⟨#[]⟩, .bool false, .slice none 0 0] 49
/-- three cells of a block of one's own -/
theorem cells3 {w : World} {g : Nat} {T : TypeId} {v0 v1 v2 : Value} (h : w.heap[g]? = some (.cells #[v0, v1, v2] T (0, 0))) :
    w.cell? ⟨g, 0, none⟩ = some v0 ∧ w.cell? ⟨g, 1, none⟩ = some v1 ∧ w.cell? ⟨g, 2, none⟩ = some v2 ∧ (∀ i, w.frozen? ⟨g, i, none⟩ = false) := by
  refine ⟨?_, ?_, ?_, fun i => Lib.frozen_of_heap h i⟩
  all_goals (rw [Lib.cell_of_heap h]; rfl)
theorem cells2 {w : World} {g : Nat} {T : TypeId} {v0 v1 : Value} (h : w.heap[g]? = some (.cells #[v0, v1] T (0, 0))) :
    w.cell? ⟨g, 0, none⟩ = some v0 ∧ w.cell? ⟨g, 1, none⟩ = some v1 ∧ (∀ i, w.frozen? ⟨g, i, none⟩ = false) := by
  refine ⟨?_, ?_, fun i => Lib.frozen_of_heap h i⟩
  all_goals (rw [Lib.cell_of_heap h]; rfl)
theorem kept {w w' : World} {g B : Nat} {o : Obj} (h : w.heap[g]? = some o) (hB : g < B) (hb : Below B w w') : w'.heap[g]? = some o := by rw [hb.block g hB]; exact h
theorem new_at (w : World) (o : Obj) : (w.alloc o).heap[w.heap.size]? = some o := heap_alloc_new w o
theorem set3 {w W : World} {g : Nat} (h : Below w.heap.size w W) (hg : w.heap.size ≤ g) (u v x : Value) : Below w.heap.size w (((W.setCell ⟨g, 0, none⟩ u).setCell ⟨g, 1, none⟩ v).setCell ⟨g, 2, none⟩ x) :=
  ((h.setCell (p := ⟨g, 0, none⟩) hg u).setCell (p := ⟨g, 1, none⟩) hg v).setCell (p := ⟨g, 2, none⟩) hg x
set_option maxHeartbeats 1000000 in
theorem find_any (w : World) (v : Value) (R : List Cel) (n : ByteArray) (h : RsAt w v R) (hn : R.length ≤ 1048576) (hs : M.RisF (fldOf R)) :
    Calls Tryz.prog 76 #[v, .string n] w fun e w' => ∃ x : Cel, e = .returned (.tuple #[fv x, .bool (M.getF (fldOf R) n).isSome]) ∧ x.f = (M.getF (fldOf R) n).getD zeroF ∧ OneAt w' x ∧ Below w.heap.size w w' := by
  have TW := hid h
  have T := hid (h.bel (gr_new w zf).below)
  have G0 := hid (gr_new w zf)
  have HS := hid hs
  have K := hid (place_any _ v R n T.out hn hs)
  obtain ⟨a, cap, rfl, _⟩ := h.open
  obtain ⟨a', cap', e, HC⟩ := T.out.open
  simp only [Value.slice.injEq, true_and] at e
  obtain ⟨rfl, rfl⟩ := e
  clear h hs
  unfold zf at *
  go_enter Tryz.func76, Tryz.ntmps76
  go_wp2_with (go_at_call 91; refine stopHere ?_)
  refine stopAt ?_
  refine K.out.mono ?_
  rintro e w1 ⟨p, th, rfl, hP, hg⟩
  have HG := hid (G0.out.trans hg)
  obtain ⟨z0, z1, z2, z3⟩ := cells3 (kept (new_at w (.cells #[.string ⟨#[]⟩, .bool false, .slice none 0 0] 49)) (by simp) hg.below)
  cases th with
  | false =>
    have HN := hid (place_none HS.out hP)
    clear hP hg
    go_wp2
    refine bodyPost_ret (v := .tuple #[.agg #[.string ⟨#[]⟩, .bool false, .slice none 0 0], .bool false]) (by simp [results, Tryz.results76, go_sem, z0, z1, z2]) rfl ?_
    rw [HN.out]
    exact ⟨⟨zeroF, none, 0⟩, rfl, rfl, AtAt.nil _, set3 HG.out.below (Nat.le_refl _) _ _ _⟩
  | true =>
    obtain ⟨hp, hget⟩ := place_get HS.out hP
    obtain ⟨b, o, rfl, hlt, hc⟩ := HC.out (by intro e; rw [e] at hp; simp at hp)
    obtain ⟨c1, c2, c3⟩ := (hc p hp).bel hlt hg.below
    have HX := hid (TW.out.1 _ (List.getElem_mem hp))
    obtain ⟨x, hx⟩ : ∃ x, R[p] = x := ⟨_, rfl⟩
    rw [hx] at c1 c2 c3 HX hget
    have HGET := hid hget
    have hpi : (p : Int) < (R.length : Int) := by omega
    clear hP hg hget hc hx
    go_wp2
    refine bodyPost_ret (v := .tuple #[fv x, .bool true]) (by unfold fv; simp [results, Tryz.results76, go_sem, z0, z1, z2]) rfl ?_
    rw [HGET.out]
    exact ⟨x, rfl, rfl, HX.out.bel (set3 HG.out.below (Nat.le_refl _) _ _ _), set3 HG.out.below (Nat.le_refl _) _ _ _⟩
end Go.Proofs.YtbaaeobdjiglgaaGreat
