/-
  Blocks of eight cells (statements), and the walks of atStatement and atArith. No conditions.
-/
import Derived.Test.YtkonkdhoakcmdaaGreatDoorR7
set_option linter.unusedVariables false
namespace Go.Proofs.YtkonkdhoakcmdaaGreatDoor
open Go.RowKit

theorem cells8 {w : World} {g : Nat} {T : TypeId} {v0 v1 v2 v3 v4 v5 v6 v7 : Value} (h : w.heap[g]? = some (.cells #[v0, v1, v2, v3, v4, v5, v6, v7] T (0, 0))) :
    w.cell? ⟨g, 0, none⟩ = some v0 ∧ w.cell? ⟨g, 1, none⟩ = some v1 ∧ w.cell? ⟨g, 2, none⟩ = some v2 ∧ w.cell? ⟨g, 3, none⟩ = some v3 ∧ w.cell? ⟨g, 4, none⟩ = some v4 ∧ w.cell? ⟨g, 5, none⟩ = some v5 ∧ w.cell? ⟨g, 6, none⟩ = some v6 ∧ w.cell? ⟨g, 7, none⟩ = some v7 ∧ (∀ i, w.frozen? ⟨g, i, none⟩ = false) ∧ g < w.heap.size := by
  refine ⟨?_, ?_, ?_, ?_, ?_, ?_, ?_, ?_, fun i => Lib.frozen_of_heap h i, (Array.getElem?_eq_some_iff.1 h).1⟩
  all_goals (rw [Lib.cell_of_heap h]; rfl)

/-- eight cells are laid -/
abbrev put8 (W : World) (g : Nat) (c0 c1 c2 c3 c4 c5 c6 c7 : Value) : World := (((((((W.setCell ⟨g, 0, none⟩ c0).setCell ⟨g, 1, none⟩ c1).setCell ⟨g, 2, none⟩ c2).setCell ⟨g, 3, none⟩ c3).setCell ⟨g, 4, none⟩ c4).setCell ⟨g, 5, none⟩ c5).setCell ⟨g, 6, none⟩ c6).setCell ⟨g, 7, none⟩ c7
theorem put8_at {W : World} {g : Nat} {T : TypeId} {v0 v1 v2 v3 v4 v5 v6 v7 : Value} (h : W.heap[g]? = some (.cells #[v0, v1, v2, v3, v4, v5, v6, v7] T (0, 0))) (c0 c1 c2 c3 c4 c5 c6 c7 : Value) : (put8 W g c0 c1 c2 c3 c4 c5 c6 c7).heap[g]? = some (.cells #[c0, c1, c2, c3, c4, c5, c6, c7] T (0, 0)) := by
  have h0 : (W.setCell ⟨g, 0, none⟩ c0).heap[g]? = some (.cells #[c0, v1, v2, v3, v4, v5, v6, v7] T (0, 0)) := heap_setCell_same _ _ _ _ _ _ h
  have h1 : ((W.setCell ⟨g, 0, none⟩ c0).setCell ⟨g, 1, none⟩ c1).heap[g]? = some (.cells #[c0, c1, v2, v3, v4, v5, v6, v7] T (0, 0)) := heap_setCell_same _ _ _ _ _ _ h0
  have h2 : (((W.setCell ⟨g, 0, none⟩ c0).setCell ⟨g, 1, none⟩ c1).setCell ⟨g, 2, none⟩ c2).heap[g]? = some (.cells #[c0, c1, c2, v3, v4, v5, v6, v7] T (0, 0)) := heap_setCell_same _ _ _ _ _ _ h1
  have h3 : ((((W.setCell ⟨g, 0, none⟩ c0).setCell ⟨g, 1, none⟩ c1).setCell ⟨g, 2, none⟩ c2).setCell ⟨g, 3, none⟩ c3).heap[g]? = some (.cells #[c0, c1, c2, c3, v4, v5, v6, v7] T (0, 0)) := heap_setCell_same _ _ _ _ _ _ h2
  have h4 : (((((W.setCell ⟨g, 0, none⟩ c0).setCell ⟨g, 1, none⟩ c1).setCell ⟨g, 2, none⟩ c2).setCell ⟨g, 3, none⟩ c3).setCell ⟨g, 4, none⟩ c4).heap[g]? = some (.cells #[c0, c1, c2, c3, c4, v5, v6, v7] T (0, 0)) := heap_setCell_same _ _ _ _ _ _ h3
  have h5 : ((((((W.setCell ⟨g, 0, none⟩ c0).setCell ⟨g, 1, none⟩ c1).setCell ⟨g, 2, none⟩ c2).setCell ⟨g, 3, none⟩ c3).setCell ⟨g, 4, none⟩ c4).setCell ⟨g, 5, none⟩ c5).heap[g]? = some (.cells #[c0, c1, c2, c3, c4, c5, v6, v7] T (0, 0)) := heap_setCell_same _ _ _ _ _ _ h4
  have h6 : (((((((W.setCell ⟨g, 0, none⟩ c0).setCell ⟨g, 1, none⟩ c1).setCell ⟨g, 2, none⟩ c2).setCell ⟨g, 3, none⟩ c3).setCell ⟨g, 4, none⟩ c4).setCell ⟨g, 5, none⟩ c5).setCell ⟨g, 6, none⟩ c6).heap[g]? = some (.cells #[c0, c1, c2, c3, c4, c5, c6, v7] T (0, 0)) := heap_setCell_same _ _ _ _ _ _ h5
  have h7 : ((((((((W.setCell ⟨g, 0, none⟩ c0).setCell ⟨g, 1, none⟩ c1).setCell ⟨g, 2, none⟩ c2).setCell ⟨g, 3, none⟩ c3).setCell ⟨g, 4, none⟩ c4).setCell ⟨g, 5, none⟩ c5).setCell ⟨g, 6, none⟩ c6).setCell ⟨g, 7, none⟩ c7).heap[g]? = some (.cells #[c0, c1, c2, c3, c4, c5, c6, c7] T (0, 0)) := heap_setCell_same _ _ _ _ _ _ h6
  exact h7
theorem put8_only {r g : Nat} {w W : World} (h : Only r w W) (hg : w.heap.size ≤ g) (c0 c1 c2 c3 c4 c5 c6 c7 : Value) : Only r w (put8 W g c0 c1 c2 c3 c4 c5 c6 c7) :=
  ((((((((h.setCell (.inr hg) _).setCell (.inr hg) _).setCell (.inr hg) _).setCell (.inr hg) _).setCell (.inr hg) _).setCell (.inr hg) _).setCell (.inr hg) _).setCell (.inr hg) _)
theorem put8_rd {r g : Nat} {W : World} {S : M.St} (h : Rd W r S) (hg : r < g) (c0 c1 c2 c3 c4 c5 c6 c7 : Value) : Rd (put8 W g c0 c1 c2 c3 c4 c5 c6 c7) r S :=
  ((((((((h.setCell hg _).setCell hg _).setCell hg _).setCell hg _).setCell hg _).setCell hg _).setCell hg _).setCell hg _)
theorem put8_keep {X : Nat → Prop} {W : World} {g : Nat} (hg : X g) (c0 c1 c2 c3 c4 c5 c6 c7 : Value) : Keep X W (put8 W g c0 c1 c2 c3 c4 c5 c6 c7) :=
  ((((((((keep_set (w := W) (p := ⟨g, 0, none⟩) hg _).trans (keep_set hg _)).trans (keep_set hg _)).trans (keep_set hg _)).trans (keep_set hg _)).trans (keep_set hg _)).trans (keep_set hg _)).trans (keep_set hg _))
theorem put8_other {W : World} {g k : Nat} (hk : k ≠ g) (c0 c1 c2 c3 c4 c5 c6 c7 : Value) : (put8 W g c0 c1 c2 c3 c4 c5 c6 c7).heap[k]? = W.heap[k]? := by
  unfold put8
  rw [Below.heap_setCell _ _ _ _ (by exact hk), Below.heap_setCell _ _ _ _ (by exact hk), Below.heap_setCell _ _ _ _ (by exact hk), Below.heap_setCell _ _ _ _ (by exact hk), Below.heap_setCell _ _ _ _ (by exact hk), Below.heap_setCell _ _ _ _ (by exact hk), Below.heap_setCell _ _ _ _ (by exact hk), Below.heap_setCell _ _ _ _ (by exact hk)]

theorem own_form {w : World} {b z n : Nat} {e : TypeId} {v : Value} {xs : List Value} (h : w.ownsRow b e z v n xs) : ∃ a c, v = .slice a n c := by
  rcases h.2 with ⟨rfl, rfl⟩ | ⟨g, cap, cur, rfl, _⟩
  · exact ⟨_, _, rfl⟩
  · exact ⟨_, _, rfl⟩
theorem SlAt.form {w : World} {X : Nat → Prop} {n : Nat} {v : Value} {xs : List Value} (h : SlAt w X v n xs) : ∃ a c, v = .slice a n c := by
  obtain ⟨_, a, c, rfl, _⟩ := h
  exact ⟨_, _, rfl⟩
theorem Ends.err {α : Type} {r : Nat} {w w' : World} {enc : α → Value → World → Prop} {res : M.Res α} {f : M.Flt} (h : res = .error f) (o : Only r w w') : Ends r w enc res (.panicked (stopOf f)) w' :=
  ⟨o, fun S a h' => (by rw [h] at h'; cases h'), fun f' h' => by rw [h] at h'; cases h'; rfl⟩
theorem Ends.ok {α : Type} {r : Nat} {w w' : World} {enc : α → Value → World → Prop} {res : M.Res α} {S : M.St} {a : α} {v : Value} (h : res = .ok (S, a)) (o : Only r w w') (hr : Rd w' r S) (he : enc a v w') : Ends r w enc res (.returned v) w' :=
  ⟨o, fun S' a' h' => by rw [h] at h'; cases h'; exact ⟨v, rfl, hr, he⟩, fun f' h' => by rw [h] at h'; cases h'⟩
theorem ret8 {α : Type} {fn : Func} {r : Nat} {w W : World} {enc : α → Value → World → Prop} {res : M.Res α} {S' : M.St} {a : α} {tm : Array Value} {v : Value} (hrun : (results fn tm).run Tryz.prog W = .ok v W) (hres : res = .ok (S', a)) (ho : Only r w W) (hr : Rd W r S') (he : enc a v W) :
    bodyPost Tryz.prog fn (Ends r w enc res) Exit.ret { tmps := tm, defers := [] } W := bodyPost_ret hrun rfl (Ends.ok hres ho hr he)
theorem res_object {tm : Array Value} {W : World} {g : Nat} {v0 v1 v2 v3 v4 v5 v6 v7 : Value} (ht : tm.getD 2 undef = .pointer (some ⟨g, 0, none⟩)) (h : W.heap[g]? = some (.cells #[v0, v1, v2, v3, v4, v5, v6, v7] 59 (0, 0))) :
    (results Tryz.f86 tm).run Tryz.prog W = .ok (.agg #[v0, v1, v2, v3, v4, v5, v6, v7]) W := by
  obtain ⟨k0, k1, k2, k3, k4, k5, k6, k7, kf, kz⟩ := cells8 h
  simp only [Array.getD_eq_getD_getElem?] at ht
  simp [results, Tryz.results86, go_sem, ht, k0, k1, k2, k3, k4, k5, k6, k7]
theorem res_value {tm : Array Value} {W : World} {g : Nat} {v0 v1 v2 v3 v4 v5 v6 v7 : Value} (ht : tm.getD 2 undef = .pointer (some ⟨g, 0, none⟩)) (h : W.heap[g]? = some (.cells #[v0, v1, v2, v3, v4, v5, v6, v7] 59 (0, 0))) :
    (results Tryz.f83 tm).run Tryz.prog W = .ok (.agg #[v0, v1, v2, v3, v4, v5, v6, v7]) W := by
  obtain ⟨k0, k1, k2, k3, k4, k5, k6, k7, kf, kz⟩ := cells8 h
  simp only [Array.getD_eq_getD_getElem?] at ht
  simp [results, Tryz.results83, go_sem, ht, k0, k1, k2, k3, k4, k5, k6, k7]
theorem res_plain {tm : Array Value} {W : World} {g : Nat} {v0 v1 v2 v3 v4 v5 v6 v7 : Value} (ht : tm.getD 2 undef = .pointer (some ⟨g, 0, none⟩)) (h : W.heap[g]? = some (.cells #[v0, v1, v2, v3, v4, v5, v6, v7] 59 (0, 0))) :
    (results Tryz.f80 tm).run Tryz.prog W = .ok (.agg #[v0, v1, v2, v3, v4, v5, v6, v7]) W := by
  obtain ⟨k0, k1, k2, k3, k4, k5, k6, k7, kf, kz⟩ := cells8 h
  simp only [Array.getD_eq_getD_getElem?] at ht
  simp [results, Tryz.results80, go_sem, ht, k0, k1, k2, k3, k4, k5, k6, k7]
theorem res_branch {tm : Array Value} {W : World} {g : Nat} {v0 v1 v2 v3 v4 v5 v6 v7 : Value} (ht : tm.getD 2 undef = .pointer (some ⟨g, 0, none⟩)) (h : W.heap[g]? = some (.cells #[v0, v1, v2, v3, v4, v5, v6, v7] 59 (0, 0))) :
    (results Tryz.f78 tm).run Tryz.prog W = .ok (.agg #[v0, v1, v2, v3, v4, v5, v6, v7]) W := by
  obtain ⟨k0, k1, k2, k3, k4, k5, k6, k7, kf, kz⟩ := cells8 h
  simp only [Array.getD_eq_getD_getElem?] at ht
  simp [results, Tryz.results78, go_sem, ht, k0, k1, k2, k3, k4, k5, k6, k7]
theorem res_statement {tm : Array Value} {W : World} {g : Nat} {v0 v1 v2 v3 v4 v5 v6 v7 : Value} (ht : tm.getD 2 undef = .pointer (some ⟨g, 0, none⟩)) (h : W.heap[g]? = some (.cells #[v0, v1, v2, v3, v4, v5, v6, v7] 59 (0, 0))) :
    (results Tryz.f69 tm).run Tryz.prog W = .ok (.agg #[v0, v1, v2, v3, v4, v5, v6, v7]) W := by
  obtain ⟨k0, k1, k2, k3, k4, k5, k6, k7, kf, kz⟩ := cells8 h
  simp only [Array.getD_eq_getD_getElem?] at ht
  simp [results, Tryz.results69, go_sem, ht, k0, k1, k2, k3, k4, k5, k6, k7]

set_option maxHeartbeats 400000 in
theorem atStatement_any (r : Nat) (S : M.St) (w : World) (h : Rd w r S) :
    Calls Tryz.prog 77 #[.pointer (some ⟨r, 0, none⟩)] w fun e w' => e = .returned (.bool S.atStmt) ∧ w' = w := by
  unfold M.St.atStmt
  cases h0 : S.isName
  · skip
    cases h1 : S.at M.kOut
    · skip
      cases h2 : S.at M.kReturn
      · skip
        cases h3 : S.at M.kIf
        · skip
          cases h4 : S.at M.kWhile
          · skip
            have g0 := atName_any r S w h
            rw [h0] at g0
            have g1 := at_any r S M.kOut w h
            rw [h1] at g1
            have g2 := at_any r S M.kReturn w h
            rw [h2] at g2
            have g3 := at_any r S M.kIf w h
            rw [h3] at g3
            have g4 := at_any r S M.kWhile w h
            rw [h4] at g4
            go_enter Tryz.func77, Tryz.ntmps77
            go_wp2_with fail
            refine g0.mono ?_
            rintro e w' ⟨rfl, rfl⟩
            go_wp2_with fail
            refine g1.mono ?_
            rintro e w' ⟨rfl, rfl⟩
            go_wp2_with fail
            refine g2.mono ?_
            rintro e w' ⟨rfl, rfl⟩
            go_wp2_with fail
            refine g3.mono ?_
            rintro e w' ⟨rfl, rfl⟩
            go_wp2_with fail
            refine g4.mono ?_
            rintro e w' ⟨rfl, rfl⟩
            go_wp2_with fail
            go_ret
            exact ⟨by simp, rfl⟩
          · skip
            have g0 := atName_any r S w h
            rw [h0] at g0
            have g1 := at_any r S M.kOut w h
            rw [h1] at g1
            have g2 := at_any r S M.kReturn w h
            rw [h2] at g2
            have g3 := at_any r S M.kIf w h
            rw [h3] at g3
            have g4 := at_any r S M.kWhile w h
            rw [h4] at g4
            go_enter Tryz.func77, Tryz.ntmps77
            go_wp2_with fail
            refine g0.mono ?_
            rintro e w' ⟨rfl, rfl⟩
            go_wp2_with fail
            refine g1.mono ?_
            rintro e w' ⟨rfl, rfl⟩
            go_wp2_with fail
            refine g2.mono ?_
            rintro e w' ⟨rfl, rfl⟩
            go_wp2_with fail
            refine g3.mono ?_
            rintro e w' ⟨rfl, rfl⟩
            go_wp2_with fail
            refine g4.mono ?_
            rintro e w' ⟨rfl, rfl⟩
            go_wp2_with fail
            go_ret
            exact ⟨by simp, rfl⟩
        · skip
          have g0 := atName_any r S w h
          rw [h0] at g0
          have g1 := at_any r S M.kOut w h
          rw [h1] at g1
          have g2 := at_any r S M.kReturn w h
          rw [h2] at g2
          have g3 := at_any r S M.kIf w h
          rw [h3] at g3
          go_enter Tryz.func77, Tryz.ntmps77
          go_wp2_with fail
          refine g0.mono ?_
          rintro e w' ⟨rfl, rfl⟩
          go_wp2_with fail
          refine g1.mono ?_
          rintro e w' ⟨rfl, rfl⟩
          go_wp2_with fail
          refine g2.mono ?_
          rintro e w' ⟨rfl, rfl⟩
          go_wp2_with fail
          refine g3.mono ?_
          rintro e w' ⟨rfl, rfl⟩
          go_wp2_with fail
          go_ret
          exact ⟨by simp, rfl⟩
      · skip
        have g0 := atName_any r S w h
        rw [h0] at g0
        have g1 := at_any r S M.kOut w h
        rw [h1] at g1
        have g2 := at_any r S M.kReturn w h
        rw [h2] at g2
        go_enter Tryz.func77, Tryz.ntmps77
        go_wp2_with fail
        refine g0.mono ?_
        rintro e w' ⟨rfl, rfl⟩
        go_wp2_with fail
        refine g1.mono ?_
        rintro e w' ⟨rfl, rfl⟩
        go_wp2_with fail
        refine g2.mono ?_
        rintro e w' ⟨rfl, rfl⟩
        go_wp2_with fail
        go_ret
        exact ⟨by simp, rfl⟩
    · skip
      have g0 := atName_any r S w h
      rw [h0] at g0
      have g1 := at_any r S M.kOut w h
      rw [h1] at g1
      go_enter Tryz.func77, Tryz.ntmps77
      go_wp2_with fail
      refine g0.mono ?_
      rintro e w' ⟨rfl, rfl⟩
      go_wp2_with fail
      refine g1.mono ?_
      rintro e w' ⟨rfl, rfl⟩
      go_wp2_with fail
      go_ret
      exact ⟨by simp, rfl⟩
  · skip
    have g0 := atName_any r S w h
    rw [h0] at g0
    go_enter Tryz.func77, Tryz.ntmps77
    go_wp2_with fail
    refine g0.mono ?_
    rintro e w' ⟨rfl, rfl⟩
    go_wp2_with fail
    go_ret
    exact ⟨by simp, rfl⟩

set_option maxHeartbeats 400000 in
theorem atArith_any (r : Nat) (S : M.St) (w : World) (h : Rd w r S) :
    Calls Tryz.prog 87 #[.pointer (some ⟨r, 0, none⟩)] w fun e w' => e = .returned (.bool S.atArith) ∧ w' = w := by
  unfold M.St.atArith
  cases h0 : S.at (M.ch 43)
  · skip
    cases h1 : S.at (M.ch 45)
    · skip
      cases h2 : S.at (M.ch 42)
      · skip
        cases h3 : S.at (M.ch 60)
        · skip
          cases h4 : S.at (M.ch 61)
          · skip
            have g0 := at_any r S (M.ch 43) w h
            rw [h0] at g0
            have g1 := at_any r S (M.ch 45) w h
            rw [h1] at g1
            have g2 := at_any r S (M.ch 42) w h
            rw [h2] at g2
            have g3 := at_any r S (M.ch 60) w h
            rw [h3] at g3
            have g4 := at_any r S (M.ch 61) w h
            rw [h4] at g4
            go_enter Tryz.func87, Tryz.ntmps87
            go_wp2_with fail
            refine g0.mono ?_
            rintro e w' ⟨rfl, rfl⟩
            go_wp2_with fail
            refine g1.mono ?_
            rintro e w' ⟨rfl, rfl⟩
            go_wp2_with fail
            refine g2.mono ?_
            rintro e w' ⟨rfl, rfl⟩
            go_wp2_with fail
            refine g3.mono ?_
            rintro e w' ⟨rfl, rfl⟩
            go_wp2_with fail
            refine g4.mono ?_
            rintro e w' ⟨rfl, rfl⟩
            go_wp2_with fail
            go_ret
            exact ⟨by simp, rfl⟩
          · skip
            have g0 := at_any r S (M.ch 43) w h
            rw [h0] at g0
            have g1 := at_any r S (M.ch 45) w h
            rw [h1] at g1
            have g2 := at_any r S (M.ch 42) w h
            rw [h2] at g2
            have g3 := at_any r S (M.ch 60) w h
            rw [h3] at g3
            have g4 := at_any r S (M.ch 61) w h
            rw [h4] at g4
            go_enter Tryz.func87, Tryz.ntmps87
            go_wp2_with fail
            refine g0.mono ?_
            rintro e w' ⟨rfl, rfl⟩
            go_wp2_with fail
            refine g1.mono ?_
            rintro e w' ⟨rfl, rfl⟩
            go_wp2_with fail
            refine g2.mono ?_
            rintro e w' ⟨rfl, rfl⟩
            go_wp2_with fail
            refine g3.mono ?_
            rintro e w' ⟨rfl, rfl⟩
            go_wp2_with fail
            refine g4.mono ?_
            rintro e w' ⟨rfl, rfl⟩
            go_wp2_with fail
            go_ret
            exact ⟨by simp, rfl⟩
        · skip
          have g0 := at_any r S (M.ch 43) w h
          rw [h0] at g0
          have g1 := at_any r S (M.ch 45) w h
          rw [h1] at g1
          have g2 := at_any r S (M.ch 42) w h
          rw [h2] at g2
          have g3 := at_any r S (M.ch 60) w h
          rw [h3] at g3
          go_enter Tryz.func87, Tryz.ntmps87
          go_wp2_with fail
          refine g0.mono ?_
          rintro e w' ⟨rfl, rfl⟩
          go_wp2_with fail
          refine g1.mono ?_
          rintro e w' ⟨rfl, rfl⟩
          go_wp2_with fail
          refine g2.mono ?_
          rintro e w' ⟨rfl, rfl⟩
          go_wp2_with fail
          refine g3.mono ?_
          rintro e w' ⟨rfl, rfl⟩
          go_wp2_with fail
          go_ret
          exact ⟨by simp, rfl⟩
      · skip
        have g0 := at_any r S (M.ch 43) w h
        rw [h0] at g0
        have g1 := at_any r S (M.ch 45) w h
        rw [h1] at g1
        have g2 := at_any r S (M.ch 42) w h
        rw [h2] at g2
        go_enter Tryz.func87, Tryz.ntmps87
        go_wp2_with fail
        refine g0.mono ?_
        rintro e w' ⟨rfl, rfl⟩
        go_wp2_with fail
        refine g1.mono ?_
        rintro e w' ⟨rfl, rfl⟩
        go_wp2_with fail
        refine g2.mono ?_
        rintro e w' ⟨rfl, rfl⟩
        go_wp2_with fail
        go_ret
        exact ⟨by simp, rfl⟩
    · skip
      have g0 := at_any r S (M.ch 43) w h
      rw [h0] at g0
      have g1 := at_any r S (M.ch 45) w h
      rw [h1] at g1
      go_enter Tryz.func87, Tryz.ntmps87
      go_wp2_with fail
      refine g0.mono ?_
      rintro e w' ⟨rfl, rfl⟩
      go_wp2_with fail
      refine g1.mono ?_
      rintro e w' ⟨rfl, rfl⟩
      go_wp2_with fail
      go_ret
      exact ⟨by simp, rfl⟩
  · skip
    have g0 := at_any r S (M.ch 43) w h
    rw [h0] at g0
    go_enter Tryz.func87, Tryz.ntmps87
    go_wp2_with fail
    refine g0.mono ?_
    rintro e w' ⟨rfl, rfl⟩
    go_wp2_with fail
    go_ret
    exact ⟨by simp, rfl⟩
end Go.Proofs.YtkonkdhoakcmdaaGreatDoor
