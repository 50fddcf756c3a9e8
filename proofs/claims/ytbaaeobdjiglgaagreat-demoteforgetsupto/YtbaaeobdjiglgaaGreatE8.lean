/-
  The walks of slices.Clone over variables and over objects. Conditions: at most 2^20 of them.
-/
import Derived.Test.YtbaaeobdjiglgaaGreatE5
set_option linter.unusedVariables false
set_option linter.unusedSimpArgs false
namespace Go.Proofs.YtbaaeobdjiglgaaGreat
open Go.RowKit Go.Sort

set_option maxHeartbeats 1000000 in
theorem cloneB_any (w : World) (v : Value) (R : List Bnd) (h : AtK 2 bc w v R) (hn : R.length ≤ 1048576) :
    Calls Tryz.prog 82 #[v] w fun e w' => ∃ v', e = .returned v' ∧ RowK 47 2 bc w.heap.size w' v' R ∧ Below w.heap.size w w' := by
  obtain ⟨i0, hi, hz0, hz1, hz2⟩ := info_parts infoBind
  obtain ⟨a, cap, rfl, g⟩ := h
  cases a with
  | none =>
    rcases g with rfl | ⟨b, o, e, _⟩
    · have hnil : ∀ W, (binOp .eql 22 (.slice none 0 cap) (.slice none 0 0)).run Tryz.prog W = .ok (.bool true) W := fun W => Lib.run_eql_slice_nil_nil W _ _ Tryz.underlying22
      go_enter Tryz.func82, Tryz.ntmps82
      go_wp2
      go_ret
      exact ⟨_, rfl, RowK.nil _ _, Below.refl _ _⟩
    · cases e
  | some ad =>
    have hc : ∀ j u, (R.flatMap bc)[j]? = some u → (w.alloc (.cells #[] 47)).cell? (ad.add j) = some u := by
      intro j u hu
      rcases g with rfl | ⟨b, o, e, hlt, _, hcs⟩
      · simp at hu
      · cases e
        rw [add_at, World.cell?_alloc_lt _ _ _ (by exact hlt)]
        exact AtK.flat bc_len hcs j u hu
    clear g
    have hrow := World.ownsRow_lit (base := w.heap.size) (e := 47) (size := 2) w #[] 0 (Nat.le_refl _) (by simp [maxLen]) (by simp)
    have hnil : ∀ W, (binOp .eql 22 (.slice (some ad) R.length cap) (.slice none 0 0)).run Tryz.prog W = .ok (.bool false) W := fun W => Lib.run_eql_slice_some_nil W _ _ _ Tryz.underlying22
    go_enter Tryz.func82, Tryz.ntmps82
    go_wp2_with (at_builtin; refine wpList_append_own _ rfl _ _ 22 rfl w.heap.size 47 i0 (.agg #[.string ⟨#[]⟩, .slice none 0 0]) 2 40 Tryz.underlying22 hi hz0 hz1 hz2 rfl (by decide) (.slice (some ⟨w.heap.size, 0, none⟩) 0 0) 0 [] rfl hrow ad R.length cap (R.flatMap bc) rfl (flat_lenK bc_len R) hc (flat_oneK bc_one R) (by unfold maxLen; omega) (by omega) (by simp) ?_; intro v' w' hown hgrow _)
    rw [Nat.zero_add, List.nil_append] at hown
    obtain ⟨q, m, rfl⟩ : ∃ q m, v' = .slice q R.length m := by
      rcases owns_form3 hown with ⟨rfl, h0⟩ | ⟨g, cap, rfl⟩
      · rw [h0]; exact ⟨_, _, rfl⟩
      · exact ⟨_, _, rfl⟩
    go_wp2
    go_ret
    exact ⟨_, rfl, hown, ((Below.refl _ w).alloc (Nat.le_refl _) _).grown hgrow (by simp) (fun k e => by simp [Value.ownBlock] at e; omega)⟩

set_option maxHeartbeats 1000000 in
theorem cloneL_any (w : World) (v : Value) (R : List Lcl) (h : AtK 4 lc w v R) (hn : R.length ≤ 1048576) :
    Calls Tryz.prog 83 #[v] w fun e w' => ∃ v', e = .returned v' ∧ RowK 36 4 lc w.heap.size w' v' R ∧ Below w.heap.size w w' := by
  obtain ⟨i0, hi, hz0, hz1, hz2⟩ := info_parts infoLoc
  obtain ⟨a, cap, rfl, g⟩ := h
  cases a with
  | none =>
    rcases g with rfl | ⟨b, o, e, _⟩
    · have hnil : ∀ W, (binOp .eql 23 (.slice none 0 cap) (.slice none 0 0)).run Tryz.prog W = .ok (.bool true) W := fun W => Lib.run_eql_slice_nil_nil W _ _ Tryz.underlying23
      go_enter Tryz.func83, Tryz.ntmps83
      go_wp2
      go_ret
      exact ⟨_, rfl, RowK.nil _ _, Below.refl _ _⟩
    · cases e
  | some ad =>
    have hc : ∀ j u, (R.flatMap lc)[j]? = some u → (w.alloc (.cells #[] 36)).cell? (ad.add j) = some u := by
      intro j u hu
      rcases g with rfl | ⟨b, o, e, hlt, _, hcs⟩
      · simp at hu
      · cases e
        rw [add_at, World.cell?_alloc_lt _ _ _ (by exact hlt)]
        exact AtK.flat lc_len hcs j u hu
    clear g
    have hrow := World.ownsRow_lit (base := w.heap.size) (e := 36) (size := 4) w #[] 0 (Nat.le_refl _) (by simp [maxLen]) (by simp)
    have hnil : ∀ W, (binOp .eql 23 (.slice (some ad) R.length cap) (.slice none 0 0)).run Tryz.prog W = .ok (.bool false) W := fun W => Lib.run_eql_slice_some_nil W _ _ _ Tryz.underlying23
    go_enter Tryz.func83, Tryz.ntmps83
    go_wp2_with (at_builtin; refine wpList_append_own _ rfl _ _ 23 rfl w.heap.size 36 i0 (.agg #[.int .i64 0, .int .i64 0, .slice none 0 0, .slice none 0 0]) 4 64 Tryz.underlying23 hi hz0 hz1 hz2 rfl (by decide) (.slice (some ⟨w.heap.size, 0, none⟩) 0 0) 0 [] rfl hrow ad R.length cap (R.flatMap lc) rfl (flat_lenK lc_len R) hc (flat_oneK lc_one R) (by unfold maxLen; omega) (by omega) (by simp) ?_; intro v' w' hown hgrow _)
    rw [Nat.zero_add, List.nil_append] at hown
    obtain ⟨q, m, rfl⟩ : ∃ q m, v' = .slice q R.length m := by
      rcases owns_form3 hown with ⟨rfl, h0⟩ | ⟨g, cap, rfl⟩
      · rw [h0]; exact ⟨_, _, rfl⟩
      · exact ⟨_, _, rfl⟩
    go_wp2
    go_ret
    exact ⟨_, rfl, hown, ((Below.refl _ w).alloc (Nat.le_refl _) _).grown hgrow (by simp) (fun k e => by simp [Value.ownBlock] at e; omega)⟩

end Go.Proofs.YtbaaeobdjiglgaaGreat
