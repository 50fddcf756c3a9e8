/-
  The walks of slices.Clone over operands, texts and statements: a list of the same elements in new memory. No conditions.
-/
import Derived.Test.YtcjmjdgcehmigaaN1
import Derived.OwnWalk
import Derived.Maps.AppendAt
import Derived.Laws.OwnMore
import Derived.Lib.BufferMore
set_option linter.unusedVariables false
set_option linter.unusedSimpArgs false
namespace Go.Proofs.Ytcjmjdgcehmigaa
open Go.RowKit

/-- the blocks that a world has -/
def Old (w : World) : Nat → Prop := fun b => b < w.heap.size
theorem keep_set {w : World} {X : Nat → Prop} {p : Addr} (hp : X p.block) (u : Value) : Keep X w (w.setCell p u) :=
  ⟨by simp [World.setCell], fun k hk hx => Below.heap_setCell _ _ _ _ fun e => hx (e ▸ hp)⟩

theorem infoStmt : (Try.prog.info? 36).map (fun i => (i.zero, i.size, i.bytes)) = some (some (.agg #[.int .i64 0, .string ⟨#[]⟩, .string ⟨#[]⟩, .string ⟨#[]⟩, .slice none 0 0, .slice none 0 0, .slice none 0 0, .slice none 0 0]), 8, 152) := by kernel_rfl
theorem infoOperand : (Try.prog.info? 49).map (fun i => (i.zero, i.size, i.bytes)) = some (some (.agg #[.int .i64 0, .int .i64 0, .string ⟨#[]⟩]), 3, 32) := by kernel_rfl
theorem infostring : (Try.prog.info? 9).map (fun i => (i.zero, i.size, i.bytes)) = some (some (.string ⟨#[]⟩), 1, 16) := by kernel_rfl

theorem add_at (b o k : Nat) : (⟨b, o, none⟩ : Addr).add k = ⟨b, o + k, none⟩ := by
  unfold Addr.add
  split
  · rename_i h; rw [h]; rfl
  · rfl

set_option maxHeartbeats 1000000 in
theorem cloneStmt_any (w : World) (v : Value) (n : Nat) (cs : List Value) (h : SlAt w NoX v n cs) (hl : cs.length = n * 8) (h1 : ∀ u ∈ cs, u.oneCell' = true) (hn : n ≤ 4294967296) :
    Calls Try.prog 32 #[v] w fun e w' => ∃ v', e = .returned v' ∧ w'.ownsRow w.heap.size 36 8 v' n cs ∧ Below w.heap.size w w' := by
  obtain ⟨i0, hi, hz0, hz1, hz2⟩ := info_parts infoStmt
  obtain ⟨hb, a, cap, rfl, g⟩ := h
  cases a with
  | none =>
    rcases g with ⟨rfl, rfl⟩ | ⟨b, o, e, _⟩
    · have hnil : ∀ W, (binOp .eql 22 (.slice none 0 cap) (.slice none 0 0)).run Try.prog W = .ok (.bool true) W := fun W => Lib.run_eql_slice_nil_nil W _ _ Try.underlying22
      go_enter Try.func32, Try.ntmps32
      go_wp2
      go_ret
      exact ⟨_, rfl, World.ownsRow_nil _ _ _ _, Below.refl _ _⟩
    · cases e
  | some ad =>
    have hc : ∀ j u, cs[j]? = some u → (w.alloc (.cells #[] 36)).cell? (ad.add j) = some u := by
      intro j u hu
      rcases g with ⟨_, rfl⟩ | ⟨b, o, e, hlt, _, hcs⟩
      · simp at hu
      · cases e
        rw [add_at, World.cell?_alloc_lt _ _ _ (by exact hlt)]
        exact hcs j u hu
    have hrow := World.ownsRow_lit (base := w.heap.size) (e := 36) (size := 8) w #[] 0 (Nat.le_refl _) (by simp [maxLen]) (by simp)
    have hnil : ∀ W, (binOp .eql 22 (.slice (some ad) n cap) (.slice none 0 0)).run Try.prog W = .ok (.bool false) W := fun W => Lib.run_eql_slice_some_nil W _ _ _ Try.underlying22
    go_enter Try.func32, Try.ntmps32
    go_wp2_with (at_builtin; refine wpList_append_own _ rfl _ _ 22 rfl w.heap.size 36 i0 (.agg #[.int .i64 0, .string ⟨#[]⟩, .string ⟨#[]⟩, .string ⟨#[]⟩, .slice none 0 0, .slice none 0 0, .slice none 0 0, .slice none 0 0]) 8 152 Try.underlying22 hi hz0 hz1 hz2 rfl (by decide) (.slice (some ⟨w.heap.size, 0, none⟩) 0 0) 0 [] rfl hrow ad n cap cs rfl hl hc h1 (by unfold maxLen; omega) (by omega) (by simp) ?_; intro v' w' hown hgrow _)
    rw [Nat.zero_add, List.nil_append] at hown
    obtain ⟨q, m, rfl⟩ := own_form hown
    go_wp2
    go_ret
    exact ⟨_, rfl, hown, ((Below.refl _ w).alloc (Nat.le_refl _) _).grown hgrow (by simp) (fun k e => by simp [Value.ownBlock] at e; omega)⟩

set_option maxHeartbeats 1000000 in
theorem cloneOperand_any (w : World) (v : Value) (n : Nat) (cs : List Value) (h : SlAt w NoX v n cs) (hl : cs.length = n * 3) (h1 : ∀ u ∈ cs, u.oneCell' = true) (hn : n ≤ 4294967296) :
    Calls Try.prog 29 #[v] w fun e w' => ∃ v', e = .returned v' ∧ w'.ownsRow w.heap.size 49 3 v' n cs ∧ Below w.heap.size w w' := by
  obtain ⟨i0, hi, hz0, hz1, hz2⟩ := info_parts infoOperand
  obtain ⟨hb, a, cap, rfl, g⟩ := h
  cases a with
  | none =>
    rcases g with ⟨rfl, rfl⟩ | ⟨b, o, e, _⟩
    · have hnil : ∀ W, (binOp .eql 33 (.slice none 0 cap) (.slice none 0 0)).run Try.prog W = .ok (.bool true) W := fun W => Lib.run_eql_slice_nil_nil W _ _ Try.underlying33
      go_enter Try.func29, Try.ntmps29
      go_wp2
      go_ret
      exact ⟨_, rfl, World.ownsRow_nil _ _ _ _, Below.refl _ _⟩
    · cases e
  | some ad =>
    have hc : ∀ j u, cs[j]? = some u → (w.alloc (.cells #[] 49)).cell? (ad.add j) = some u := by
      intro j u hu
      rcases g with ⟨_, rfl⟩ | ⟨b, o, e, hlt, _, hcs⟩
      · simp at hu
      · cases e
        rw [add_at, World.cell?_alloc_lt _ _ _ (by exact hlt)]
        exact hcs j u hu
    have hrow := World.ownsRow_lit (base := w.heap.size) (e := 49) (size := 3) w #[] 0 (Nat.le_refl _) (by simp [maxLen]) (by simp)
    have hnil : ∀ W, (binOp .eql 33 (.slice (some ad) n cap) (.slice none 0 0)).run Try.prog W = .ok (.bool false) W := fun W => Lib.run_eql_slice_some_nil W _ _ _ Try.underlying33
    go_enter Try.func29, Try.ntmps29
    go_wp2_with (at_builtin; refine wpList_append_own _ rfl _ _ 33 rfl w.heap.size 49 i0 (.agg #[.int .i64 0, .int .i64 0, .string ⟨#[]⟩]) 3 32 Try.underlying33 hi hz0 hz1 hz2 rfl (by decide) (.slice (some ⟨w.heap.size, 0, none⟩) 0 0) 0 [] rfl hrow ad n cap cs rfl hl hc h1 (by unfold maxLen; omega) (by omega) (by simp) ?_; intro v' w' hown hgrow _)
    rw [Nat.zero_add, List.nil_append] at hown
    obtain ⟨q, m, rfl⟩ := own_form hown
    go_wp2
    go_ret
    exact ⟨_, rfl, hown, ((Below.refl _ w).alloc (Nat.le_refl _) _).grown hgrow (by simp) (fun k e => by simp [Value.ownBlock] at e; omega)⟩

set_option maxHeartbeats 1000000 in
theorem clonestring_any (w : World) (v : Value) (n : Nat) (cs : List Value) (h : SlAt w NoX v n cs) (hl : cs.length = n * 1) (h1 : ∀ u ∈ cs, u.oneCell' = true) (hn : n ≤ 4294967296) :
    Calls Try.prog 30 #[v] w fun e w' => ∃ v', e = .returned v' ∧ w'.ownsRow w.heap.size 9 1 v' n cs ∧ Below w.heap.size w w' := by
  obtain ⟨i0, hi, hz0, hz1, hz2⟩ := info_parts infostring
  obtain ⟨hb, a, cap, rfl, g⟩ := h
  cases a with
  | none =>
    rcases g with ⟨rfl, rfl⟩ | ⟨b, o, e, _⟩
    · have hnil : ∀ W, (binOp .eql 34 (.slice none 0 cap) (.slice none 0 0)).run Try.prog W = .ok (.bool true) W := fun W => Lib.run_eql_slice_nil_nil W _ _ Try.underlying34
      go_enter Try.func30, Try.ntmps30
      go_wp2
      go_ret
      exact ⟨_, rfl, World.ownsRow_nil _ _ _ _, Below.refl _ _⟩
    · cases e
  | some ad =>
    have hc : ∀ j u, cs[j]? = some u → (w.alloc (.cells #[] 9)).cell? (ad.add j) = some u := by
      intro j u hu
      rcases g with ⟨_, rfl⟩ | ⟨b, o, e, hlt, _, hcs⟩
      · simp at hu
      · cases e
        rw [add_at, World.cell?_alloc_lt _ _ _ (by exact hlt)]
        exact hcs j u hu
    have hrow := World.ownsRow_lit (base := w.heap.size) (e := 9) (size := 1) w #[] 0 (Nat.le_refl _) (by simp [maxLen]) (by simp)
    have hnil : ∀ W, (binOp .eql 34 (.slice (some ad) n cap) (.slice none 0 0)).run Try.prog W = .ok (.bool false) W := fun W => Lib.run_eql_slice_some_nil W _ _ _ Try.underlying34
    go_enter Try.func30, Try.ntmps30
    go_wp2_with (at_builtin; refine wpList_append_own _ rfl _ _ 34 rfl w.heap.size 9 i0 (.string ⟨#[]⟩) 1 16 Try.underlying34 hi hz0 hz1 hz2 rfl (by decide) (.slice (some ⟨w.heap.size, 0, none⟩) 0 0) 0 [] rfl hrow ad n cap cs rfl hl hc h1 (by unfold maxLen; omega) (by omega) (by simp) ?_; intro v' w' hown hgrow _)
    rw [Nat.zero_add, List.nil_append] at hown
    obtain ⟨q, m, rfl⟩ := own_form hown
    go_wp2
    go_ret
    exact ⟨_, rfl, hown, ((Below.refl _ w).alloc (Nat.le_refl _) _).grown hgrow (by simp) (fun k e => by simp [Value.ownBlock] at e; omega)⟩

end Go.Proofs.Ytcjmjdgcehmigaa
