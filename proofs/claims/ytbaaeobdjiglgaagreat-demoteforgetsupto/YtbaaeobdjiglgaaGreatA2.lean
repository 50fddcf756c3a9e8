/-
  Atoms in memory, and the walks of the small functions over them: atoms.mayBe, cmp.Compare, cmp.Or, atoms.order, proteanref06.Right and Less. No conditions.
-/
import Derived.Test.YtbaaeobdjiglgaaGreatRows
import Derived.Test.YtbaaeobdjiglgaaGreatGA
import Derived.WalkKit
import Derived.WalkSpells
import Derived.WalkLawsBesides
import Derived.Lib.Bytealg
import Derived.Deep.QuietTactic
import Derived.BigQuiet
import Derived.Laws.StructEq
import Derived.Laws.IdiomStrings
import Derived.Deep.LoopGhost
import Derived.Deep.RegionHeld3
import Derived.Lib.Hide
import Derived.Shelf.SlSortCmp.QuietGrown
set_option linter.unusedVariables false
namespace Go.Proofs.YtbaaeobdjiglgaaGreat
open Go.RowKit Go.Sort
theorem hid {p : Prop} (h : p) : Hid p := h
theorem ret_int {k : IntKind} {a b : Int} (h : a = b) : Ending.returned (.int k a) = .returned (.int k b) := by rw [h]
theorem ret_bool {a b : Bool} (h : a = b) : Ending.returned (.bool a) = .returned (.bool b) := by rw [h]
theorem mixedP : Tryz.prog.follows .mixedOrders = true := by kernel_rfl

/-- some draws on, some blocks behind it -/
def Gr (w w' : World) : Prop := ∃ q os, w' = grow (w.drewN q) os
theorem Gr.refl (w : World) : Gr w w := ⟨0, #[], by rw [grow_empty]; rfl⟩
theorem Gr.trans {a b c : World} (h1 : Gr a b) (h2 : Gr b c) : Gr a c := by
  obtain ⟨q, os, rfl⟩ := h1
  obtain ⟨r, os', rfl⟩ := h2
  exact ⟨q + r, os ++ os', by show grow (grow ((a.drewN q).drewN r) os) os' = _; rw [grow_grow, World.drewN_drewN]⟩
theorem Gr.alloc {a b : World} (h : Gr a b) (o : Obj) : Gr a (b.alloc o) := h.trans ⟨0, #[o], by rw [alloc_eq_grow]; rfl⟩
theorem Gr.drew {a b : World} (h : Gr a b) : Gr a b.drew := h.trans ⟨1, #[], by rw [grow_empty]; rfl⟩
theorem Gr.drewN {a b : World} (h : Gr a b) (n : Nat) : Gr a (b.drewN n) := h.trans ⟨n, #[], by rw [grow_empty]⟩
theorem Gr.grow {a b : World} (h : Gr a b) (os : Array Obj) : Gr a (Sort.grow b os) := h.trans ⟨0, os, rfl⟩
theorem Gr.below {w w' : World} (h : Gr w w') : Below w.heap.size w w' := by
  obtain ⟨q, os, rfl⟩ := h
  exact ⟨rfl, rfl, rfl, by simp [World.drewN], fun k hk => heap_grow_old (w.drewN q) os (by exact hk)⟩

/-- the numbers that fit -/
def InR (n : Int) : Prop := -9223372036854775808 ≤ n ∧ n ≤ 9223372036854775807
/-- the slice v holds the atoms l in the world w -/
def AtAt (w : World) (v : Value) (l : List M.Atm) : Prop :=
  (∀ x ∈ l, InR x.n) ∧ ∃ a cap, v = .slice a l.length cap ∧ (l = [] ∨ ∃ b o, a = some ⟨b, o, none⟩ ∧ b < w.heap.size ∧ (l.length ≤ cap ∧ cap ≤ maxLen) ∧ ∀ i (h : i < l.length), w.cell? ⟨b, o + i * 2, none⟩ = some (.int .i64 l[i].k) ∧ w.cell? ⟨b, o + i * 2 + 1, none⟩ = some (.int .i64 l[i].n))
theorem AtAt.bel {w w' : World} {v : Value} {l : List M.Atm} (h : AtAt w v l) (hb : Below w.heap.size w w') : AtAt w' v l := by
  obtain ⟨h0, a, cap, rfl, h1⟩ := h
  refine ⟨h0, a, cap, rfl, ?_⟩
  rcases h1 with h1 | ⟨b, o, rfl, hlt, hr, hc⟩
  · exact .inl h1
  · refine .inr ⟨b, o, rfl, Nat.lt_of_lt_of_le hlt hb.size, hr, fun i hi => ?_⟩
    rw [hb.cell (p := ⟨b, o + i * 2, none⟩) hlt, hb.cell (p := ⟨b, o + i * 2 + 1, none⟩) hlt]
    exact hc i hi
theorem AtAt.form {w : World} {v : Value} {l : List M.Atm} (h : AtAt w v l) : ∃ a cap, v = .slice a l.length cap := by
  obtain ⟨_, a, cap, rfl, _⟩ := h
  exact ⟨a, cap, rfl⟩
/-- an atom as a value -/
def av (x : M.Atm) : Value := .agg #[.int .i64 x.k, .int .i64 x.n]

set_option maxHeartbeats 1000000 in
theorem mayBe_any (x : M.Atm) (w : World) : Calls Tryz.prog 70 #[av x] w fun e w' => e = .returned (.bool (M.okA x)) ∧ Gr w w' := by
  unfold av
  go_enter Tryz.func70, Tryz.ntmps70
  go_wp2
  all_goals
    go_ret
    refine ⟨ret_bool ?_, (Gr.refl _).alloc _⟩
    try simp only [beq_iff_eq, beq_eq_false_iff_ne, ne_eq] at *
    first
      | exact M.ok_mid (by omega) (by omega)
      | exact M.ok_out (by omega) (by omega) (by omega)
      | exact M.ok_far (by omega)

set_option maxHeartbeats 1000000 in
theorem right_any (x : M.Atm) (w : World) : Calls Tryz.prog 87 #[av x] w fun e w' => e = .returned (.bool (M.okA x)) ∧ Gr w w' := by
  unfold av
  go_enter Tryz.func87, Tryz.ntmps87
  go_wp2
  all_goals
    go_ret
    refine ⟨ret_bool ?_, (Gr.refl _).alloc _⟩
    first
      | exact M.ok_mid (by omega) (by omega)
      | exact M.ok_out (by omega) (by omega) (by omega)
      | exact M.ok_far (by omega)

set_option maxHeartbeats 1000000 in
theorem less_any (x y : M.Atm) (w : World) : Calls Tryz.prog 46 #[av x, av y] w fun e w' => e = .returned (.bool (M.ltA x y)) ∧ Gr w w' := by
  unfold av
  go_enter Tryz.func46, Tryz.ntmps46
  go_wp2
  all_goals
    go_ret
    refine ⟨ret_bool ?_, ((Gr.refl _).alloc _).alloc _⟩
    unfold M.ltA
    simp_all
    try omega

/-- -1, 0 or 1 -/
def cmpI (a b : Int) : Int := if a < b then -1 else if b < a then 1 else 0
set_option maxHeartbeats 1000000 in
theorem compare_any (a b : Int) (w : World) : Calls Tryz.prog 74 #[.int .i64 a, .int .i64 b] w fun e w' => e = .returned (.int .i64 (cmpI a b)) ∧ w' = w := by
  go_enter Tryz.func74, Tryz.ntmps74
  go_wp2
  all_goals
    go_ret
    refine ⟨ret_int ?_, rfl⟩
    unfold cmpI
    split <;> (try split) <;> simp_all <;> omega

def orI (a c : Int) : Int := if a = 0 then c else a
set_option maxHeartbeats 1000000 in
theorem or_any (a c : Int) (b : Nat) (cap : Nat) (w : World) (h0 : w.cell? ⟨b, 0, none⟩ = some (.int .i64 a)) (h1 : w.cell? ⟨b, 1, none⟩ = some (.int .i64 c)) :
    Calls Tryz.prog 73 #[.slice (some ⟨b, 0, none⟩) 2 cap] w fun e w' => e = .returned (.int .i64 (orI a c)) ∧ w' = w := by
  unfold orI
  go_enter Tryz.func73, Tryz.ntmps73
  go_wp2
  refine wp_loop_rounds 3 ?_
  by_cases ha : a = 0
  · by_cases hc : c = 0
    · subst ha hc
      rw [rounds_succ]
      go_wp2
      rw [rounds_succ]
      go_wp2
      rw [rounds_succ]
      go_wp2
      go_ret
      exact ⟨rfl, rfl⟩
    · subst ha
      have hb : (c == 0) = false := by simp [hc]
      rw [rounds_succ]
      go_wp2
      rw [rounds_succ]
      go_wp2
      go_ret
      exact ⟨rfl, rfl⟩
  · rw [rounds_succ]
    go_wp2
    go_ret
    exact ⟨ret_int rfl, rfl⟩
theorem new2 {W : World} {u v : Value} {t : TypeId} {b : Nat} (hb : b = W.heap.size) : (W.alloc (.cells #[u, v] t)).drew.cell? ⟨b, 0, none⟩ = some u ∧ (W.alloc (.cells #[u, v] t)).drew.cell? ⟨b, 1, none⟩ = some v := by
  subst hb
  have hn : (W.alloc (.cells #[u, v] t)).drew.heap[W.heap.size]? = some (.cells #[u, v] t (0, 0)) := heap_alloc_new W (.cells #[u, v] t)
  exact ⟨by rw [Lib.cell_of_heap hn]; rfl, by rw [Lib.cell_of_heap hn]; rfl⟩
def ordI (x y : M.Atm) : Int := orI (cmpI x.k y.k) (cmpI x.n y.n)
set_option maxHeartbeats 2000000 in
theorem order_any (x y : M.Atm) (w : World) : Calls Tryz.prog 71 #[av x, av y] w fun e w' => e = .returned (.int .i64 (ordI x y)) ∧ Gr w w' := by
  unfold av ordI
  go_enter Tryz.func71, Tryz.ntmps71
  go_wp2_with fail
  go_region_held3 (fun w' => w'.cell? ⟨w.heap.size, 0, none⟩ = some (.int .i64 x.k) ∧ w'.cell? ⟨w.heap.size, 1, none⟩ = some (.int .i64 x.n) ∧ w'.cell? ⟨w.heap.size + 1, 0, none⟩ = some (.int .i64 y.k) ∧ w'.cell? ⟨w.heap.size + 1, 1, none⟩ = some (.int .i64 y.n)) (go_keep) (first | (go_at_call 74; refine (compare_any _ _ _).mono ?_; rintro e w' ⟨rfl, rfl⟩) | (go_at_call 73; refine (or_any (cmpI x.k y.k) (cmpI x.n y.n) _ _ _ (new2 (by simp)).1 (new2 (by simp)).2).mono ?_; rintro e w' ⟨rfl, rfl⟩))
  all_goals
    go_wp2
    go_ret
    exact ⟨rfl, ((((Gr.refl _).alloc _).alloc _).drew).alloc _⟩
/-- one operation that is wanted, of a region whose order is open -/
theorem tk {P : Program} {ops : Array Oper} {Q : Exit → Act → World → Prop} {md : Region.Mode} {S : World → Prop} (i : Nat) (oi : Oper) {v : Value} {fuel : Nat} {listed : Array Bool} {a : Act} {w : World} (hS : S w)
    (hy : ∀ w, S w → (execOp a.eval oi).run P w = .ok (.value v) w) (h : wpAnyH P md ops Q S fuel (listed.setIfInBounds i true) (a.put oi.dst v) w)
    (hi : ops[i]? = some oi := by rfl) (hs : Region.noSelect ops = true := by kernel_rfl) (hf : Region.free md ops listed i = true := by kernel_rfl) (hr : (Region.ready md ops listed).contains i = true := by kernel_rfl)
    (hQ : ∀ c a w, Q (.panic c) (a.put oi.dst v) w → Q (.panic c) a w := by exact fun _ _ _ h => h) (hw : Region.wanted oi (yielded ops a.tmps) = true := by rfl) : wpAnyH P md ops Q S (fuel + 1) listed a w :=
  wpAnyH_take hi hs hf hr hQ (Or.inl ⟨hw, hy⟩) hS h
/-- one that is not wanted -/
theorem tku {P : Program} {ops : Array Oper} {Q : Exit → Act → World → Prop} {md : Region.Mode} {S : World → Prop} (i : Nat) (oi : Oper) {fuel : Nat} {listed : Array Bool} {a : Act} {w : World} (hS : S w)
    (h : wpAnyH P md ops Q S fuel (listed.setIfInBounds i true) (a.put oi.dst undef) w)
    (hi : ops[i]? = some oi := by rfl) (hs : Region.noSelect ops = true := by kernel_rfl) (hf : Region.free md ops listed i = true := by kernel_rfl) (hr : (Region.ready md ops listed).contains i = true := by kernel_rfl)
    (hQ : ∀ c a w, Q (.panic c) (a.put oi.dst undef) w → Q (.panic c) a w := by exact fun _ _ _ h => h) (hw : Region.wanted oi (yielded ops a.tmps) = false := by rfl) : wpAnyH P md ops Q S (fuel + 1) listed a w :=
  wpAnyH_take hi hs hf hr hQ (Or.inr ⟨hw, rfl⟩) hS h
theorem z0 {α : Type} {l : List α} {i : Nat} {a : α} : l.toArray.setIfInBounds i a = (l.set i a).toArray := by simp
theorem z1 {α : Type} {a b : α} {l : List α} : (a :: l).set 0 b = b :: l := rfl
theorem z2 {α : Type} {a b : α} {l : List α} {n : Nat} : (a :: l).set (n + 1) b = a :: l.set n b := rfl
end Go.Proofs.YtbaaeobdjiglgaaGreat
