/-
  The walks of newReader, Read and Parse: what program tokens or bytes are, or their first fault. Conditions: those that each fact names.
-/
import Derived.Test.YtkonkdhoakcmdaaGreatDoorR16
import Derived.Defers
import Derived.Recover
set_option linter.unusedVariables false
namespace Go.Proofs.YtkonkdhoakcmdaaGreatDoor
open Go.RowKit

theorem newReader_any (v : Value) (l : List M.Tok) (fin : Int) (w : World) (h : TokAt w v l) (hap : ∀ b o n c, v = .slice (some ⟨b, o, none⟩) n c → b < w.heap.size) (hcap : ∀ a n c, v = .slice a n c → n ≤ c ∧ c ≤ maxLen) (hfew : l.length ≤ 4398046511104) :
    Calls Tryz.prog 16 #[v, .int .i64 fin] w fun e w' => e = .returned (.pointer (some ⟨w.heap.size, 0, none⟩)) ∧ Rd w' w.heap.size ⟨l, fin, 0, 0⟩ ∧ Below w.heap.size w w' := by
  obtain ⟨a, c, rfl⟩ : ∃ a c, v = .slice a l.length c := by obtain ⟨_, _, a, c, rfl, _⟩ := h; exact ⟨a, c, rfl⟩
  go_enter Tryz.func16, Tryz.ntmps16
  go_wp2_with fail
  have hn := heap_alloc_new w (.cells #[.slice a l.length c, .int .i64 fin, .int .i64 0, .string ⟨#[]⟩, .int .i64 0, .int .i64 0, .int .i64 0] 71)
  have r0 : Rd0 (w.alloc (.cells #[.slice a l.length c, .int .i64 fin, .int .i64 0, .string ⟨#[]⟩, .int .i64 0, .int .i64 0, .int .i64 0] 71)) w.heap.size ⟨l, fin, 0, 0⟩ :=
    ⟨⟨_, _, _, _, hn, h.alloc _, hap, hcap⟩, hfew, by exact ⟨Nat.zero_le _, Nat.zero_le _⟩⟩
  refine (look_any _ _ _ r0).mono ?_
  rintro e w1 ⟨rfl, r1, o1⟩
  go_wp2_with fail
  go_ret
  exact ⟨rfl, r1, o1.to_below (Nat.le_refl _) ((Below.refl _ _).alloc (Nat.le_refl _) _) (by simp)⟩

theorem assertStop (W : World) (v : Value) : (Instr.typeAssert (.iface 38 v) 20 38 true).run Tryz.prog W = .ok (.tuple #[v, .bool true]) W := by kernel_rfl

/-- nothing was raised -/
theorem catch_idle (p q : Addr) (w : World) :
    CallsD Tryz.prog 15 #[.pointer (some p), .pointer (some q)] .returning w fun e u' w' => e = .returned (.tuple #[]) ∧ u' = .returning ∧ w' = w := by
  refine callsD_of_wpS Tryz.func15 rfl fun c₀ cs hu => ?_
  apply wpS_seq
  apply wpS_region
  simp [wpOpsS, go_sem, recoverD, hu, Tryz.ntmps15, Exit.thenS]
  have htm : #[Value.pointer (some p), Value.pointer (some q)] ++ ((Array.replicate 17 undef).setIfInBounds 3 (Value.nilIface)).setIfInBounds 0 (Value.nilIface) = #[.pointer (some p), .pointer (some q), Value.nilIface, undef, undef, Value.nilIface, undef, undef, undef, undef, undef, undef, undef, undef, undef, undef, undef, undef, undef] := by
    rw [show Array.replicate 17 undef = #[undef, undef, undef, undef, undef, undef, undef, undef, undef, undef, undef, undef, undef, undef, undef, undef, undef] from rfl]
    simp only [List.setIfInBounds_toArray, List.set_cons_succ, List.set_cons_zero, List.append_toArray, List.cons_append, List.nil_append]
  rw [htm]
  clear htm
  refine wpS_of_wp ?_
  go_wp2_with fail
  cases c₀
  simp_all [bodyPostS, results, Tryz.results15]

set_option maxRecDepth 20000 in
set_option maxHeartbeats 800000 in
theorem catch_stop (p q : Nat) (f : M.Flt) (older : List PanicEntry) (w : World) (v0 v1 v2 : Value) (hpq : p ≠ q) (hp : w.heap[p]? = some (.cells #[v0] 25 (0, 0))) (hq : w.heap[q]? = some (.cells #[v1, v2] 28 (0, 0))) :
    CallsD Tryz.prog 15 #[.pointer (some ⟨p, 0, none⟩), .pointer (some ⟨q, 0, none⟩)] (.panicking ({ v := .iface 38 (.agg #[.int .i64 f.1, .int .i64 f.2]), recovered := false } :: older)) w fun e u' w' =>
      e = .returned (.tuple #[]) ∧ u' = .panicking ({ v := .iface 38 (.agg #[.int .i64 f.1, .int .i64 f.2]), recovered := true } :: older) ∧ w'.heap[p]? = some (.cells #[.slice none 0 0] 25 (0, 0)) ∧ w'.heap[q]? = some (.cells #[.int .i64 f.1, .int .i64 f.2] 28 (0, 0)) ∧ ∀ B, B ≤ p → B ≤ q → B ≤ w.heap.size → Below B w w' := by
  have hta := fun W v => assertStop W v
  have cp := cell0 hp
  have cpf := Lib.frozen_of_heap hp 0
  have cq0 : w.cell? ⟨q, 0, none⟩ = some v1 := by rw [Lib.cell_of_heap hq]; rfl
  have cq1 : w.cell? ⟨q, 1, none⟩ = some v2 := by rw [Lib.cell_of_heap hq]; rfl
  have cqf := fun i => Lib.frozen_of_heap hq i
  have hlp := (Array.getElem?_eq_some_iff.1 hp).1
  have hlq := (Array.getElem?_eq_some_iff.1 hq).1
  have hpq1 : ¬ p = q := hpq
  have hpq2 : ¬ q = p := fun e => hpq e.symm
  refine callsD_of_wpS Tryz.func15 rfl fun c₀ cs hu => ?_
  apply wpS_seq
  apply wpS_region
  simp [wpOpsS, go_sem, recoverD, hu, Tryz.ntmps15, Exit.thenS]
  have htm : #[Value.pointer (some ⟨p, 0, none⟩), Value.pointer (some ⟨q, 0, none⟩)] ++ ((Array.replicate 17 undef).setIfInBounds 3 (Value.iface 38 (.agg #[.int .i64 f.1, .int .i64 f.2]))).setIfInBounds 0 (Value.iface 38 (.agg #[.int .i64 f.1, .int .i64 f.2])) = #[.pointer (some ⟨p, 0, none⟩), .pointer (some ⟨q, 0, none⟩), Value.iface 38 (.agg #[.int .i64 f.1, .int .i64 f.2]), undef, undef, Value.iface 38 (.agg #[.int .i64 f.1, .int .i64 f.2]), undef, undef, undef, undef, undef, undef, undef, undef, undef, undef, undef, undef, undef] := by
    rw [show Array.replicate 17 undef = #[undef, undef, undef, undef, undef, undef, undef, undef, undef, undef, undef, undef, undef, undef, undef, undef, undef] from rfl]
    simp only [List.setIfInBounds_toArray, List.set_cons_succ, List.set_cons_zero, List.append_toArray, List.cons_append, List.nil_append]
  rw [htm]
  clear htm
  refine wpS_of_wp ?_
  go_wp2_with fail
  go_region
  have hW : Below 0 w w := Below.refl _ _
  have e1 : ((w.setCell ⟨p, 0, none⟩ (.slice none 0 0)).setCell ⟨q, 0, none⟩ (.int .i64 f.1)).heap[q]? = some (.cells #[.int .i64 f.1, v2] 28 (0, 0)) :=
    heap_setCell_same _ _ _ _ _ _ ((Below.heap_setCell _ _ _ _ hpq2).trans hq)
  refine ⟨rfl, _, rfl, _, results_none rfl _ _ _, rfl, rfl, ?_, ?_, ?_⟩
  · show ((((w.setCell ⟨p, 0, none⟩ (.slice none 0 0)).setCell ⟨q, 0, none⟩ (.int .i64 f.1)).setCell ⟨q, 1, none⟩ (.int .i64 f.2)).alloc _).heap[p]? = _
    rw [Below.heap_alloc _ _ _ (by simpa [World.setCell] using hlp), Below.heap_setCell _ _ _ _ hpq1, Below.heap_setCell _ _ _ _ hpq1]
    exact heap_setCell_same _ _ _ _ _ _ hp
  · show ((((w.setCell ⟨p, 0, none⟩ (.slice none 0 0)).setCell ⟨q, 0, none⟩ (.int .i64 f.1)).setCell ⟨q, 1, none⟩ (.int .i64 f.2)).alloc _).heap[q]? = _
    rw [Below.heap_alloc _ _ _ (by simpa [World.setCell] using hlq)]
    exact heap_setCell_same _ _ _ _ _ _ e1
  · intro B h1 h2 h3
    exact ((((Below.refl B w).setCell (p := ⟨p, 0, none⟩) h1 _).setCell (p := ⟨q, 0, none⟩) h2 _).setCell (p := ⟨q, 1, none⟩) h2 _).alloc (by simpa [World.setCell] using h3) _ |>.drew
end Go.Proofs.YtkonkdhoakcmdaaGreatDoor
