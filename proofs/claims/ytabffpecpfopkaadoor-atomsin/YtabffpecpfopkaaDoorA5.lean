/-
  The walks of slices.Index and slices.Contains over atoms. Conditions: lists of at most 2^20 atoms.
-/
import Derived.Test.YtabffpecpfopkaaDoorA3
set_option linter.unusedVariables false
namespace Go.Proofs.YtabffpecpfopkaaDoor
open Go.RowKit Go.Sort
theorem stoodA : Tryd.prog.stoodInHeld 24 = false := by kernel_rfl
theorem guardA : Tryd.prog.eqGuardType Tryd.prog.depth 24 = false := by kernel_rfl
theorem eql_atm (x y : M.Atm) (w : World) : (binOp .eql 24 (.agg #[.int .i64 x.k, .int .i64 x.n]) (.agg #[.int .i64 y.k, .int .i64 y.n])).run Tryd.prog w = .ok (.bool (decide (x = y))) w := by
  rw [run_eql_struct, run_equalIn_agg _ _ _ _ _ (by kernel_rfl) stoodA]
  simp [go_sem]
  have : x = y ↔ x.k = y.k ∧ x.n = y.n := ⟨fun h => by rw [h]; exact ⟨rfl, rfl⟩, fun h => M.atm_ext h.1 h.2⟩
  by_cases h1 : x.k = y.k <;> by_cases h2 : x.n = y.n <;> simp [this, h1, h2]
theorem neq_atm (x y : M.Atm) (w : World) : (binOp .neq 24 (.agg #[.int .i64 x.k, .int .i64 x.n]) (.agg #[.int .i64 y.k, .int .i64 y.n])).run Tryd.prog w = .ok (.bool (!decide (x = y))) w := by
  rw [run_neq_struct, run_equalIn_agg _ _ _ _ _ (by kernel_rfl) stoodA]
  simp [go_sem]
  have : x = y ↔ x.k = y.k ∧ x.n = y.n := ⟨fun h => by rw [h]; exact ⟨rfl, rfl⟩, fun h => M.atm_ext h.1 h.2⟩
  by_cases h1 : x.k = y.k <;> by_cases h2 : x.n = y.n <;> simp [this, h1, h2]

set_option maxHeartbeats 1000000 in
theorem index_any (w : World) (v : Value) (l : List M.Atm) (x : M.Atm) (h : AtAt w v l) (hn : l.length ≤ 1048576) :
    Calls Tryd.prog 44 #[v, av x] w fun e w' => ∃ p : Int, e = .returned (.int .i64 p) ∧ Hid (decide (0 ≤ p) = M.has l x) ∧ Gr w w' := by
  obtain ⟨h0, a, cap, rfl, g⟩ := h
  clear h0
  have mixed := mixedP
  unfold av
  obtain ⟨n1, n2⟩ := new_two w (.int .i64 x.k) (.int .i64 x.n) 24
  simp only [Nat.zero_add] at n2
  rcases g with rfl | ⟨b, o, rfl, hlt, hr, hc⟩
  · clear n1 n2
    go_enter Tryd.func44, Tryd.ntmps44
    go_wp2
    go_loopw [8] (fun i w' => i = .int .i64 0 ∧ Hid (Gr w w')) (fun _ _ => 0)
    case atStart => exact ⟨rfl, (Gr.refl _).alloc _⟩
    case round =>
      obtain ⟨rfl, hg⟩ := hrel
      go_wp2
      go_ret
      exact ⟨_, rfl, rfl, hg.out⟩
  · have HC := hid hc
    clear hc hr
    have H1 := hid n1
    have H2 := hid n2
    clear n1 n2
    go_enter Tryd.func44, Tryd.ntmps44
    go_wp2
    go_loopw [8] (fun i w' => ∃ j : Nat, j ≤ l.length ∧ i = .int .i64 j ∧ Hid (x ∉ l.take j) ∧ Hid (∃ n, w' = (w.alloc (.cells #[.int .i64 x.k, .int .i64 x.n] 24)).drewN n)) (fun i _ => l.length - (intOf i).toNat)
    case atStart => exact ⟨0, Nat.zero_le _, rfl, (by simp [Hid]), ⟨0, rfl⟩⟩
    case round =>
      obtain ⟨j, hj, rfl, hm, hg⟩ := hrel
      obtain ⟨n, hw⟩ := hg.out
      clear hg
      have G0 : Hid (Gr w wr) := by rw [hw]; exact ((Gr.refl _).alloc _).drewN _
      by_cases hjl : j < l.length
      · have n1 : wr.cell? ⟨w.heap.size, 0, none⟩ = some (.int .i64 x.k) := by rw [hw]; exact H1.out
        have n2 : wr.cell? ⟨w.heap.size, 1, none⟩ = some (.int .i64 x.n) := by rw [hw]; exact H2.out
        obtain ⟨c1, c2⟩ := HC.out j hjl
        have c1 := old_cell (.cells #[.int .i64 x.k, .int .i64 x.n] 24) hlt c1
        have c2 := old_cell (.cells #[.int .i64 x.k, .int .i64 x.n] 24) hlt c2
        have d1 : wr.cell? ⟨b, o + j * 2, none⟩ = some (.int .i64 l[j].k) := by rw [hw]; exact c1
        have d2 : wr.cell? ⟨b, o + j * 2 + 1, none⟩ = some (.int .i64 l[j].n) := by rw [hw]; exact c2
        obtain ⟨y, hy⟩ : ∃ y, l[j] = y := ⟨_, rfl⟩
        rw [hy] at d1 d2
        have HY := hid hy
        have HW := hid hw
        clear hy hw c1 c2
        have hg1 := guardA
        have he := fun w' => eql_atm x y w'
        by_cases hxy : x = y
        · have HXY := hid hxy
          rw [decide_eq_true hxy] at he
          clear hxy
          go_wp2_with fail
          go_quiet (fail)
          go_wp2
          go_ret
          refine ⟨_, rfl, ?_, G0.out.drewN _⟩
          show _ = _
          rw [(M.has_iff l x).2 (by rw [HXY.out, ← HY.out]; exact List.getElem_mem hjl)]
          exact decide_eq_true (by omega)
        · have HXY := hid hxy
          rw [decide_eq_false hxy] at he
          clear hxy
          go_wp2_with fail
          go_quiet (fail)
          go_wp2
          refine ⟨⟨j + 1, by omega, by go_num, ?_, ⟨n + nq, by rw [HW.out, World.drewN_drewN]⟩⟩, by simp [intOf]; omega⟩
          show ¬ _
          rw [List.take_succ_eq_append_getElem hjl, List.mem_append, List.mem_singleton, HY.out]
          rintro (h | h)
          · exact hm.out h
          · exact HXY.out h
      · clear hw
        go_wp2
        go_ret
        refine ⟨_, rfl, ?_, G0.out⟩
        show _ = _
        have := hm.out
        rw [List.take_of_length_le (by omega)] at this
        rw [show M.has l x = false from decide_eq_false this]
        rfl

set_option maxHeartbeats 1000000 in
theorem contains_any (w : World) (v : Value) (l : List M.Atm) (x : M.Atm) (h : AtAt w v l) (hn : l.length ≤ 1048576) :
    Calls Tryd.prog 32 #[v, av x] w fun e w' => e = .returned (.bool (M.has l x)) ∧ Gr w w' := by
  have T := hid (h.bel ((Gr.refl w).alloc (.cells #[.int .i64 x.k, .int .i64 x.n] 24)).below)
  obtain ⟨a, cap, rfl⟩ := h.form
  clear h
  have I := index_any _ _ l x T.out hn
  unfold av at *
  go_enter Tryd.func32, Tryd.ntmps32
  go_wp2_with fail
  refine I.mono ?_
  rintro e w2 ⟨p, rfl, hp, hg⟩
  go_wp2
  go_ret
  exact ⟨ret_bool hp.out, ((Gr.refl w).alloc _).trans hg⟩
end Go.Proofs.YtabffpecpfopkaaDoor
