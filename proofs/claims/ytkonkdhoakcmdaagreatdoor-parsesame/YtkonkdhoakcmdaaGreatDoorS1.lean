/-
  Lists of texts and of operands in memory, and the walks of proteanref02.Texts, slices.Equal over texts and over operands. No conditions.
-/
import Derived.Test.YtkonkdhoakcmdaaGreatDoorR19
set_option linter.unusedVariables false
namespace Go.Proofs.YtkonkdhoakcmdaaGreatDoor
open Go.RowKit

theorem strs_cells {w : World} {X : Nat → Prop} {v : Value} {l : List ByteArray} (h : StrsAt w X v l) : l.length ≤ 4398046511104 ∧ ∃ a cap, v = .slice a l.length cap ∧ (l = [] ∨ ∃ b o, a = some ⟨b, o, none⟩ ∧ b < w.heap.size ∧ ∀ i (hi : i < l.length), w.cell? ⟨b, o + i, none⟩ = some (.string l[i])) := by
  obtain ⟨h1, a, cap, rfl, h2⟩ := h
  refine ⟨h1, a, cap, rfl, ?_⟩
  rcases h2 with ⟨h2, _⟩ | ⟨b, o, rfl, hlt, _, hc⟩
  · exact .inl (List.length_eq_zero_iff.1 h2)
  · exact .inr ⟨b, o, rfl, hlt, fun i hi => hc i _ (by simp [hi])⟩
theorem op_get : ∀ (l : List M.Opd) (i : Nat) (h : i < l.length), (l.flatMap opCells)[i * 3]? = some (.int .i64 l[i].k) ∧ (l.flatMap opCells)[i * 3 + 1]? = some (.int .i64 l[i].n) ∧ (l.flatMap opCells)[i * 3 + 2]? = some (.string l[i].s)
  | [], i, h => absurd h (by simp)
  | x :: r, 0, h => ⟨rfl, rfl, rfl⟩
  | x :: r, i + 1, h => by
    obtain ⟨h1, h2, h3⟩ := op_get r i (by simpa using h)
    have e : (x :: r).flatMap opCells = .int .i64 x.k :: .int .i64 x.n :: .string x.s :: r.flatMap opCells := rfl
    rw [e, show (i + 1) * 3 = i * 3 + 1 + 1 + 1 by omega]
    exact ⟨by simpa using h1, by simpa using h2, by simpa using h3⟩
theorem ops_cells {w : World} {X : Nat → Prop} {v : Value} {l : List M.Opd} (h : OpsAt w X v l) : l.length ≤ 4398046511104 ∧ ∃ a cap, v = .slice a l.length cap ∧ (l = [] ∨ ∃ b o, a = some ⟨b, o, none⟩ ∧ b < w.heap.size ∧ ∀ i (hi : i < l.length), w.cell? ⟨b, o + i * 3, none⟩ = some (.int .i64 l[i].k) ∧ w.cell? ⟨b, o + i * 3 + 1, none⟩ = some (.int .i64 l[i].n) ∧ w.cell? ⟨b, o + i * 3 + 2, none⟩ = some (.string l[i].s)) := by
  obtain ⟨h1, a, cap, rfl, h2⟩ := h
  refine ⟨h1, a, cap, rfl, ?_⟩
  rcases h2 with ⟨h2, _⟩ | ⟨b, o, rfl, hlt, _, hc⟩
  · exact .inl (List.length_eq_zero_iff.1 h2)
  · refine .inr ⟨b, o, rfl, hlt, fun i hi => ?_⟩
    obtain ⟨e1, e2, e3⟩ := op_get l i hi
    exact ⟨hc _ _ e1, hc _ _ e2, hc _ _ e3⟩

theorem stoodOp : Tryz.prog.stoodInHeld 61 = false := by kernel_rfl
theorem guardOp : Tryz.prog.eqGuardType Tryz.prog.depth 61 = false := by kernel_rfl
theorem neq_op (x y : M.Opd) (w : World) : (binOp .neq 61 (.agg #[.int .i64 x.k, .int .i64 x.n, .string x.s]) (.agg #[.int .i64 y.k, .int .i64 y.n, .string y.s])).run Tryz.prog w = .ok (.bool (!decide (x = y))) w := by
  rw [run_neq_struct, run_equalIn_agg _ _ _ _ _ (by kernel_rfl) stoodOp]
  obtain ⟨a, b, c⟩ := x
  obtain ⟨d, e, f⟩ := y
  simp [go_sem]
  by_cases h1 : a = d <;> by_cases h2 : b = e <;> by_cases h3 : c = f <;> simp [h1, h2, h3, toList_inj]
theorem take_eq {α : Type} {l m : List α} {j : Nat} (h1 : j < l.length) (h2 : j < m.length) (h : l.take j = m.take j) (he : l[j] = m[j]) : l.take (j + 1) = m.take (j + 1) := by
  rw [List.take_succ_eq_append_getElem h1, List.take_succ_eq_append_getElem h2, h, he]

set_option maxHeartbeats 800000 in
theorem texts_any (X Y : Nat → Prop) (v1 v2 : Value) (t1 t2 : List ByteArray) (w : World) (h1 : StrsAt w X v1 t1) (h2 : StrsAt w Y v2 t2) :
    Calls Tryz.prog 23 #[v1, v2] w fun e w' => e = .returned (.bool (decide (t1 = t2))) ∧ ∃ n, w' = w.drewN n := by
  obtain ⟨l1, a1, cap1, rfl, g1⟩ := strs_cells h1
  obtain ⟨l2, a2, cap2, rfl, g2⟩ := strs_cells h2
  by_cases hl : t1.length = t2.length
  · have hd : ((t1.length : Int) != (t2.length : Int)) = false := by simp [hl]
    rcases g1 with rfl | ⟨b1, o1, rfl, hlt1, hc1⟩
    · obtain rfl : t2 = [] := by cases t2 with | nil => rfl | cons _ _ => simp at hl
      go_enter Tryz.func23, Tryz.ntmps23
      go_wp2
      go_loop [5] (fun i => i = .int .i64 0) (fun _ => 0)
      case atStart => rfl
      case round =>
        subst hrel
        go_wp2
        go_ret
        exact ⟨rfl, 0, rfl⟩
    · rcases g2 with rfl | ⟨b2, o2, rfl, hlt2, hc2⟩
      · obtain rfl : t1 = [] := by cases t1 with | nil => rfl | cons _ _ => simp at hl
        go_enter Tryz.func23, Tryz.ntmps23
        go_wp2
        go_loop [5] (fun i => i = .int .i64 0) (fun _ => 0)
        case atStart => rfl
        case round =>
          subst hrel
          go_wp2
          go_ret
          exact ⟨rfl, 0, rfl⟩
      · have HL : Hid (t1.length = t2.length) := hl
        clear hl
        go_enter Tryz.func23, Tryz.ntmps23
        go_wp2
        go_loopw [5] (fun i w' => ∃ j : Nat, j ≤ t1.length ∧ i = .int .i64 j ∧ t1.take j = t2.take j ∧ ∃ n, w' = w.drewN n) (fun i _ => t1.length - (intOf i).toNat)
        case atStart => exact ⟨0, Nat.zero_le _, rfl, rfl, 0, rfl⟩
        case round =>
          obtain ⟨j, hj, rfl, hm, n, rfl⟩ := hrel
          have HM : Hid (t1.take j = t2.take j) := hm
          clear hm
          by_cases hjl : j < t1.length
          · have hjl2 : j < t2.length := by have := HL.out; omega
            have c1 := hc1 j hjl
            have d1 := hc2 j hjl2
            by_cases heq : t1[j] = t2[j]
            · have HE : Hid (t1[j] = t2[j]) := heq
              have hne : (t1[j].toList == t2[j].toList) = true := by rw [beq_list]; exact decide_eq_true heq
              clear heq
              go_wp2_with fail
              go_quiet (fail)
              go_wp2
              refine ⟨⟨j + 1, by omega, by go_num, take_eq hjl hjl2 HM.out HE.out, _, rfl⟩, by simp [intOf]; omega⟩
            · have HE : Hid (¬ t1[j] = t2[j]) := heq
              have hne : (t1[j].toList == t2[j].toList) = false := by rw [beq_list]; exact decide_eq_false heq
              clear heq
              go_wp2_with fail
              go_quiet (fail)
              go_wp2
              go_ret
              refine ⟨ret_bool (decide_eq_false ?_).symm, _, drewN_drewN _ _ _⟩
              intro h; subst h; exact HE.out rfl
          · go_wp2
            go_ret
            refine ⟨ret_bool (decide_eq_true ?_).symm, _, rfl⟩
            have := HM.out
            rw [List.take_of_length_le (by omega), List.take_of_length_le (by have := HL.out; omega)] at this
            exact this
  · have hd : ((t1.length : Int) != (t2.length : Int)) = true := by simp; omega
    have HN : Hid (t1 ≠ t2) := fun h => hl (by rw [h])
    clear hl
    go_enter Tryz.func23, Tryz.ntmps23
    go_wp2
    go_ret
    exact ⟨ret_bool (decide_eq_false HN.out).symm, 0, rfl⟩

set_option maxHeartbeats 800000 in
theorem opsEq_any (X Y : Nat → Prop) (v1 v2 : Value) (t1 t2 : List M.Opd) (w : World) (h1 : OpsAt w X v1 t1) (h2 : OpsAt w Y v2 t2) :
    Calls Tryz.prog 73 #[v1, v2] w fun e w' => e = .returned (.bool (decide (t1 = t2))) ∧ ∃ n, w' = w.drewN n := by
  obtain ⟨l1, a1, cap1, rfl, g1⟩ := ops_cells h1
  obtain ⟨l2, a2, cap2, rfl, g2⟩ := ops_cells h2
  by_cases hl : t1.length = t2.length
  · have hd : ((t1.length : Int) != (t2.length : Int)) = false := by simp [hl]
    rcases g1 with rfl | ⟨b1, o1, rfl, hlt1, hc1⟩
    · obtain rfl : t2 = [] := by cases t2 with | nil => rfl | cons _ _ => simp at hl
      go_enter Tryz.func73, Tryz.ntmps73
      go_wp2
      go_loop [13] (fun i => i = .int .i64 0) (fun _ => 0)
      case atStart => rfl
      case round =>
        subst hrel
        go_wp2
        go_ret
        exact ⟨rfl, 0, rfl⟩
    · rcases g2 with rfl | ⟨b2, o2, rfl, hlt2, hc2⟩
      · obtain rfl : t1 = [] := by cases t1 with | nil => rfl | cons _ _ => simp at hl
        go_enter Tryz.func73, Tryz.ntmps73
        go_wp2
        go_loop [13] (fun i => i = .int .i64 0) (fun _ => 0)
        case atStart => rfl
        case round =>
          subst hrel
          go_wp2
          go_ret
          exact ⟨rfl, 0, rfl⟩
      · have HL : Hid (t1.length = t2.length) := hl
        clear hl
        go_enter Tryz.func73, Tryz.ntmps73
        go_wp2
        go_loopw [13] (fun i w' => ∃ j : Nat, j ≤ t1.length ∧ i = .int .i64 j ∧ t1.take j = t2.take j ∧ ∃ n, w' = w.drewN n) (fun i _ => t1.length - (intOf i).toNat)
        case atStart => exact ⟨0, Nat.zero_le _, rfl, rfl, 0, rfl⟩
        case round =>
          obtain ⟨j, hj, rfl, hm, n, rfl⟩ := hrel
          have HM : Hid (t1.take j = t2.take j) := hm
          clear hm
          by_cases hjl : j < t1.length
          · have hjl2 : j < t2.length := by have := HL.out; omega
            obtain ⟨c1, c2, c3⟩ := hc1 j hjl
            obtain ⟨d1, d2, d3⟩ := hc2 j hjl2
            have hsO := stoodOp
            have hgO := guardOp
            by_cases heq : t1[j] = t2[j]
            · have HE : Hid (t1[j] = t2[j]) := heq
              have hne := fun w' => neq_op t1[j] t2[j] w'
              simp only [decide_eq_true heq, Bool.not_true] at hne
              clear heq
              go_wp2_with fail
              go_quiet (fail)
              go_wp2
              refine ⟨⟨j + 1, by omega, by go_num, take_eq hjl hjl2 HM.out HE.out, _, rfl⟩, by simp [intOf]; omega⟩
            · have HE : Hid (¬ t1[j] = t2[j]) := heq
              have hne := fun w' => neq_op t1[j] t2[j] w'
              simp only [decide_eq_false heq, Bool.not_false] at hne
              clear heq
              go_wp2_with fail
              go_quiet (fail)
              go_wp2
              go_ret
              refine ⟨ret_bool (decide_eq_false ?_).symm, _, drewN_drewN _ _ _⟩
              intro h; subst h; exact HE.out rfl
          · go_wp2
            go_ret
            refine ⟨ret_bool (decide_eq_true ?_).symm, _, rfl⟩
            have := HM.out
            rw [List.take_of_length_le (by omega), List.take_of_length_le (by have := HL.out; omega)] at this
            exact this
  · have hd : ((t1.length : Int) != (t2.length : Int)) = true := by simp; omega
    have HN : Hid (t1 ≠ t2) := fun h => hl (by rw [h])
    clear hl
    go_enter Tryz.func73, Tryz.ntmps73
    go_wp2
    go_ret
    exact ⟨ret_bool (decide_eq_false HN.out).symm, 0, rfl⟩

set_option maxHeartbeats 800000 in
theorem strsEq_any (X Y : Nat → Prop) (v1 v2 : Value) (t1 t2 : List ByteArray) (w : World) (h1 : StrsAt w X v1 t1) (h2 : StrsAt w Y v2 t2) :
    Calls Tryz.prog 46 #[v1, v2] w fun e w' => e = .returned (.bool (decide (t1 = t2))) ∧ ∃ n, w' = w.drewN n := by
  obtain ⟨l1, a1, cap1, rfl, g1⟩ := strs_cells h1
  obtain ⟨l2, a2, cap2, rfl, g2⟩ := strs_cells h2
  by_cases hl : t1.length = t2.length
  · have hd : ((t1.length : Int) != (t2.length : Int)) = false := by simp [hl]
    rcases g1 with rfl | ⟨b1, o1, rfl, hlt1, hc1⟩
    · obtain rfl : t2 = [] := by cases t2 with | nil => rfl | cons _ _ => simp at hl
      go_enter Tryz.func46, Tryz.ntmps46
      go_wp2
      go_loop [13] (fun i => i = .int .i64 0) (fun _ => 0)
      case atStart => rfl
      case round =>
        subst hrel
        go_wp2
        go_ret
        exact ⟨rfl, 0, rfl⟩
    · rcases g2 with rfl | ⟨b2, o2, rfl, hlt2, hc2⟩
      · obtain rfl : t1 = [] := by cases t1 with | nil => rfl | cons _ _ => simp at hl
        go_enter Tryz.func46, Tryz.ntmps46
        go_wp2
        go_loop [13] (fun i => i = .int .i64 0) (fun _ => 0)
        case atStart => rfl
        case round =>
          subst hrel
          go_wp2
          go_ret
          exact ⟨rfl, 0, rfl⟩
      · have HL : Hid (t1.length = t2.length) := hl
        clear hl
        go_enter Tryz.func46, Tryz.ntmps46
        go_wp2
        go_loopw [13] (fun i w' => ∃ j : Nat, j ≤ t1.length ∧ i = .int .i64 j ∧ t1.take j = t2.take j ∧ ∃ n, w' = w.drewN n) (fun i _ => t1.length - (intOf i).toNat)
        case atStart => exact ⟨0, Nat.zero_le _, rfl, rfl, 0, rfl⟩
        case round =>
          obtain ⟨j, hj, rfl, hm, n, rfl⟩ := hrel
          have HM : Hid (t1.take j = t2.take j) := hm
          clear hm
          by_cases hjl : j < t1.length
          · have hjl2 : j < t2.length := by have := HL.out; omega
            have c1 := hc1 j hjl
            have d1 := hc2 j hjl2
            by_cases heq : t1[j] = t2[j]
            · have HE : Hid (t1[j] = t2[j]) := heq
              have hne : (t1[j].toList == t2[j].toList) = true := by rw [beq_list]; exact decide_eq_true heq
              clear heq
              go_wp2_with fail
              go_quiet (fail)
              go_wp2
              refine ⟨⟨j + 1, by omega, by go_num, take_eq hjl hjl2 HM.out HE.out, _, rfl⟩, by simp [intOf]; omega⟩
            · have HE : Hid (¬ t1[j] = t2[j]) := heq
              have hne : (t1[j].toList == t2[j].toList) = false := by rw [beq_list]; exact decide_eq_false heq
              clear heq
              go_wp2_with fail
              go_quiet (fail)
              go_wp2
              go_ret
              refine ⟨ret_bool (decide_eq_false ?_).symm, _, drewN_drewN _ _ _⟩
              intro h; subst h; exact HE.out rfl
          · go_wp2
            go_ret
            refine ⟨ret_bool (decide_eq_true ?_).symm, _, rfl⟩
            have := HM.out
            rw [List.take_of_length_le (by omega), List.take_of_length_le (by have := HL.out; omega)] at this
            exact this
  · have hd : ((t1.length : Int) != (t2.length : Int)) = true := by simp; omega
    have HN : Hid (t1 ≠ t2) := fun h => hl (by rw [h])
    clear hl
    go_enter Tryz.func46, Tryz.ntmps46
    go_wp2
    go_ret
    exact ⟨ret_bool (decide_eq_false HN.out).symm, 0, rfl⟩
end Go.Proofs.YtkonkdhoakcmdaaGreatDoor
