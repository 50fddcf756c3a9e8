/-
  Lists of texts and of operands in memory, and the walks of proteanref02.Texts, slices.Equal over texts and over operands. No conditions.
-/
import Derived.Test.YtkpmpnebmkeocaaGreatDoorRC
set_option linter.unusedVariables false
section
namespace Go.Proofs.YtkpmpnebmkeocaaGreatDoor
open Go.RowKit

theorem strs_cells {w : World} {X : Nat → Prop} {v : Value} {l : List ByteArray} (h : StrsAt w X v l) : l.length ≤ 4398046511104 ∧ ∃ a cap, v = .slice a l.length cap ∧ (l = [] ∨ ∃ b o, a = some ⟨b, o, none⟩ ∧ b < w.heap.size ∧ ∀ i (hi : i < l.length), w.cell? ⟨b, o + i, none⟩ = some (.string l[i])) := by
  obtain ⟨h1, a, cap, rfl, h2⟩ := h
  refine ⟨h1, a, cap, rfl, ?_⟩
  rcases h2 with ⟨h2, _⟩ | ⟨b, o, rfl, hlt, _, hc⟩
  · exact .inl (List.length_eq_zero_iff.1 h2)
  · exact .inr ⟨b, o, rfl, hlt, fun i hi => hc i _ (by simp [hi])⟩
theorem op_get : ∀ (l : List M.Opd) (i : Nat) (h : i < l.length), (l.flatMap opCells)[i * 3]? = some (.int .i64 l[i].k) ∧ (l.flatMap opCells)[i * 3 + 1]? = some (.int .i64 l[i].n) ∧ (l.flatMap opCells)[i * 3 + 2]? = some (.string l[i].s)
  | [], i, h => absurd h (by simp)
  | x :: r, 0, h => ⟨rfl, rfl, rfl⟩
  | x :: r, i + 1, h => by
    obtain ⟨h1, h2, h3⟩ := op_get r i (by simpa using h)
    have e : (x :: r).flatMap opCells = .int .i64 x.k :: .int .i64 x.n :: .string x.s :: r.flatMap opCells := rfl
    rw [e, show (i + 1) * 3 = i * 3 + 1 + 1 + 1 by omega]
    exact ⟨by simpa using h1, by simpa using h2, by simpa using h3⟩
theorem ops_cells {w : World} {X : Nat → Prop} {v : Value} {l : List M.Opd} (h : OpsAt w X v l) : l.length ≤ 4398046511104 ∧ ∃ a cap, v = .slice a l.length cap ∧ (l = [] ∨ ∃ b o, a = some ⟨b, o, none⟩ ∧ b < w.heap.size ∧ ∀ i (hi : i < l.length), w.cell? ⟨b, o + i * 3, none⟩ = some (.int .i64 l[i].k) ∧ w.cell? ⟨b, o + i * 3 + 1, none⟩ = some (.int .i64 l[i].n) ∧ w.cell? ⟨b, o + i * 3 + 2, none⟩ = some (.string l[i].s)) := by
  obtain ⟨h1, a, cap, rfl, h2⟩ := h
  refine ⟨h1, a, cap, rfl, ?_⟩
  rcases h2 with ⟨h2, _⟩ | ⟨b, o, rfl, hlt, _, hc⟩
  · exact .inl (List.length_eq_zero_iff.1 h2)
  · refine .inr ⟨b, o, rfl, hlt, fun i hi => ?_⟩
    obtain ⟨e1, e2, e3⟩ := op_get l i hi
    exact ⟨hc _ _ e1, hc _ _ e2, hc _ _ e3⟩

theorem stoodOp : Tryz.prog.stoodInHeld 47 = false := by kernel_rfl
theorem guardOp : Tryz.prog.eqGuardType Tryz.prog.depth 47 = false := by kernel_rfl
theorem neq_op (x y : M.Opd) (w : World) : (binOp .neq 47 (.agg #[.int .i64 x.k, .int .i64 x.n, .string x.s]) (.agg #[.int .i64 y.k, .int .i64 y.n, .string y.s])).run Tryz.prog w = .ok (.bool (!decide (x = y))) w := by
  rw [run_neq_struct, run_equalIn_agg _ _ _ _ _ (by kernel_rfl) stoodOp]
  obtain ⟨a, b, c⟩ := x
  obtain ⟨d, e, f⟩ := y
  simp [go_sem]
  by_cases h1 : a = d <;> by_cases h2 : b = e <;> by_cases h3 : c = f <;> simp [h1, h2, h3, toList_inj]
theorem take_eq {α : Type} {l m : List α} {j : Nat} (h1 : j < l.length) (h2 : j < m.length) (h : l.take j = m.take j) (he : l[j] = m[j]) : l.take (j + 1) = m.take (j + 1) := by
  rw [List.take_succ_eq_append_getElem h1, List.take_succ_eq_append_getElem h2, h, he]

set_option maxHeartbeats 800000 in
theorem texts_any (X Y : Nat → Prop) (v1 v2 : Value) (t1 t2 : List ByteArray) (w : World) (h1 : StrsAt w X v1 t1) (h2 : StrsAt w Y v2 t2) :
    Calls Tryz.prog 31 #[v1, v2] w fun e w' => e = .returned (.bool (decide (t1 = t2))) ∧ ∃ n, w' = w.drewN n := by
  obtain ⟨l1, a1, cap1, rfl, g1⟩ := strs_cells h1
  obtain ⟨l2, a2, cap2, rfl, g2⟩ := strs_cells h2
  by_cases hl : t1.length = t2.length
  · have hd : ((t1.length : Int) != (t2.length : Int)) = false := by simp [hl]
    rcases g1 with rfl | ⟨b1, o1, rfl, hlt1, hc1⟩
    · obtain rfl : t2 = [] := by cases t2 with | nil => rfl | cons _ _ => simp at hl
      go_enter Tryz.func31, Tryz.ntmps31
      go_wp2
      go_loop [5] (fun i => i = .int .i64 0) (fun _ => 0)
      case atStart => rfl
      case round =>
        subst hrel
        go_wp2
        go_ret
        exact ⟨rfl, 0, rfl⟩
    · rcases g2 with rfl | ⟨b2, o2, rfl, hlt2, hc2⟩
      · obtain rfl : t1 = [] := by cases t1 with | nil => rfl | cons _ _ => simp at hl
        go_enter Tryz.func31, Tryz.ntmps31
        go_wp2
        go_loop [5] (fun i => i = .int .i64 0) (fun _ => 0)
        case atStart => rfl
        case round =>
          subst hrel
          go_wp2
          go_ret
          exact ⟨rfl, 0, rfl⟩
      · have HL : Hid (t1.length = t2.length) := hl
        clear hl
        go_enter Tryz.func31, Tryz.ntmps31
        go_wp2
        go_loopw [5] (fun i w' => ∃ j : Nat, j ≤ t1.length ∧ i = .int .i64 j ∧ t1.take j = t2.take j ∧ ∃ n, w' = w.drewN n) (fun i _ => t1.length - (intOf i).toNat)
        case atStart => exact ⟨0, Nat.zero_le _, rfl, rfl, 0, rfl⟩
        case round =>
          obtain ⟨j, hj, rfl, hm, n, rfl⟩ := hrel
          have HM : Hid (t1.take j = t2.take j) := hm
          clear hm
          by_cases hjl : j < t1.length
          · have hjl2 : j < t2.length := by have := HL.out; omega
            have c1 := hc1 j hjl
            have d1 := hc2 j hjl2
            by_cases heq : t1[j] = t2[j]
            · have HE : Hid (t1[j] = t2[j]) := heq
              have hne : (t1[j].toList == t2[j].toList) = true := by rw [beq_list]; exact decide_eq_true heq
              clear heq
              go_wp2_with fail
              go_quiet (fail)
              go_wp2
              refine ⟨⟨j + 1, by omega, by go_num, take_eq hjl hjl2 HM.out HE.out, _, rfl⟩, by simp [intOf]; omega⟩
            · have HE : Hid (¬ t1[j] = t2[j]) := heq
              have hne : (t1[j].toList == t2[j].toList) = false := by rw [beq_list]; exact decide_eq_false heq
              clear heq
              go_wp2_with fail
              go_quiet (fail)
              go_wp2
              go_ret
              refine ⟨ret_bool (decide_eq_false ?_).symm, _, drewN_drewN _ _ _⟩
              intro h; subst h; exact HE.out rfl
          · go_wp2
            go_ret
            refine ⟨ret_bool (decide_eq_true ?_).symm, _, rfl⟩
            have := HM.out
            rw [List.take_of_length_le (by omega), List.take_of_length_le (by have := HL.out; omega)] at this
            exact this
  · have hd : ((t1.length : Int) != (t2.length : Int)) = true := by simp; omega
    have HN : Hid (t1 ≠ t2) := fun h => hl (by rw [h])
    clear hl
    go_enter Tryz.func31, Tryz.ntmps31
    go_wp2
    go_ret
    exact ⟨ret_bool (decide_eq_false HN.out).symm, 0, rfl⟩

set_option maxHeartbeats 800000 in
theorem opsEq_any (X Y : Nat → Prop) (v1 v2 : Value) (t1 t2 : List M.Opd) (w : World) (h1 : OpsAt w X v1 t1) (h2 : OpsAt w Y v2 t2) :
    Calls Tryz.prog 109 #[v1, v2] w fun e w' => e = .returned (.bool (decide (t1 = t2))) ∧ ∃ n, w' = w.drewN n := by
  obtain ⟨l1, a1, cap1, rfl, g1⟩ := ops_cells h1
  obtain ⟨l2, a2, cap2, rfl, g2⟩ := ops_cells h2
  by_cases hl : t1.length = t2.length
  · have hd : ((t1.length : Int) != (t2.length : Int)) = false := by simp [hl]
    rcases g1 with rfl | ⟨b1, o1, rfl, hlt1, hc1⟩
    · obtain rfl : t2 = [] := by cases t2 with | nil => rfl | cons _ _ => simp at hl
      go_enter Tryz.func109, Tryz.ntmps109
      go_wp2
      go_loop [13] (fun i => i = .int .i64 0) (fun _ => 0)
      case atStart => rfl
      case round =>
        subst hrel
        go_wp2
        go_ret
        exact ⟨rfl, 0, rfl⟩
    · rcases g2 with rfl | ⟨b2, o2, rfl, hlt2, hc2⟩
      · obtain rfl : t1 = [] := by cases t1 with | nil => rfl | cons _ _ => simp at hl
        go_enter Tryz.func109, Tryz.ntmps109
        go_wp2
        go_loop [13] (fun i => i = .int .i64 0) (fun _ => 0)
        case atStart => rfl
        case round =>
          subst hrel
          go_wp2
          go_ret
          exact ⟨rfl, 0, rfl⟩
      · have HL : Hid (t1.length = t2.length) := hl
        clear hl
        go_enter Tryz.func109, Tryz.ntmps109
        go_wp2
        go_loopw [13] (fun i w' => ∃ j : Nat, j ≤ t1.length ∧ i = .int .i64 j ∧ t1.take j = t2.take j ∧ ∃ n, w' = w.drewN n) (fun i _ => t1.length - (intOf i).toNat)
        case atStart => exact ⟨0, Nat.zero_le _, rfl, rfl, 0, rfl⟩
        case round =>
          obtain ⟨j, hj, rfl, hm, n, rfl⟩ := hrel
          have HM : Hid (t1.take j = t2.take j) := hm
          clear hm
          by_cases hjl : j < t1.length
          · have hjl2 : j < t2.length := by have := HL.out; omega
            obtain ⟨c1, c2, c3⟩ := hc1 j hjl
            obtain ⟨d1, d2, d3⟩ := hc2 j hjl2
            have hsO := stoodOp
            have hgO := guardOp
            by_cases heq : t1[j] = t2[j]
            · have HE : Hid (t1[j] = t2[j]) := heq
              have hne := fun w' => neq_op t1[j] t2[j] w'
              simp only [decide_eq_true heq, Bool.not_true] at hne
              clear heq
              go_wp2_with fail
              go_quiet (fail)
              go_wp2
              refine ⟨⟨j + 1, by omega, by go_num, take_eq hjl hjl2 HM.out HE.out, _, rfl⟩, by simp [intOf]; omega⟩
            · have HE : Hid (¬ t1[j] = t2[j]) := heq
              have hne := fun w' => neq_op t1[j] t2[j] w'
              simp only [decide_eq_false heq, Bool.not_false] at hne
              clear heq
              go_wp2_with fail
              go_quiet (fail)
              go_wp2
              go_ret
              refine ⟨ret_bool (decide_eq_false ?_).symm, _, drewN_drewN _ _ _⟩
              intro h; subst h; exact HE.out rfl
          · go_wp2
            go_ret
            refine ⟨ret_bool (decide_eq_true ?_).symm, _, rfl⟩
            have := HM.out
            rw [List.take_of_length_le (by omega), List.take_of_length_le (by have := HL.out; omega)] at this
            exact this
  · have hd : ((t1.length : Int) != (t2.length : Int)) = true := by simp; omega
    have HN : Hid (t1 ≠ t2) := fun h => hl (by rw [h])
    clear hl
    go_enter Tryz.func109, Tryz.ntmps109
    go_wp2
    go_ret
    exact ⟨ret_bool (decide_eq_false HN.out).symm, 0, rfl⟩

set_option maxHeartbeats 800000 in
theorem strsEq_any (X Y : Nat → Prop) (v1 v2 : Value) (t1 t2 : List ByteArray) (w : World) (h1 : StrsAt w X v1 t1) (h2 : StrsAt w Y v2 t2) :
    Calls Tryz.prog 85 #[v1, v2] w fun e w' => e = .returned (.bool (decide (t1 = t2))) ∧ ∃ n, w' = w.drewN n := by
  obtain ⟨l1, a1, cap1, rfl, g1⟩ := strs_cells h1
  obtain ⟨l2, a2, cap2, rfl, g2⟩ := strs_cells h2
  by_cases hl : t1.length = t2.length
  · have hd : ((t1.length : Int) != (t2.length : Int)) = false := by simp [hl]
    rcases g1 with rfl | ⟨b1, o1, rfl, hlt1, hc1⟩
    · obtain rfl : t2 = [] := by cases t2 with | nil => rfl | cons _ _ => simp at hl
      go_enter Tryz.func85, Tryz.ntmps85
      go_wp2
      go_loop [13] (fun i => i = .int .i64 0) (fun _ => 0)
      case atStart => rfl
      case round =>
        subst hrel
        go_wp2
        go_ret
        exact ⟨rfl, 0, rfl⟩
    · rcases g2 with rfl | ⟨b2, o2, rfl, hlt2, hc2⟩
      · obtain rfl : t1 = [] := by cases t1 with | nil => rfl | cons _ _ => simp at hl
        go_enter Tryz.func85, Tryz.ntmps85
        go_wp2
        go_loop [13] (fun i => i = .int .i64 0) (fun _ => 0)
        case atStart => rfl
        case round =>
          subst hrel
          go_wp2
          go_ret
          exact ⟨rfl, 0, rfl⟩
      · have HL : Hid (t1.length = t2.length) := hl
        clear hl
        go_enter Tryz.func85, Tryz.ntmps85
        go_wp2
        go_loopw [13] (fun i w' => ∃ j : Nat, j ≤ t1.length ∧ i = .int .i64 j ∧ t1.take j = t2.take j ∧ ∃ n, w' = w.drewN n) (fun i _ => t1.length - (intOf i).toNat)
        case atStart => exact ⟨0, Nat.zero_le _, rfl, rfl, 0, rfl⟩
        case round =>
          obtain ⟨j, hj, rfl, hm, n, rfl⟩ := hrel
          have HM : Hid (t1.take j = t2.take j) := hm
          clear hm
          by_cases hjl : j < t1.length
          · have hjl2 : j < t2.length := by have := HL.out; omega
            have c1 := hc1 j hjl
            have d1 := hc2 j hjl2
            by_cases heq : t1[j] = t2[j]
            · have HE : Hid (t1[j] = t2[j]) := heq
              have hne : (t1[j].toList == t2[j].toList) = true := by rw [beq_list]; exact decide_eq_true heq
              clear heq
              go_wp2_with fail
              go_quiet (fail)
              go_wp2
              refine ⟨⟨j + 1, by omega, by go_num, take_eq hjl hjl2 HM.out HE.out, _, rfl⟩, by simp [intOf]; omega⟩
            · have HE : Hid (¬ t1[j] = t2[j]) := heq
              have hne : (t1[j].toList == t2[j].toList) = false := by rw [beq_list]; exact decide_eq_false heq
              clear heq
              go_wp2_with fail
              go_quiet (fail)
              go_wp2
              go_ret
              refine ⟨ret_bool (decide_eq_false ?_).symm, _, drewN_drewN _ _ _⟩
              intro h; subst h; exact HE.out rfl
          · go_wp2
            go_ret
            refine ⟨ret_bool (decide_eq_true ?_).symm, _, rfl⟩
            have := HM.out
            rw [List.take_of_length_le (by omega), List.take_of_length_le (by have := HL.out; omega)] at this
            exact this
  · have hd : ((t1.length : Int) != (t2.length : Int)) = true := by simp; omega
    have HN : Hid (t1 ≠ t2) := fun h => hl (by rw [h])
    clear hl
    go_enter Tryz.func85, Tryz.ntmps85
    go_wp2
    go_ret
    exact ⟨ret_bool (decide_eq_false HN.out).symm, 0, rfl⟩
end Go.Proofs.YtkpmpnebmkeocaaGreatDoor
end
section
namespace Go.Proofs.YtkpmpnebmkeocaaGreatDoor
open Go.RowKit

def SameC (k : Nat) : Prop := ∀ (w : World) (va vb : Value) (t u : M.Tr), t.sz ≤ k → StmAt w NoX va t → StmAt w NoX vb u → Calls Tryz.prog 86 #[va, vb] w fun e w' => e = .returned (.bool (decide (t = u))) ∧ Below w.heap.size w w'
theorem opsEqB (w : World) (va vb : Value) (a b : List M.Opd) (r : Bool) (h1 : OpsAt w NoX va a) (h2 : OpsAt w NoX vb b) (hr : decide (a = b) = r) :
    Calls Tryz.prog 109 #[va, vb] w fun e w' => e = .returned (.bool r) ∧ Below w.heap.size w w' :=
  (opsEq_any _ _ _ _ _ _ w h1 h2).mono fun e w' ⟨h, n, hw⟩ => ⟨by rw [h, hr], by rw [hw]; exact below_drewN (Below.refl _ _) n⟩
theorem strsEqB (w : World) (va vb : Value) (a b : List ByteArray) (r : Bool) (h1 : StrsAt w NoX va a) (h2 : StrsAt w NoX vb b) (hr : decide (a = b) = r) :
    Calls Tryz.prog 85 #[va, vb] w fun e w' => e = .returned (.bool r) ∧ Below w.heap.size w w' :=
  (strsEq_any _ _ _ _ _ _ w h1 h2).mono fun e w' ⟨h, n, hw⟩ => ⟨by rw [h, hr], by rw [hw]; exact below_drewN (Below.refl _ _) n⟩
theorem sameB {k : Nat} (hB : SameC k) (w : World) (va vb : Value) (t u : M.Tr) (r : Bool) (hk : t.sz ≤ k) (h1 : StmAt w NoX va t) (h2 : StmAt w NoX vb u) (hr : decide (t = u) = r) :
    Calls Tryz.prog 86 #[va, vb] w fun e w' => e = .returned (.bool r) ∧ Below w.heap.size w w' :=
  (hB w va vb t u hk h1 h2).mono fun e w' ⟨h, hb⟩ => ⟨by rw [h, hr], hb⟩
theorem two8 {w W : World} {T : TypeId} {c0 c1 c2 c3 c4 c5 c6 c7 d0 d1 d2 d3 d4 d5 d6 d7 : Value}
    (h : Below (w.heap.size + 2) ((w.alloc (.cells #[c0, c1, c2, c3, c4, c5, c6, c7] T)).alloc (.cells #[d0, d1, d2, d3, d4, d5, d6, d7] T)) W) :
    W.heap[w.heap.size]? = some (.cells #[c0, c1, c2, c3, c4, c5, c6, c7] T (0, 0)) ∧ W.heap[w.heap.size + 1]? = some (.cells #[d0, d1, d2, d3, d4, d5, d6, d7] T (0, 0)) := by
  refine ⟨(h.block w.heap.size (by omega)).trans ((Below.heap_alloc _ _ _ (by simp)).trans (heap_alloc_new w _)), (h.block (w.heap.size + 1) (by omega)).trans ?_⟩
  have := heap_alloc_new (w.alloc (.cells #[c0, c1, c2, c3, c4, c5, c6, c7] T)) (.cells #[d0, d1, d2, d3, d4, d5, d6, d7] T)
  simp only [World.size_alloc] at this; exact this

set_option maxRecDepth 8000 in
set_option maxHeartbeats 800000 in
theorem sameStmt_0 (k : Nat) (hB : SameC k) (w : World) (op1 op2 : Int) (x1 x2 y1 y2 p1 p2 : ByteArray) (a1 a2 : List M.Opd) (pr1 pr2 : List ByteArray) (th1 th2 el1 el2 : M.Tr) (va1 va2 vp1 vp2 vt1 vt2 ve1 ve2 : Value)
    (hk1 : th1.sz ≤ k) (hk2 : el1.sz ≤ k) (gA1 : OpsAt w NoX va1 a1) (gA2 : OpsAt w NoX va2 a2) (gP1 : StrsAt w NoX vp1 pr1) (gP2 : StrsAt w NoX vp2 pr2) (gT1 : StmAt w NoX vt1 th1) (gT2 : StmAt w NoX vt2 th2) (gE1 : StmAt w NoX ve1 el1) (gE2 : StmAt w NoX ve2 el2) (n0 : ¬ op1 = op2) :
    Calls Tryz.prog 98 #[.agg #[.int .i64 op1, .string x1, .string y1, .string p1, va1, vp1, vt1, ve1], .agg #[.int .i64 op2, .string x2, .string y2, .string p2, va2, vp2, vt2, ve2]] w fun e w' => e = .returned (.bool (decide (op1 = op2 ∧ x1 = x2 ∧ y1 = y2 ∧ p1 = p2 ∧ a1 = a2 ∧ pr1 = pr2 ∧ th1 = th2 ∧ el1 = el2))) ∧ Below w.heap.size w w' := by
  have HD : Hid (decide (op1 = op2 ∧ x1 = x2 ∧ y1 = y2 ∧ p1 = p2 ∧ a1 = a2 ∧ pr1 = pr2 ∧ th1 = th2 ∧ el1 = el2) = false) := decide_eq_false (fun h => n0 h.1)
  have hw0 : Below w.heap.size w ((w.alloc (.cells #[.int .i64 op1, .string x1, .string y1, .string p1, va1, vp1, vt1, ve1] 32)).alloc (.cells #[.int .i64 op2, .string x2, .string y2, .string p2, va2, vp2, vt2, ve2] 32)) := ((Below.refl _ _).alloc (Nat.le_refl _) _).alloc (by simp) _
  have hz0 : ((w.alloc (.cells #[.int .i64 op1, .string x1, .string y1, .string p1, va1, vp1, vt1, ve1] 32)).alloc (.cells #[.int .i64 op2, .string x2, .string y2, .string p2, va2, vp2, vt2, ve2] 32)).heap.size = w.heap.size + 2 := by simp only [World.size_alloc]
  obtain ⟨q1, m1, rfl⟩ := SlAt.form gA1
  obtain ⟨q2, m2, rfl⟩ := SlAt.form gA2
  obtain ⟨q3, m3, rfl⟩ := SlAt.form gP1
  obtain ⟨q4, m4, rfl⟩ := SlAt.form gP2
  obtain ⟨q5, m5, rfl⟩ := StmAt.form gT1
  obtain ⟨q6, m6, rfl⟩ := StmAt.form gT2
  obtain ⟨q7, m7, rfl⟩ := StmAt.form gE1
  obtain ⟨q8, m8, rfl⟩ := StmAt.form gE2
  have b0 : (op1 == op2) = false := by simpa using n0
  clear n0
  have HZ0 := hid hz0
  clear hz0
  go_enter Tryz.func98, Tryz.ntmps98
  go_wp2_with fail
  go_ret
  exact ⟨ret_bool HD.out.symm, hw0⟩

set_option maxRecDepth 8000 in
set_option maxHeartbeats 800000 in
theorem sameStmt_1 (k : Nat) (hB : SameC k) (w : World) (op1 op2 : Int) (x1 x2 y1 y2 p1 p2 : ByteArray) (a1 a2 : List M.Opd) (pr1 pr2 : List ByteArray) (th1 th2 el1 el2 : M.Tr) (va1 va2 vp1 vp2 vt1 vt2 ve1 ve2 : Value)
    (hk1 : th1.sz ≤ k) (hk2 : el1.sz ≤ k) (gA1 : OpsAt w NoX va1 a1) (gA2 : OpsAt w NoX va2 a2) (gP1 : StrsAt w NoX vp1 pr1) (gP2 : StrsAt w NoX vp2 pr2) (gT1 : StmAt w NoX vt1 th1) (gT2 : StmAt w NoX vt2 th2) (gE1 : StmAt w NoX ve1 el1) (gE2 : StmAt w NoX ve2 el2) (e0 : op1 = op2) (n1 : ¬ x1 = x2) :
    Calls Tryz.prog 98 #[.agg #[.int .i64 op1, .string x1, .string y1, .string p1, va1, vp1, vt1, ve1], .agg #[.int .i64 op2, .string x2, .string y2, .string p2, va2, vp2, vt2, ve2]] w fun e w' => e = .returned (.bool (decide (op1 = op2 ∧ x1 = x2 ∧ y1 = y2 ∧ p1 = p2 ∧ a1 = a2 ∧ pr1 = pr2 ∧ th1 = th2 ∧ el1 = el2))) ∧ Below w.heap.size w w' := by
  have HD : Hid (decide (op1 = op2 ∧ x1 = x2 ∧ y1 = y2 ∧ p1 = p2 ∧ a1 = a2 ∧ pr1 = pr2 ∧ th1 = th2 ∧ el1 = el2) = false) := decide_eq_false (fun h => n1 h.2.1)
  have hw0 : Below w.heap.size w ((w.alloc (.cells #[.int .i64 op1, .string x1, .string y1, .string p1, va1, vp1, vt1, ve1] 32)).alloc (.cells #[.int .i64 op2, .string x2, .string y2, .string p2, va2, vp2, vt2, ve2] 32)) := ((Below.refl _ _).alloc (Nat.le_refl _) _).alloc (by simp) _
  have hz0 : ((w.alloc (.cells #[.int .i64 op1, .string x1, .string y1, .string p1, va1, vp1, vt1, ve1] 32)).alloc (.cells #[.int .i64 op2, .string x2, .string y2, .string p2, va2, vp2, vt2, ve2] 32)).heap.size = w.heap.size + 2 := by simp only [World.size_alloc]
  obtain ⟨q1, m1, rfl⟩ := SlAt.form gA1
  obtain ⟨q2, m2, rfl⟩ := SlAt.form gA2
  obtain ⟨q3, m3, rfl⟩ := SlAt.form gP1
  obtain ⟨q4, m4, rfl⟩ := SlAt.form gP2
  obtain ⟨q5, m5, rfl⟩ := StmAt.form gT1
  obtain ⟨q6, m6, rfl⟩ := StmAt.form gT2
  obtain ⟨q7, m7, rfl⟩ := StmAt.form gE1
  obtain ⟨q8, m8, rfl⟩ := StmAt.form gE2
  have b0 : (op1 == op2) = true := by simpa using e0
  have b1 : (x1.toList == x2.toList) = false := by rw [beq_list]; exact decide_eq_false n1
  clear e0 n1
  have HZ0 := hid hz0
  clear hz0
  go_enter Tryz.func98, Tryz.ntmps98
  go_wp2_with fail
  go_ret
  exact ⟨ret_bool HD.out.symm, hw0⟩

set_option maxRecDepth 8000 in
set_option maxHeartbeats 800000 in
theorem sameStmt_2 (k : Nat) (hB : SameC k) (w : World) (op1 op2 : Int) (x1 x2 y1 y2 p1 p2 : ByteArray) (a1 a2 : List M.Opd) (pr1 pr2 : List ByteArray) (th1 th2 el1 el2 : M.Tr) (va1 va2 vp1 vp2 vt1 vt2 ve1 ve2 : Value)
    (hk1 : th1.sz ≤ k) (hk2 : el1.sz ≤ k) (gA1 : OpsAt w NoX va1 a1) (gA2 : OpsAt w NoX va2 a2) (gP1 : StrsAt w NoX vp1 pr1) (gP2 : StrsAt w NoX vp2 pr2) (gT1 : StmAt w NoX vt1 th1) (gT2 : StmAt w NoX vt2 th2) (gE1 : StmAt w NoX ve1 el1) (gE2 : StmAt w NoX ve2 el2) (e0 : op1 = op2) (e1 : x1 = x2) (n2 : ¬ y1 = y2) :
    Calls Tryz.prog 98 #[.agg #[.int .i64 op1, .string x1, .string y1, .string p1, va1, vp1, vt1, ve1], .agg #[.int .i64 op2, .string x2, .string y2, .string p2, va2, vp2, vt2, ve2]] w fun e w' => e = .returned (.bool (decide (op1 = op2 ∧ x1 = x2 ∧ y1 = y2 ∧ p1 = p2 ∧ a1 = a2 ∧ pr1 = pr2 ∧ th1 = th2 ∧ el1 = el2))) ∧ Below w.heap.size w w' := by
  have HD : Hid (decide (op1 = op2 ∧ x1 = x2 ∧ y1 = y2 ∧ p1 = p2 ∧ a1 = a2 ∧ pr1 = pr2 ∧ th1 = th2 ∧ el1 = el2) = false) := decide_eq_false (fun h => n2 h.2.2.1)
  have hw0 : Below w.heap.size w ((w.alloc (.cells #[.int .i64 op1, .string x1, .string y1, .string p1, va1, vp1, vt1, ve1] 32)).alloc (.cells #[.int .i64 op2, .string x2, .string y2, .string p2, va2, vp2, vt2, ve2] 32)) := ((Below.refl _ _).alloc (Nat.le_refl _) _).alloc (by simp) _
  have hz0 : ((w.alloc (.cells #[.int .i64 op1, .string x1, .string y1, .string p1, va1, vp1, vt1, ve1] 32)).alloc (.cells #[.int .i64 op2, .string x2, .string y2, .string p2, va2, vp2, vt2, ve2] 32)).heap.size = w.heap.size + 2 := by simp only [World.size_alloc]
  obtain ⟨q1, m1, rfl⟩ := SlAt.form gA1
  obtain ⟨q2, m2, rfl⟩ := SlAt.form gA2
  obtain ⟨q3, m3, rfl⟩ := SlAt.form gP1
  obtain ⟨q4, m4, rfl⟩ := SlAt.form gP2
  obtain ⟨q5, m5, rfl⟩ := StmAt.form gT1
  obtain ⟨q6, m6, rfl⟩ := StmAt.form gT2
  obtain ⟨q7, m7, rfl⟩ := StmAt.form gE1
  obtain ⟨q8, m8, rfl⟩ := StmAt.form gE2
  have b0 : (op1 == op2) = true := by simpa using e0
  have b1 : (x1.toList == x2.toList) = true := by rw [beq_list]; exact decide_eq_true e1
  have b2 : (y1.toList == y2.toList) = false := by rw [beq_list]; exact decide_eq_false n2
  clear e0 e1 n2
  have HZ0 := hid hz0
  clear hz0
  go_enter Tryz.func98, Tryz.ntmps98
  go_wp2_with fail
  go_ret
  exact ⟨ret_bool HD.out.symm, hw0⟩

set_option maxRecDepth 8000 in
set_option maxHeartbeats 800000 in
theorem sameStmt_3 (k : Nat) (hB : SameC k) (w : World) (op1 op2 : Int) (x1 x2 y1 y2 p1 p2 : ByteArray) (a1 a2 : List M.Opd) (pr1 pr2 : List ByteArray) (th1 th2 el1 el2 : M.Tr) (va1 va2 vp1 vp2 vt1 vt2 ve1 ve2 : Value)
    (hk1 : th1.sz ≤ k) (hk2 : el1.sz ≤ k) (gA1 : OpsAt w NoX va1 a1) (gA2 : OpsAt w NoX va2 a2) (gP1 : StrsAt w NoX vp1 pr1) (gP2 : StrsAt w NoX vp2 pr2) (gT1 : StmAt w NoX vt1 th1) (gT2 : StmAt w NoX vt2 th2) (gE1 : StmAt w NoX ve1 el1) (gE2 : StmAt w NoX ve2 el2) (e0 : op1 = op2) (e1 : x1 = x2) (e2 : y1 = y2) (n3 : ¬ p1 = p2) :
    Calls Tryz.prog 98 #[.agg #[.int .i64 op1, .string x1, .string y1, .string p1, va1, vp1, vt1, ve1], .agg #[.int .i64 op2, .string x2, .string y2, .string p2, va2, vp2, vt2, ve2]] w fun e w' => e = .returned (.bool (decide (op1 = op2 ∧ x1 = x2 ∧ y1 = y2 ∧ p1 = p2 ∧ a1 = a2 ∧ pr1 = pr2 ∧ th1 = th2 ∧ el1 = el2))) ∧ Below w.heap.size w w' := by
  have HD : Hid (decide (op1 = op2 ∧ x1 = x2 ∧ y1 = y2 ∧ p1 = p2 ∧ a1 = a2 ∧ pr1 = pr2 ∧ th1 = th2 ∧ el1 = el2) = false) := decide_eq_false (fun h => n3 h.2.2.2.1)
  have hw0 : Below w.heap.size w ((w.alloc (.cells #[.int .i64 op1, .string x1, .string y1, .string p1, va1, vp1, vt1, ve1] 32)).alloc (.cells #[.int .i64 op2, .string x2, .string y2, .string p2, va2, vp2, vt2, ve2] 32)) := ((Below.refl _ _).alloc (Nat.le_refl _) _).alloc (by simp) _
  have hz0 : ((w.alloc (.cells #[.int .i64 op1, .string x1, .string y1, .string p1, va1, vp1, vt1, ve1] 32)).alloc (.cells #[.int .i64 op2, .string x2, .string y2, .string p2, va2, vp2, vt2, ve2] 32)).heap.size = w.heap.size + 2 := by simp only [World.size_alloc]
  obtain ⟨q1, m1, rfl⟩ := SlAt.form gA1
  obtain ⟨q2, m2, rfl⟩ := SlAt.form gA2
  obtain ⟨q3, m3, rfl⟩ := SlAt.form gP1
  obtain ⟨q4, m4, rfl⟩ := SlAt.form gP2
  obtain ⟨q5, m5, rfl⟩ := StmAt.form gT1
  obtain ⟨q6, m6, rfl⟩ := StmAt.form gT2
  obtain ⟨q7, m7, rfl⟩ := StmAt.form gE1
  obtain ⟨q8, m8, rfl⟩ := StmAt.form gE2
  have b0 : (op1 == op2) = true := by simpa using e0
  have b1 : (x1.toList == x2.toList) = true := by rw [beq_list]; exact decide_eq_true e1
  have b2 : (y1.toList == y2.toList) = true := by rw [beq_list]; exact decide_eq_true e2
  have b3 : (p1.toList == p2.toList) = false := by rw [beq_list]; exact decide_eq_false n3
  clear e0 e1 e2 n3
  have HZ0 := hid hz0
  clear hz0
  go_enter Tryz.func98, Tryz.ntmps98
  go_wp2_with fail
  go_ret
  exact ⟨ret_bool HD.out.symm, hw0⟩

set_option maxRecDepth 8000 in
set_option maxHeartbeats 800000 in
theorem sameStmt_4 (k : Nat) (hB : SameC k) (w : World) (op1 op2 : Int) (x1 x2 y1 y2 p1 p2 : ByteArray) (a1 a2 : List M.Opd) (pr1 pr2 : List ByteArray) (th1 th2 el1 el2 : M.Tr) (va1 va2 vp1 vp2 vt1 vt2 ve1 ve2 : Value)
    (hk1 : th1.sz ≤ k) (hk2 : el1.sz ≤ k) (gA1 : OpsAt w NoX va1 a1) (gA2 : OpsAt w NoX va2 a2) (gP1 : StrsAt w NoX vp1 pr1) (gP2 : StrsAt w NoX vp2 pr2) (gT1 : StmAt w NoX vt1 th1) (gT2 : StmAt w NoX vt2 th2) (gE1 : StmAt w NoX ve1 el1) (gE2 : StmAt w NoX ve2 el2) (e0 : op1 = op2) (e1 : x1 = x2) (e2 : y1 = y2) (e3 : p1 = p2) (n4 : ¬ a1 = a2) :
    Calls Tryz.prog 98 #[.agg #[.int .i64 op1, .string x1, .string y1, .string p1, va1, vp1, vt1, ve1], .agg #[.int .i64 op2, .string x2, .string y2, .string p2, va2, vp2, vt2, ve2]] w fun e w' => e = .returned (.bool (decide (op1 = op2 ∧ x1 = x2 ∧ y1 = y2 ∧ p1 = p2 ∧ a1 = a2 ∧ pr1 = pr2 ∧ th1 = th2 ∧ el1 = el2))) ∧ Below w.heap.size w w' := by
  have HD : Hid (decide (op1 = op2 ∧ x1 = x2 ∧ y1 = y2 ∧ p1 = p2 ∧ a1 = a2 ∧ pr1 = pr2 ∧ th1 = th2 ∧ el1 = el2) = false) := decide_eq_false (fun h => n4 h.2.2.2.2.1)
  have hw0 : Below w.heap.size w ((w.alloc (.cells #[.int .i64 op1, .string x1, .string y1, .string p1, va1, vp1, vt1, ve1] 32)).alloc (.cells #[.int .i64 op2, .string x2, .string y2, .string p2, va2, vp2, vt2, ve2] 32)) := ((Below.refl _ _).alloc (Nat.le_refl _) _).alloc (by simp) _
  have hz0 : ((w.alloc (.cells #[.int .i64 op1, .string x1, .string y1, .string p1, va1, vp1, vt1, ve1] 32)).alloc (.cells #[.int .i64 op2, .string x2, .string y2, .string p2, va2, vp2, vt2, ve2] 32)).heap.size = w.heap.size + 2 := by simp only [World.size_alloc]
  obtain ⟨q1, m1, rfl⟩ := SlAt.form gA1
  obtain ⟨q2, m2, rfl⟩ := SlAt.form gA2
  obtain ⟨q3, m3, rfl⟩ := SlAt.form gP1
  obtain ⟨q4, m4, rfl⟩ := SlAt.form gP2
  obtain ⟨q5, m5, rfl⟩ := StmAt.form gT1
  obtain ⟨q6, m6, rfl⟩ := StmAt.form gT2
  obtain ⟨q7, m7, rfl⟩ := StmAt.form gE1
  obtain ⟨q8, m8, rfl⟩ := StmAt.form gE2
  have b0 : (op1 == op2) = true := by simpa using e0
  have b1 : (x1.toList == x2.toList) = true := by rw [beq_list]; exact decide_eq_true e1
  have b2 : (y1.toList == y2.toList) = true := by rw [beq_list]; exact decide_eq_true e2
  have b3 : (p1.toList == p2.toList) = true := by rw [beq_list]; exact decide_eq_true e3
  have d4 : decide (a1 = a2) = false := decide_eq_false n4
  clear e0 e1 e2 e3 n4
  have HZ0 := hid hz0
  clear hz0
  go_enter Tryz.func98, Tryz.ntmps98
  go_wp2_with fail
  refine (opsEqB _ _ _ _ _ _ (SlAt.bel gA1 hw0) (SlAt.bel gA2 hw0) d4).mono ?_
  rintro e w4 ⟨rfl, hb4⟩
  have hB4 := hb4
  rw [HZ0.out] at hB4
  have hw4 : Below w.heap.size w w4 := hw0.trans (hB4.mono (by omega))
  go_wp2_with fail
  go_ret
  exact ⟨ret_bool HD.out.symm, hw4⟩

set_option maxRecDepth 8000 in
set_option maxHeartbeats 800000 in
theorem sameStmt_5 (k : Nat) (hB : SameC k) (w : World) (op1 op2 : Int) (x1 x2 y1 y2 p1 p2 : ByteArray) (a1 a2 : List M.Opd) (pr1 pr2 : List ByteArray) (th1 th2 el1 el2 : M.Tr) (va1 va2 vp1 vp2 vt1 vt2 ve1 ve2 : Value)
    (hk1 : th1.sz ≤ k) (hk2 : el1.sz ≤ k) (gA1 : OpsAt w NoX va1 a1) (gA2 : OpsAt w NoX va2 a2) (gP1 : StrsAt w NoX vp1 pr1) (gP2 : StrsAt w NoX vp2 pr2) (gT1 : StmAt w NoX vt1 th1) (gT2 : StmAt w NoX vt2 th2) (gE1 : StmAt w NoX ve1 el1) (gE2 : StmAt w NoX ve2 el2) (e0 : op1 = op2) (e1 : x1 = x2) (e2 : y1 = y2) (e3 : p1 = p2) (e4 : a1 = a2) (n5 : ¬ pr1 = pr2) :
    Calls Tryz.prog 98 #[.agg #[.int .i64 op1, .string x1, .string y1, .string p1, va1, vp1, vt1, ve1], .agg #[.int .i64 op2, .string x2, .string y2, .string p2, va2, vp2, vt2, ve2]] w fun e w' => e = .returned (.bool (decide (op1 = op2 ∧ x1 = x2 ∧ y1 = y2 ∧ p1 = p2 ∧ a1 = a2 ∧ pr1 = pr2 ∧ th1 = th2 ∧ el1 = el2))) ∧ Below w.heap.size w w' := by
  have HD : Hid (decide (op1 = op2 ∧ x1 = x2 ∧ y1 = y2 ∧ p1 = p2 ∧ a1 = a2 ∧ pr1 = pr2 ∧ th1 = th2 ∧ el1 = el2) = false) := decide_eq_false (fun h => n5 h.2.2.2.2.2.1)
  have hw0 : Below w.heap.size w ((w.alloc (.cells #[.int .i64 op1, .string x1, .string y1, .string p1, va1, vp1, vt1, ve1] 32)).alloc (.cells #[.int .i64 op2, .string x2, .string y2, .string p2, va2, vp2, vt2, ve2] 32)) := ((Below.refl _ _).alloc (Nat.le_refl _) _).alloc (by simp) _
  have hz0 : ((w.alloc (.cells #[.int .i64 op1, .string x1, .string y1, .string p1, va1, vp1, vt1, ve1] 32)).alloc (.cells #[.int .i64 op2, .string x2, .string y2, .string p2, va2, vp2, vt2, ve2] 32)).heap.size = w.heap.size + 2 := by simp only [World.size_alloc]
  obtain ⟨q1, m1, rfl⟩ := SlAt.form gA1
  obtain ⟨q2, m2, rfl⟩ := SlAt.form gA2
  obtain ⟨q3, m3, rfl⟩ := SlAt.form gP1
  obtain ⟨q4, m4, rfl⟩ := SlAt.form gP2
  obtain ⟨q5, m5, rfl⟩ := StmAt.form gT1
  obtain ⟨q6, m6, rfl⟩ := StmAt.form gT2
  obtain ⟨q7, m7, rfl⟩ := StmAt.form gE1
  obtain ⟨q8, m8, rfl⟩ := StmAt.form gE2
  have b0 : (op1 == op2) = true := by simpa using e0
  have b1 : (x1.toList == x2.toList) = true := by rw [beq_list]; exact decide_eq_true e1
  have b2 : (y1.toList == y2.toList) = true := by rw [beq_list]; exact decide_eq_true e2
  have b3 : (p1.toList == p2.toList) = true := by rw [beq_list]; exact decide_eq_true e3
  have d4 : decide (a1 = a2) = true := decide_eq_true e4
  have d5 : decide (pr1 = pr2) = false := decide_eq_false n5
  clear e0 e1 e2 e3 e4 n5
  have HZ0 := hid hz0
  clear hz0
  go_enter Tryz.func98, Tryz.ntmps98
  go_wp2_with fail
  refine (opsEqB _ _ _ _ _ _ (SlAt.bel gA1 hw0) (SlAt.bel gA2 hw0) d4).mono ?_
  rintro e w4 ⟨rfl, hb4⟩
  have hB4 := hb4
  rw [HZ0.out] at hB4
  have hw4 : Below w.heap.size w w4 := hw0.trans (hB4.mono (by omega))
  obtain ⟨tw1, tw2⟩ := two8 hB4
  obtain ⟨k0, k1, k2, k3, k4, k5, k6, k7, kf, kz⟩ := cells8 tw1
  obtain ⟨l0, l1, l2, l3, l4, l5, l6, l7, lf, lz⟩ := cells8 tw2
  go_wp2_with fail
  refine (strsEqB _ _ _ _ _ _ (SlAt.bel gP1 hw4) (SlAt.bel gP2 hw4) d5).mono ?_
  rintro e w5 ⟨rfl, hb5⟩
  have hB5 := hB4.trans (hb5.mono (by have := hB4.size; rw [HZ0.out] at this; exact this))
  have hw5 : Below w.heap.size w w5 := hw0.trans (hB5.mono (by omega))
  go_wp2_with fail
  go_ret
  exact ⟨ret_bool HD.out.symm, hw5⟩

set_option maxRecDepth 8000 in
set_option maxHeartbeats 800000 in
theorem sameStmt_6 (k : Nat) (hB : SameC k) (w : World) (op1 op2 : Int) (x1 x2 y1 y2 p1 p2 : ByteArray) (a1 a2 : List M.Opd) (pr1 pr2 : List ByteArray) (th1 th2 el1 el2 : M.Tr) (va1 va2 vp1 vp2 vt1 vt2 ve1 ve2 : Value)
    (hk1 : th1.sz ≤ k) (hk2 : el1.sz ≤ k) (gA1 : OpsAt w NoX va1 a1) (gA2 : OpsAt w NoX va2 a2) (gP1 : StrsAt w NoX vp1 pr1) (gP2 : StrsAt w NoX vp2 pr2) (gT1 : StmAt w NoX vt1 th1) (gT2 : StmAt w NoX vt2 th2) (gE1 : StmAt w NoX ve1 el1) (gE2 : StmAt w NoX ve2 el2) (e0 : op1 = op2) (e1 : x1 = x2) (e2 : y1 = y2) (e3 : p1 = p2) (e4 : a1 = a2) (e5 : pr1 = pr2) (n6 : ¬ th1 = th2) :
    Calls Tryz.prog 98 #[.agg #[.int .i64 op1, .string x1, .string y1, .string p1, va1, vp1, vt1, ve1], .agg #[.int .i64 op2, .string x2, .string y2, .string p2, va2, vp2, vt2, ve2]] w fun e w' => e = .returned (.bool (decide (op1 = op2 ∧ x1 = x2 ∧ y1 = y2 ∧ p1 = p2 ∧ a1 = a2 ∧ pr1 = pr2 ∧ th1 = th2 ∧ el1 = el2))) ∧ Below w.heap.size w w' := by
  have HD : Hid (decide (op1 = op2 ∧ x1 = x2 ∧ y1 = y2 ∧ p1 = p2 ∧ a1 = a2 ∧ pr1 = pr2 ∧ th1 = th2 ∧ el1 = el2) = false) := decide_eq_false (fun h => n6 h.2.2.2.2.2.2.1)
  have hw0 : Below w.heap.size w ((w.alloc (.cells #[.int .i64 op1, .string x1, .string y1, .string p1, va1, vp1, vt1, ve1] 32)).alloc (.cells #[.int .i64 op2, .string x2, .string y2, .string p2, va2, vp2, vt2, ve2] 32)) := ((Below.refl _ _).alloc (Nat.le_refl _) _).alloc (by simp) _
  have hz0 : ((w.alloc (.cells #[.int .i64 op1, .string x1, .string y1, .string p1, va1, vp1, vt1, ve1] 32)).alloc (.cells #[.int .i64 op2, .string x2, .string y2, .string p2, va2, vp2, vt2, ve2] 32)).heap.size = w.heap.size + 2 := by simp only [World.size_alloc]
  obtain ⟨q1, m1, rfl⟩ := SlAt.form gA1
  obtain ⟨q2, m2, rfl⟩ := SlAt.form gA2
  obtain ⟨q3, m3, rfl⟩ := SlAt.form gP1
  obtain ⟨q4, m4, rfl⟩ := SlAt.form gP2
  obtain ⟨q5, m5, rfl⟩ := StmAt.form gT1
  obtain ⟨q6, m6, rfl⟩ := StmAt.form gT2
  obtain ⟨q7, m7, rfl⟩ := StmAt.form gE1
  obtain ⟨q8, m8, rfl⟩ := StmAt.form gE2
  have b0 : (op1 == op2) = true := by simpa using e0
  have b1 : (x1.toList == x2.toList) = true := by rw [beq_list]; exact decide_eq_true e1
  have b2 : (y1.toList == y2.toList) = true := by rw [beq_list]; exact decide_eq_true e2
  have b3 : (p1.toList == p2.toList) = true := by rw [beq_list]; exact decide_eq_true e3
  have d4 : decide (a1 = a2) = true := decide_eq_true e4
  have d5 : decide (pr1 = pr2) = true := decide_eq_true e5
  have d6 : decide (th1 = th2) = false := decide_eq_false n6
  clear e0 e1 e2 e3 e4 e5 n6
  have HZ0 := hid hz0
  clear hz0
  go_enter Tryz.func98, Tryz.ntmps98
  go_wp2_with fail
  refine (opsEqB _ _ _ _ _ _ (SlAt.bel gA1 hw0) (SlAt.bel gA2 hw0) d4).mono ?_
  rintro e w4 ⟨rfl, hb4⟩
  have hB4 := hb4
  rw [HZ0.out] at hB4
  have hw4 : Below w.heap.size w w4 := hw0.trans (hB4.mono (by omega))
  obtain ⟨tw1, tw2⟩ := two8 hB4
  obtain ⟨k0, k1, k2, k3, k4, k5, k6, k7, kf, kz⟩ := cells8 tw1
  obtain ⟨l0, l1, l2, l3, l4, l5, l6, l7, lf, lz⟩ := cells8 tw2
  go_wp2_with fail
  refine (strsEqB _ _ _ _ _ _ (SlAt.bel gP1 hw4) (SlAt.bel gP2 hw4) d5).mono ?_
  rintro e w5 ⟨rfl, hb5⟩
  have hB5 := hB4.trans (hb5.mono (by have := hB4.size; rw [HZ0.out] at this; exact this))
  have hw5 : Below w.heap.size w w5 := hw0.trans (hB5.mono (by omega))
  obtain ⟨tw1, tw2⟩ := two8 hB5
  obtain ⟨k0, k1, k2, k3, k4, k5, k6, k7, kf, kz⟩ := cells8 tw1
  obtain ⟨l0, l1, l2, l3, l4, l5, l6, l7, lf, lz⟩ := cells8 tw2
  go_wp2_with fail
  refine (sameB hB _ _ _ _ _ _ hk1 (gT1.bel hw5) (gT2.bel hw5) d6).mono ?_
  rintro e w6 ⟨rfl, hb6⟩
  have hB6 := hB5.trans (hb6.mono (by have := hB5.size; rw [HZ0.out] at this; exact this))
  have hw6 : Below w.heap.size w w6 := hw0.trans (hB6.mono (by omega))
  go_wp2_with fail
  go_ret
  exact ⟨ret_bool HD.out.symm, hw6⟩

set_option maxRecDepth 8000 in
set_option maxHeartbeats 800000 in
theorem sameStmt_7 (k : Nat) (hB : SameC k) (w : World) (op1 op2 : Int) (x1 x2 y1 y2 p1 p2 : ByteArray) (a1 a2 : List M.Opd) (pr1 pr2 : List ByteArray) (th1 th2 el1 el2 : M.Tr) (va1 va2 vp1 vp2 vt1 vt2 ve1 ve2 : Value)
    (hk1 : th1.sz ≤ k) (hk2 : el1.sz ≤ k) (gA1 : OpsAt w NoX va1 a1) (gA2 : OpsAt w NoX va2 a2) (gP1 : StrsAt w NoX vp1 pr1) (gP2 : StrsAt w NoX vp2 pr2) (gT1 : StmAt w NoX vt1 th1) (gT2 : StmAt w NoX vt2 th2) (gE1 : StmAt w NoX ve1 el1) (gE2 : StmAt w NoX ve2 el2) (e0 : op1 = op2) (e1 : x1 = x2) (e2 : y1 = y2) (e3 : p1 = p2) (e4 : a1 = a2) (e5 : pr1 = pr2) (e6 : th1 = th2) (n7 : ¬ el1 = el2) :
    Calls Tryz.prog 98 #[.agg #[.int .i64 op1, .string x1, .string y1, .string p1, va1, vp1, vt1, ve1], .agg #[.int .i64 op2, .string x2, .string y2, .string p2, va2, vp2, vt2, ve2]] w fun e w' => e = .returned (.bool (decide (op1 = op2 ∧ x1 = x2 ∧ y1 = y2 ∧ p1 = p2 ∧ a1 = a2 ∧ pr1 = pr2 ∧ th1 = th2 ∧ el1 = el2))) ∧ Below w.heap.size w w' := by
  have HD : Hid (decide (op1 = op2 ∧ x1 = x2 ∧ y1 = y2 ∧ p1 = p2 ∧ a1 = a2 ∧ pr1 = pr2 ∧ th1 = th2 ∧ el1 = el2) = false) := decide_eq_false (fun h => n7 h.2.2.2.2.2.2.2)
  have hw0 : Below w.heap.size w ((w.alloc (.cells #[.int .i64 op1, .string x1, .string y1, .string p1, va1, vp1, vt1, ve1] 32)).alloc (.cells #[.int .i64 op2, .string x2, .string y2, .string p2, va2, vp2, vt2, ve2] 32)) := ((Below.refl _ _).alloc (Nat.le_refl _) _).alloc (by simp) _
  have hz0 : ((w.alloc (.cells #[.int .i64 op1, .string x1, .string y1, .string p1, va1, vp1, vt1, ve1] 32)).alloc (.cells #[.int .i64 op2, .string x2, .string y2, .string p2, va2, vp2, vt2, ve2] 32)).heap.size = w.heap.size + 2 := by simp only [World.size_alloc]
  obtain ⟨q1, m1, rfl⟩ := SlAt.form gA1
  obtain ⟨q2, m2, rfl⟩ := SlAt.form gA2
  obtain ⟨q3, m3, rfl⟩ := SlAt.form gP1
  obtain ⟨q4, m4, rfl⟩ := SlAt.form gP2
  obtain ⟨q5, m5, rfl⟩ := StmAt.form gT1
  obtain ⟨q6, m6, rfl⟩ := StmAt.form gT2
  obtain ⟨q7, m7, rfl⟩ := StmAt.form gE1
  obtain ⟨q8, m8, rfl⟩ := StmAt.form gE2
  have b0 : (op1 == op2) = true := by simpa using e0
  have b1 : (x1.toList == x2.toList) = true := by rw [beq_list]; exact decide_eq_true e1
  have b2 : (y1.toList == y2.toList) = true := by rw [beq_list]; exact decide_eq_true e2
  have b3 : (p1.toList == p2.toList) = true := by rw [beq_list]; exact decide_eq_true e3
  have d4 : decide (a1 = a2) = true := decide_eq_true e4
  have d5 : decide (pr1 = pr2) = true := decide_eq_true e5
  have d6 : decide (th1 = th2) = true := decide_eq_true e6
  have d7 : decide (el1 = el2) = false := decide_eq_false n7
  clear e0 e1 e2 e3 e4 e5 e6 n7
  have HZ0 := hid hz0
  clear hz0
  go_enter Tryz.func98, Tryz.ntmps98
  go_wp2_with fail
  refine (opsEqB _ _ _ _ _ _ (SlAt.bel gA1 hw0) (SlAt.bel gA2 hw0) d4).mono ?_
  rintro e w4 ⟨rfl, hb4⟩
  have hB4 := hb4
  rw [HZ0.out] at hB4
  have hw4 : Below w.heap.size w w4 := hw0.trans (hB4.mono (by omega))
  obtain ⟨tw1, tw2⟩ := two8 hB4
  obtain ⟨k0, k1, k2, k3, k4, k5, k6, k7, kf, kz⟩ := cells8 tw1
  obtain ⟨l0, l1, l2, l3, l4, l5, l6, l7, lf, lz⟩ := cells8 tw2
  go_wp2_with fail
  refine (strsEqB _ _ _ _ _ _ (SlAt.bel gP1 hw4) (SlAt.bel gP2 hw4) d5).mono ?_
  rintro e w5 ⟨rfl, hb5⟩
  have hB5 := hB4.trans (hb5.mono (by have := hB4.size; rw [HZ0.out] at this; exact this))
  have hw5 : Below w.heap.size w w5 := hw0.trans (hB5.mono (by omega))
  obtain ⟨tw1, tw2⟩ := two8 hB5
  obtain ⟨k0, k1, k2, k3, k4, k5, k6, k7, kf, kz⟩ := cells8 tw1
  obtain ⟨l0, l1, l2, l3, l4, l5, l6, l7, lf, lz⟩ := cells8 tw2
  go_wp2_with fail
  refine (sameB hB _ _ _ _ _ _ hk1 (gT1.bel hw5) (gT2.bel hw5) d6).mono ?_
  rintro e w6 ⟨rfl, hb6⟩
  have hB6 := hB5.trans (hb6.mono (by have := hB5.size; rw [HZ0.out] at this; exact this))
  have hw6 : Below w.heap.size w w6 := hw0.trans (hB6.mono (by omega))
  obtain ⟨tw1, tw2⟩ := two8 hB6
  obtain ⟨k0, k1, k2, k3, k4, k5, k6, k7, kf, kz⟩ := cells8 tw1
  obtain ⟨l0, l1, l2, l3, l4, l5, l6, l7, lf, lz⟩ := cells8 tw2
  go_wp2_with fail
  refine (sameB hB _ _ _ _ _ _ hk2 (gE1.bel hw6) (gE2.bel hw6) d7).mono ?_
  rintro e w7 ⟨rfl, hb7⟩
  have hB7 := hB6.trans (hb7.mono (by have := hB6.size; rw [HZ0.out] at this; exact this))
  have hw7 : Below w.heap.size w w7 := hw0.trans (hB7.mono (by omega))
  go_wp2_with fail
  go_ret
  exact ⟨ret_bool HD.out.symm, hw7⟩

set_option maxRecDepth 8000 in
set_option maxHeartbeats 800000 in
theorem sameStmt_8 (k : Nat) (hB : SameC k) (w : World) (op1 op2 : Int) (x1 x2 y1 y2 p1 p2 : ByteArray) (a1 a2 : List M.Opd) (pr1 pr2 : List ByteArray) (th1 th2 el1 el2 : M.Tr) (va1 va2 vp1 vp2 vt1 vt2 ve1 ve2 : Value)
    (hk1 : th1.sz ≤ k) (hk2 : el1.sz ≤ k) (gA1 : OpsAt w NoX va1 a1) (gA2 : OpsAt w NoX va2 a2) (gP1 : StrsAt w NoX vp1 pr1) (gP2 : StrsAt w NoX vp2 pr2) (gT1 : StmAt w NoX vt1 th1) (gT2 : StmAt w NoX vt2 th2) (gE1 : StmAt w NoX ve1 el1) (gE2 : StmAt w NoX ve2 el2) (e0 : op1 = op2) (e1 : x1 = x2) (e2 : y1 = y2) (e3 : p1 = p2) (e4 : a1 = a2) (e5 : pr1 = pr2) (e6 : th1 = th2) (e7 : el1 = el2) :
    Calls Tryz.prog 98 #[.agg #[.int .i64 op1, .string x1, .string y1, .string p1, va1, vp1, vt1, ve1], .agg #[.int .i64 op2, .string x2, .string y2, .string p2, va2, vp2, vt2, ve2]] w fun e w' => e = .returned (.bool (decide (op1 = op2 ∧ x1 = x2 ∧ y1 = y2 ∧ p1 = p2 ∧ a1 = a2 ∧ pr1 = pr2 ∧ th1 = th2 ∧ el1 = el2))) ∧ Below w.heap.size w w' := by
  have HD : Hid (decide (op1 = op2 ∧ x1 = x2 ∧ y1 = y2 ∧ p1 = p2 ∧ a1 = a2 ∧ pr1 = pr2 ∧ th1 = th2 ∧ el1 = el2) = true) := decide_eq_true ⟨e0, e1, e2, e3, e4, e5, e6, e7⟩
  have hw0 : Below w.heap.size w ((w.alloc (.cells #[.int .i64 op1, .string x1, .string y1, .string p1, va1, vp1, vt1, ve1] 32)).alloc (.cells #[.int .i64 op2, .string x2, .string y2, .string p2, va2, vp2, vt2, ve2] 32)) := ((Below.refl _ _).alloc (Nat.le_refl _) _).alloc (by simp) _
  have hz0 : ((w.alloc (.cells #[.int .i64 op1, .string x1, .string y1, .string p1, va1, vp1, vt1, ve1] 32)).alloc (.cells #[.int .i64 op2, .string x2, .string y2, .string p2, va2, vp2, vt2, ve2] 32)).heap.size = w.heap.size + 2 := by simp only [World.size_alloc]
  obtain ⟨q1, m1, rfl⟩ := SlAt.form gA1
  obtain ⟨q2, m2, rfl⟩ := SlAt.form gA2
  obtain ⟨q3, m3, rfl⟩ := SlAt.form gP1
  obtain ⟨q4, m4, rfl⟩ := SlAt.form gP2
  obtain ⟨q5, m5, rfl⟩ := StmAt.form gT1
  obtain ⟨q6, m6, rfl⟩ := StmAt.form gT2
  obtain ⟨q7, m7, rfl⟩ := StmAt.form gE1
  obtain ⟨q8, m8, rfl⟩ := StmAt.form gE2
  have b0 : (op1 == op2) = true := by simpa using e0
  have b1 : (x1.toList == x2.toList) = true := by rw [beq_list]; exact decide_eq_true e1
  have b2 : (y1.toList == y2.toList) = true := by rw [beq_list]; exact decide_eq_true e2
  have b3 : (p1.toList == p2.toList) = true := by rw [beq_list]; exact decide_eq_true e3
  have d4 : decide (a1 = a2) = true := decide_eq_true e4
  have d5 : decide (pr1 = pr2) = true := decide_eq_true e5
  have d6 : decide (th1 = th2) = true := decide_eq_true e6
  have d7 : decide (el1 = el2) = true := decide_eq_true e7
  clear e0 e1 e2 e3 e4 e5 e6 e7
  have HZ0 := hid hz0
  clear hz0
  go_enter Tryz.func98, Tryz.ntmps98
  go_wp2_with fail
  refine (opsEqB _ _ _ _ _ _ (SlAt.bel gA1 hw0) (SlAt.bel gA2 hw0) d4).mono ?_
  rintro e w4 ⟨rfl, hb4⟩
  have hB4 := hb4
  rw [HZ0.out] at hB4
  have hw4 : Below w.heap.size w w4 := hw0.trans (hB4.mono (by omega))
  obtain ⟨tw1, tw2⟩ := two8 hB4
  obtain ⟨k0, k1, k2, k3, k4, k5, k6, k7, kf, kz⟩ := cells8 tw1
  obtain ⟨l0, l1, l2, l3, l4, l5, l6, l7, lf, lz⟩ := cells8 tw2
  go_wp2_with fail
  refine (strsEqB _ _ _ _ _ _ (SlAt.bel gP1 hw4) (SlAt.bel gP2 hw4) d5).mono ?_
  rintro e w5 ⟨rfl, hb5⟩
  have hB5 := hB4.trans (hb5.mono (by have := hB4.size; rw [HZ0.out] at this; exact this))
  have hw5 : Below w.heap.size w w5 := hw0.trans (hB5.mono (by omega))
  obtain ⟨tw1, tw2⟩ := two8 hB5
  obtain ⟨k0, k1, k2, k3, k4, k5, k6, k7, kf, kz⟩ := cells8 tw1
  obtain ⟨l0, l1, l2, l3, l4, l5, l6, l7, lf, lz⟩ := cells8 tw2
  go_wp2_with fail
  refine (sameB hB _ _ _ _ _ _ hk1 (gT1.bel hw5) (gT2.bel hw5) d6).mono ?_
  rintro e w6 ⟨rfl, hb6⟩
  have hB6 := hB5.trans (hb6.mono (by have := hB5.size; rw [HZ0.out] at this; exact this))
  have hw6 : Below w.heap.size w w6 := hw0.trans (hB6.mono (by omega))
  obtain ⟨tw1, tw2⟩ := two8 hB6
  obtain ⟨k0, k1, k2, k3, k4, k5, k6, k7, kf, kz⟩ := cells8 tw1
  obtain ⟨l0, l1, l2, l3, l4, l5, l6, l7, lf, lz⟩ := cells8 tw2
  go_wp2_with fail
  refine (sameB hB _ _ _ _ _ _ hk2 (gE1.bel hw6) (gE2.bel hw6) d7).mono ?_
  rintro e w7 ⟨rfl, hb7⟩
  have hB7 := hB6.trans (hb7.mono (by have := hB6.size; rw [HZ0.out] at this; exact this))
  have hw7 : Below w.heap.size w w7 := hw0.trans (hB7.mono (by omega))
  go_wp2_with fail
  go_ret
  exact ⟨ret_bool HD.out.symm, hw7⟩

theorem sameStmt_any (k : Nat) (hB : SameC k) (w : World) (op1 op2 : Int) (x1 x2 y1 y2 p1 p2 : ByteArray) (a1 a2 : List M.Opd) (pr1 pr2 : List ByteArray) (th1 th2 el1 el2 : M.Tr) (va1 va2 vp1 vp2 vt1 vt2 ve1 ve2 : Value)
    (hk1 : th1.sz ≤ k) (hk2 : el1.sz ≤ k) (gA1 : OpsAt w NoX va1 a1) (gA2 : OpsAt w NoX va2 a2) (gP1 : StrsAt w NoX vp1 pr1) (gP2 : StrsAt w NoX vp2 pr2) (gT1 : StmAt w NoX vt1 th1) (gT2 : StmAt w NoX vt2 th2) (gE1 : StmAt w NoX ve1 el1) (gE2 : StmAt w NoX ve2 el2) :
    Calls Tryz.prog 98 #[.agg #[.int .i64 op1, .string x1, .string y1, .string p1, va1, vp1, vt1, ve1], .agg #[.int .i64 op2, .string x2, .string y2, .string p2, va2, vp2, vt2, ve2]] w fun e w' => e = .returned (.bool (decide (op1 = op2 ∧ x1 = x2 ∧ y1 = y2 ∧ p1 = p2 ∧ a1 = a2 ∧ pr1 = pr2 ∧ th1 = th2 ∧ el1 = el2))) ∧ Below w.heap.size w w' := by
  by_cases e0 : op1 = op2
  case neg => exact sameStmt_0 k hB w op1 op2 x1 x2 y1 y2 p1 p2 a1 a2 pr1 pr2 th1 th2 el1 el2 va1 va2 vp1 vp2 vt1 vt2 ve1 ve2 hk1 hk2 gA1 gA2 gP1 gP2 gT1 gT2 gE1 gE2  e0
  by_cases e1 : x1 = x2
  case neg => exact sameStmt_1 k hB w op1 op2 x1 x2 y1 y2 p1 p2 a1 a2 pr1 pr2 th1 th2 el1 el2 va1 va2 vp1 vp2 vt1 vt2 ve1 ve2 hk1 hk2 gA1 gA2 gP1 gP2 gT1 gT2 gE1 gE2 e0 e1
  by_cases e2 : y1 = y2
  case neg => exact sameStmt_2 k hB w op1 op2 x1 x2 y1 y2 p1 p2 a1 a2 pr1 pr2 th1 th2 el1 el2 va1 va2 vp1 vp2 vt1 vt2 ve1 ve2 hk1 hk2 gA1 gA2 gP1 gP2 gT1 gT2 gE1 gE2 e0 e1 e2
  by_cases e3 : p1 = p2
  case neg => exact sameStmt_3 k hB w op1 op2 x1 x2 y1 y2 p1 p2 a1 a2 pr1 pr2 th1 th2 el1 el2 va1 va2 vp1 vp2 vt1 vt2 ve1 ve2 hk1 hk2 gA1 gA2 gP1 gP2 gT1 gT2 gE1 gE2 e0 e1 e2 e3
  by_cases e4 : a1 = a2
  case neg => exact sameStmt_4 k hB w op1 op2 x1 x2 y1 y2 p1 p2 a1 a2 pr1 pr2 th1 th2 el1 el2 va1 va2 vp1 vp2 vt1 vt2 ve1 ve2 hk1 hk2 gA1 gA2 gP1 gP2 gT1 gT2 gE1 gE2 e0 e1 e2 e3 e4
  by_cases e5 : pr1 = pr2
  case neg => exact sameStmt_5 k hB w op1 op2 x1 x2 y1 y2 p1 p2 a1 a2 pr1 pr2 th1 th2 el1 el2 va1 va2 vp1 vp2 vt1 vt2 ve1 ve2 hk1 hk2 gA1 gA2 gP1 gP2 gT1 gT2 gE1 gE2 e0 e1 e2 e3 e4 e5
  by_cases e6 : th1 = th2
  case neg => exact sameStmt_6 k hB w op1 op2 x1 x2 y1 y2 p1 p2 a1 a2 pr1 pr2 th1 th2 el1 el2 va1 va2 vp1 vp2 vt1 vt2 ve1 ve2 hk1 hk2 gA1 gA2 gP1 gP2 gT1 gT2 gE1 gE2 e0 e1 e2 e3 e4 e5 e6
  by_cases e7 : el1 = el2
  case neg => exact sameStmt_7 k hB w op1 op2 x1 x2 y1 y2 p1 p2 a1 a2 pr1 pr2 th1 th2 el1 el2 va1 va2 vp1 vp2 vt1 vt2 ve1 ve2 hk1 hk2 gA1 gA2 gP1 gP2 gT1 gT2 gE1 gE2 e0 e1 e2 e3 e4 e5 e6 e7
  exact sameStmt_8 k hB w op1 op2 x1 x2 y1 y2 p1 p2 a1 a2 pr1 pr2 th1 th2 el1 el2 va1 va2 vp1 vp2 vt1 vt2 ve1 ve2 hk1 hk2 gA1 gA2 gP1 gP2 gT1 gT2 gE1 gE2 e0 e1 e2 e3 e4 e5 e6 e7
end Go.Proofs.YtkpmpnebmkeocaaGreatDoor
end
section
namespace Go.Proofs.YtkpmpnebmkeocaaGreatDoor
open Go.RowKit

theorem drop_get {α : Type} (l : List α) (n k : Nat) : l[n + k]? = (l.drop n)[k]? := by rw [List.getElem?_drop]
theorem sz_pos : ∀ t : M.Tr, t.len ≤ t.sz
  | .nil => Nat.le_refl _
  | .cons _ _ _ _ _ _ th el nx => by have := sz_pos nx; simp only [M.Tr.len, M.Tr.sz]; omega
theorem len_nil {t : M.Tr} (h : t.len = 0) : t = .nil := by
  cases t with
  | nil => rfl
  | cons => simp [M.Tr.len] at h

theorem eight {w : World} {b o j : Nat} {cs rest : List Value} {c0 c1 c2 c3 c4 c5 c6 c7 : Value} (hc : ∀ i u, cs[i]? = some u → w.cell? ⟨b, o + i, none⟩ = some u) (hd : cs.drop (j * 8) = c0 :: c1 :: c2 :: c3 :: c4 :: c5 :: c6 :: c7 :: rest) :
    w.cell? ⟨b, o + j * 8, none⟩ = some c0 ∧ w.cell? ⟨b, o + j * 8 + 1, none⟩ = some c1 ∧ w.cell? ⟨b, o + j * 8 + 2, none⟩ = some c2 ∧ w.cell? ⟨b, o + j * 8 + 3, none⟩ = some c3 ∧ w.cell? ⟨b, o + j * 8 + 4, none⟩ = some c4 ∧ w.cell? ⟨b, o + j * 8 + 5, none⟩ = some c5 ∧ w.cell? ⟨b, o + j * 8 + 6, none⟩ = some c6 ∧ w.cell? ⟨b, o + j * 8 + 7, none⟩ = some c7 ∧ cs.drop ((j + 1) * 8) = rest := by
  have h : ∀ k u, (c0 :: c1 :: c2 :: c3 :: c4 :: c5 :: c6 :: c7 :: rest)[k]? = some u → w.cell? ⟨b, o + j * 8 + k, none⟩ = some u := fun k u hu => by
    rw [Nat.add_assoc]; exact hc _ _ (by rw [drop_get, hd]; exact hu)
  refine ⟨h 0 _ rfl, h 1 _ rfl, h 2 _ rfl, h 3 _ rfl, h 4 _ rfl, h 5 _ rfl, h 6 _ rfl, h 7 _ rfl, ?_⟩
  rw [show (j + 1) * 8 = j * 8 + 8 by omega, ← List.drop_drop, hd]; rfl

theorem cons_eq {op1 op2 : Int} {x1 x2 y1 y2 p1 p2 : ByteArray} {a1 a2 : List M.Opd} {pr1 pr2 : List ByteArray} {th1 th2 el1 el2 n1 n2 : M.Tr} :
    (M.Tr.cons op1 x1 y1 p1 a1 pr1 th1 el1 n1 = .cons op2 x2 y2 p2 a2 pr2 th2 el2 n2) ↔ ((op1 = op2 ∧ x1 = x2 ∧ y1 = y2 ∧ p1 = p2 ∧ a1 = a2 ∧ pr1 = pr2 ∧ th1 = th2 ∧ el1 = el2) ∧ n1 = n2) := by
  rw [M.Tr.cons.injEq]
  constructor
  · rintro ⟨h0, h1, h2, h3, h4, h5, h6, h7, h8⟩; exact ⟨⟨h0, h1, h2, h3, h4, h5, h6, h7⟩, h8⟩
  · rintro ⟨⟨h0, h1, h2, h3, h4, h5, h6, h7⟩, h8⟩; exact ⟨h0, h1, h2, h3, h4, h5, h6, h7, h8⟩

set_option maxRecDepth 8000 in
set_option maxHeartbeats 1600000 in
theorem eqFuncS_any (k : Nat) (hB : SameC k) (w : World) (va vb : Value) (t u : M.Tr) (hk : t.sz ≤ k + 1) (h1 : StmAt w NoX va t) (h2 : StmAt w NoX vb u) :
    Calls Tryz.prog 97 #[va, vb, .func (.func 98) #[] #[]] w fun e w' => e = .returned (.bool (decide (t = u))) ∧ Below w.heap.size w w' := by
  obtain ⟨cs, ⟨l1, a1, cap1, rfl, g1⟩, row1⟩ := h1
  obtain ⟨ds, ⟨l2, a2, cap2, rfl, g2⟩, row2⟩ := h2
  by_cases hl : t.len = u.len
  · have hd : ((t.len : Int) != (u.len : Int)) = false := by simp [hl]
    by_cases h0 : t.len = 0
    · have hu : u.len = 0 := by omega
      obtain rfl := len_nil h0
      obtain rfl := len_nil hu
      go_enter Tryz.func97, Tryz.ntmps97
      go_wp2_with fail
      go_loop [17] (fun i => i = .int .i64 0) (fun _ => 0)
      case atStart => rfl
      case round =>
        subst hrel
        go_wp2_with fail
        go_ret
        exact ⟨rfl, Below.refl _ _⟩
    · have HL : Hid (t.len = u.len) := hl
      have HU : u.len ≠ 0 := by omega
      rcases g1 with ⟨g1, _⟩ | ⟨b1, o1, rfl, hlt1, _, hc1⟩
      · exact absurd g1 h0
      rcases g2 with ⟨g2, _⟩ | ⟨b2, o2, rfl, hlt2, _, hc2⟩
      · exact absurd g2 HU
      clear hl
      go_enter Tryz.func97, Tryz.ntmps97
      go_wp2_with fail
      go_loopw [17] (fun i wr => ∃ (j : Nat) (t' u' : M.Tr), i = .int .i64 j ∧ j + t'.len = t.len ∧ j + u'.len = u.len ∧ Below w.heap.size w wr ∧ RowAt w NoX (cs.drop (j * 8)) t' ∧ RowAt w NoX (ds.drop (j * 8)) u' ∧ Hid (decide (t = u) = decide (t' = u')) ∧ t'.sz ≤ k + 1) (fun i _ => t.len - (intOf i).toNat)
      case atStart => exact ⟨0, t, u, rfl, Nat.zero_add _, Nat.zero_add _, Below.refl _ _, by simpa using row1, by simpa using row2, rfl, hk⟩
      case round =>
        obtain ⟨j, t', u', rfl, hj1, hj2, hb, r1, r2, HE, hsz⟩ := hrel
        have hll := HL.out
        by_cases hjl : j < t.len
        · cases t' with
          | nil => simp only [M.Tr.len] at hj1; omega
          | cons op1 x1 y1 p1 a1 pr1 th1 el1 nx1 =>
            cases u' with
            | nil => simp only [M.Tr.len] at hj2; omega
            | cons op2 x2 y2 p2 a2 pr2 th2 el2 nx2 =>
              obtain ⟨va1, vp1, vt1, ve1, ct1, ce1, rest1, e1, gA1, gP1, gT1, gE1, gN1⟩ := r1
              obtain ⟨va2, vp2, vt2, ve2, ct2, ce2, rest2, e2, gA2, gP2, gT2, gE2, gN2⟩ := r2
              obtain ⟨f0, f1, f2, f3, f4, f5, f6, f7, fr⟩ := eight hc1 e1
              obtain ⟨s0, s1, s2, s3, s4, s5, s6, s7, sr⟩ := eight hc2 e2
              have hbc := fun (b o : Nat) (hlt : b < w.heap.size) => hb.cell (p := ⟨b, o, none⟩) hlt
              rw [← hbc b1 _ hlt1] at f0 f1 f2 f3 f4 f5 f6 f7
              rw [← hbc b2 _ hlt2] at s0 s1 s2 s3 s4 s5 s6 s7
              have gT1' : StmAt w NoX vt1 th1 := ⟨ct1, gT1.1, gT1.2⟩
              have gE1' : StmAt w NoX ve1 el1 := ⟨ce1, gE1.1, gE1.2⟩
              have gT2' : StmAt w NoX vt2 th2 := ⟨ct2, gT2.1, gT2.2⟩
              have gE2' : StmAt w NoX ve2 el2 := ⟨ce2, gE2.1, gE2.2⟩
              have hbW : Below w.heap.size w ((wr.alloc (.cells #[.int .i64 op1, .string x1, .string y1, .string p1, va1, vp1, vt1, ve1] 32)).alloc (.cells #[.int .i64 op2, .string x2, .string y2, .string p2, va2, vp2, vt2, ve2] 32)) := (hb.alloc hb.size _).alloc (by rw [World.size_alloc]; have := hb.size; omega) _
              simp only [M.Tr.sz] at hsz
              have hcall := sameStmt_any k hB ((wr.alloc (.cells #[.int .i64 op1, .string x1, .string y1, .string p1, va1, vp1, vt1, ve1] 32)).alloc (.cells #[.int .i64 op2, .string x2, .string y2, .string p2, va2, vp2, vt2, ve2] 32)) op1 op2 x1 x2 y1 y2 p1 p2 a1 a2 pr1 pr2 th1 th2 el1 el2 va1 va2 vp1 vp2 vt1 vt2 ve1 ve2 (by omega) (by omega)
                (SlAt.bel gA1 hbW) (SlAt.bel gA2 hbW) (SlAt.bel gP1 hbW) (SlAt.bel gP2 hbW) (gT1'.bel hbW) (gT2'.bel hbW) (gE1'.bel hbW) (gE2'.bel hbW)
              obtain ⟨q1, m1, rfl⟩ := SlAt.form gA1
              obtain ⟨q2, m2, rfl⟩ := SlAt.form gA2
              obtain ⟨q3, m3, rfl⟩ := SlAt.form gP1
              obtain ⟨q4, m4, rfl⟩ := SlAt.form gP2
              obtain ⟨q5, m5, rfl⟩ := StmAt.form gT1'
              obtain ⟨q6, m6, rfl⟩ := StmAt.form gT2'
              obtain ⟨q7, m7, rfl⟩ := StmAt.form gE1'
              obtain ⟨q8, m8, rfl⟩ := StmAt.form gE2'
              have hi1 : (j : Int) < (t.len : Int) := by omega
              have hi2 : (j : Int) < (u.len : Int) := by omega
              have hlw1 : b1 < wr.heap.size := Nat.lt_of_lt_of_le hlt1 hb.size
              have hlw2 : b2 < wr.heap.size := Nat.lt_of_lt_of_le hlt2 hb.size
              have HJ := hid hll
              clear hll hbc
              by_cases hcd : op1 = op2 ∧ x1 = x2 ∧ y1 = y2 ∧ p1 = p2 ∧ a1 = a2 ∧ pr1 = pr2 ∧ th1 = th2 ∧ el1 = el2
              · rw [decide_eq_true hcd] at hcall
                have HE2 : Hid (decide (t = u) = decide (nx1 = nx2)) := by
                  unfold Hid; rw [HE.out]; exact decide_eq_decide.2 ⟨fun h => (cons_eq.1 h).2, fun h => cons_eq.2 ⟨hcd, h⟩⟩
                clear hcd HE
                go_wp2_with fail
                refine hcall.mono ?_
                rintro e w5 ⟨rfl, hb5⟩
                go_wp2_with fail
                refine ⟨⟨j + 1, nx1, nx2, by go_num, by simp only [M.Tr.len] at hj1; omega, by simp only [M.Tr.len] at hj2; omega, ?_, by rw [fr]; exact gN1, by rw [sr]; exact gN2, HE2, by omega⟩, by simp [intOf]; omega⟩
                exact hbW.trans (hb5.mono (by rw [World.size_alloc, World.size_alloc]; have := hb.size; omega))
              · rw [decide_eq_false hcd] at hcall
                have HE2 : Hid (decide (t = u) = false) := by
                  unfold Hid; rw [HE.out]; exact decide_eq_false fun h => hcd (cons_eq.1 h).1
                clear hcd HE
                go_wp2_with fail
                refine hcall.mono ?_
                rintro e w5 ⟨rfl, hb5⟩
                go_wp2_with fail
                go_ret
                refine ⟨ret_bool HE2.out.symm, ?_⟩
                exact hbW.trans (hb5.mono (by rw [World.size_alloc, World.size_alloc]; have := hb.size; omega))
        · obtain rfl : t' = .nil := len_nil (by omega)
          obtain rfl : u' = .nil := len_nil (by omega)
          clear hll
          go_wp2_with fail
          go_ret
          refine ⟨ret_bool ?_, hb⟩
          rw [HE.out]; rfl
  · have hd : ((t.len : Int) != (u.len : Int)) = true := by simp; omega
    have HN : Hid (t ≠ u) := fun h => hl (by rw [h])
    clear hl
    go_enter Tryz.func97, Tryz.ntmps97
    go_wp2_with fail
    go_ret
    exact ⟨ret_bool (decide_eq_false HN.out).symm, Below.refl _ _⟩

theorem sameBlock_any (k : Nat) (hB : SameC k) : SameC (k + 1) := by
  intro w va vb t u hk h1 h2
  go_enter Tryz.func86, Tryz.ntmps86
  go_wp2_with fail
  refine (eqFuncS_any k hB w va vb t u hk h1 h2).mono ?_
  rintro e w' ⟨rfl, hb⟩
  go_wp2_with fail
  go_ret
  exact ⟨rfl, hb⟩
theorem same0 : SameC 0 := by
  intro w va vb t u hk h1 h2
  have h0 : t.sz = 0 := by omega
  have hB : SameC 0 → True := fun _ => trivial
  obtain rfl : t = .nil := len_nil (by have := sz_pos t; omega)
  obtain ⟨cs, ⟨l1, a1, cap1, rfl, g1⟩, row1⟩ := h1
  obtain ⟨ds, ⟨l2, a2, cap2, rfl, g2⟩, row2⟩ := h2
  have hcall : Calls Tryz.prog 97 #[.slice a1 M.Tr.nil.len cap1, .slice a2 u.len cap2, .func (.func 98) #[] #[]] w fun e w' => e = .returned (.bool (decide (M.Tr.nil = u))) ∧ Below w.heap.size w w' := by
    by_cases hu : u.len = 0
    · obtain rfl := len_nil hu
      go_enter Tryz.func97, Tryz.ntmps97
      go_wp2_with fail
      go_loop [17] (fun i => i = .int .i64 0) (fun _ => 0)
      case atStart => rfl
      case round =>
        subst hrel
        go_wp2_with fail
        go_ret
        exact ⟨rfl, Below.refl _ _⟩
    · have hd : ((M.Tr.nil.len : Int) != (u.len : Int)) = true := by simp [M.Tr.len]; omega
      have HN : Hid (M.Tr.nil ≠ u) := fun h => hu (by rw [← h]; rfl)
      go_enter Tryz.func97, Tryz.ntmps97
      go_wp2_with fail
      go_ret
      exact ⟨ret_bool (decide_eq_false HN.out).symm, Below.refl _ _⟩
  go_enter Tryz.func86, Tryz.ntmps86
  go_wp2_with fail
  refine hcall.mono ?_
  rintro e w' ⟨rfl, hb⟩
  go_wp2_with fail
  go_ret
  exact ⟨rfl, hb⟩
theorem sameC : ∀ k, SameC k
  | 0 => same0
  | k + 1 => sameBlock_any k (sameC k)
end Go.Proofs.YtkpmpnebmkeocaaGreatDoor
end
section
namespace Go.Proofs.YtkpmpnebmkeocaaGreatDoor
open Go.RowKit

theorem two3 {w W : World} {T : TypeId} {c0 c1 c2 d0 d1 d2 : Value} (h : Below (w.heap.size + 2) ((w.alloc (.cells #[c0, c1, c2] T)).alloc (.cells #[d0, d1, d2] T)) W) :
    W.heap[w.heap.size]? = some (.cells #[c0, c1, c2] T (0, 0)) ∧ W.heap[w.heap.size + 1]? = some (.cells #[d0, d1, d2] T (0, 0)) := by
  refine ⟨(h.block w.heap.size (by omega)).trans ((Below.heap_alloc _ _ _ (by simp)).trans (heap_alloc_new w _)), (h.block (w.heap.size + 1) (by omega)).trans ?_⟩
  have := heap_alloc_new (w.alloc (.cells #[c0, c1, c2] T)) (.cells #[d0, d1, d2] T)
  simp only [World.size_alloc] at this; exact this
theorem three_cells {w : World} {b o j : Nat} {cs rest : List Value} {c0 c1 c2 : Value} (hc : ∀ i u, cs[i]? = some u → w.cell? ⟨b, o + i, none⟩ = some u) (hd : cs.drop (j * 3) = c0 :: c1 :: c2 :: rest) :
    w.cell? ⟨b, o + j * 3, none⟩ = some c0 ∧ w.cell? ⟨b, o + j * 3 + 1, none⟩ = some c1 ∧ w.cell? ⟨b, o + j * 3 + 2, none⟩ = some c2 ∧ cs.drop ((j + 1) * 3) = rest := by
  have h : ∀ k u, (c0 :: c1 :: c2 :: rest)[k]? = some u → w.cell? ⟨b, o + j * 3 + k, none⟩ = some u := fun k u hu => by
    rw [Nat.add_assoc]; exact hc _ _ (by rw [drop_get, hd]; exact hu)
  refine ⟨h 0 _ rfl, h 1 _ rfl, h 2 _ rfl, ?_⟩
  rw [show (j + 1) * 3 = j * 3 + 3 by omega, ← List.drop_drop, hd]; rfl

set_option maxRecDepth 8000 in
set_option maxHeartbeats 800000 in
theorem sameFunc_0 (w : World) (f g : M.Fn) (vp1 vp2 vb1 vb2 : Value) (gP1 : StrsAt w NoX vp1 f.ps) (gP2 : StrsAt w NoX vp2 g.ps) (gB1 : StmAt w NoX vb1 f.body) (gB2 : StmAt w NoX vb2 g.body) (n0 : ¬ f.name = g.name) :
    Calls Tryz.prog 62 #[.agg #[.string f.name, vp1, vb1], .agg #[.string g.name, vp2, vb2]] w fun e w' => e = .returned (.bool (decide (f = g))) ∧ Below w.heap.size w w' := by
  have HD : Hid (decide (f = g) = false) := decide_eq_false fun h => n0 (by rw [h])
  have hw0 : Below w.heap.size w ((w.alloc (.cells #[.string f.name, vp1, vb1] 34)).alloc (.cells #[.string g.name, vp2, vb2] 34)) := ((Below.refl _ _).alloc (Nat.le_refl _) _).alloc (by simp) _
  have hz0 : ((w.alloc (.cells #[.string f.name, vp1, vb1] 34)).alloc (.cells #[.string g.name, vp2, vb2] 34)).heap.size = w.heap.size + 2 := by simp only [World.size_alloc]
  obtain ⟨q3, m3, rfl⟩ := SlAt.form gP1
  obtain ⟨q4, m4, rfl⟩ := SlAt.form gP2
  obtain ⟨q5, m5, rfl⟩ := StmAt.form gB1
  obtain ⟨q6, m6, rfl⟩ := StmAt.form gB2
  have b0 : (f.name.toList == g.name.toList) = false := by rw [beq_list]; exact decide_eq_false n0
  clear n0
  have HZ0 := hid hz0
  clear hz0
  go_enter Tryz.func62, Tryz.ntmps62
  go_wp2_with fail
  go_ret
  exact ⟨ret_bool HD.out.symm, hw0⟩

set_option maxRecDepth 8000 in
set_option maxHeartbeats 800000 in
theorem sameFunc_1 (w : World) (f g : M.Fn) (vp1 vp2 vb1 vb2 : Value) (gP1 : StrsAt w NoX vp1 f.ps) (gP2 : StrsAt w NoX vp2 g.ps) (gB1 : StmAt w NoX vb1 f.body) (gB2 : StmAt w NoX vb2 g.body) (e0 : f.name = g.name) (n1 : ¬ f.ps = g.ps) :
    Calls Tryz.prog 62 #[.agg #[.string f.name, vp1, vb1], .agg #[.string g.name, vp2, vb2]] w fun e w' => e = .returned (.bool (decide (f = g))) ∧ Below w.heap.size w w' := by
  have HD : Hid (decide (f = g) = false) := decide_eq_false fun h => n1 (by rw [h])
  have hw0 : Below w.heap.size w ((w.alloc (.cells #[.string f.name, vp1, vb1] 34)).alloc (.cells #[.string g.name, vp2, vb2] 34)) := ((Below.refl _ _).alloc (Nat.le_refl _) _).alloc (by simp) _
  have hz0 : ((w.alloc (.cells #[.string f.name, vp1, vb1] 34)).alloc (.cells #[.string g.name, vp2, vb2] 34)).heap.size = w.heap.size + 2 := by simp only [World.size_alloc]
  obtain ⟨q3, m3, rfl⟩ := SlAt.form gP1
  obtain ⟨q4, m4, rfl⟩ := SlAt.form gP2
  obtain ⟨q5, m5, rfl⟩ := StmAt.form gB1
  obtain ⟨q6, m6, rfl⟩ := StmAt.form gB2
  have b0 : (f.name.toList == g.name.toList) = true := by rw [beq_list]; exact decide_eq_true e0
  clear e0
  have d1 : decide (f.ps = g.ps) = false := decide_eq_false n1
  clear n1
  have HZ0 := hid hz0
  clear hz0
  go_enter Tryz.func62, Tryz.ntmps62
  go_wp2_with fail
  refine (strsEqB _ _ _ _ _ _ (SlAt.bel gP1 hw0) (SlAt.bel gP2 hw0) d1).mono ?_
  rintro e w4 ⟨rfl, hb4⟩
  have hB4 := hb4
  rw [HZ0.out] at hB4
  have hw4 : Below w.heap.size w w4 := hw0.trans (hB4.mono (by omega))
  go_wp2_with fail
  go_ret
  exact ⟨ret_bool HD.out.symm, hw4⟩

set_option maxRecDepth 8000 in
set_option maxHeartbeats 800000 in
theorem sameFunc_2 (w : World) (f g : M.Fn) (vp1 vp2 vb1 vb2 : Value) (gP1 : StrsAt w NoX vp1 f.ps) (gP2 : StrsAt w NoX vp2 g.ps) (gB1 : StmAt w NoX vb1 f.body) (gB2 : StmAt w NoX vb2 g.body) (e0 : f.name = g.name) (e1 : f.ps = g.ps) (n2 : ¬ f.body = g.body) :
    Calls Tryz.prog 62 #[.agg #[.string f.name, vp1, vb1], .agg #[.string g.name, vp2, vb2]] w fun e w' => e = .returned (.bool (decide (f = g))) ∧ Below w.heap.size w w' := by
  have HD : Hid (decide (f = g) = false) := decide_eq_false fun h => n2 (by rw [h])
  have hw0 : Below w.heap.size w ((w.alloc (.cells #[.string f.name, vp1, vb1] 34)).alloc (.cells #[.string g.name, vp2, vb2] 34)) := ((Below.refl _ _).alloc (Nat.le_refl _) _).alloc (by simp) _
  have hz0 : ((w.alloc (.cells #[.string f.name, vp1, vb1] 34)).alloc (.cells #[.string g.name, vp2, vb2] 34)).heap.size = w.heap.size + 2 := by simp only [World.size_alloc]
  obtain ⟨q3, m3, rfl⟩ := SlAt.form gP1
  obtain ⟨q4, m4, rfl⟩ := SlAt.form gP2
  obtain ⟨q5, m5, rfl⟩ := StmAt.form gB1
  obtain ⟨q6, m6, rfl⟩ := StmAt.form gB2
  have b0 : (f.name.toList == g.name.toList) = true := by rw [beq_list]; exact decide_eq_true e0
  clear e0
  have d1 : decide (f.ps = g.ps) = true := decide_eq_true e1
  clear e1
  have d2 : decide (f.body = g.body) = false := decide_eq_false n2
  clear n2
  have HZ0 := hid hz0
  clear hz0
  go_enter Tryz.func62, Tryz.ntmps62
  go_wp2_with fail
  refine (strsEqB _ _ _ _ _ _ (SlAt.bel gP1 hw0) (SlAt.bel gP2 hw0) d1).mono ?_
  rintro e w4 ⟨rfl, hb4⟩
  have hB4 := hb4
  rw [HZ0.out] at hB4
  have hw4 : Below w.heap.size w w4 := hw0.trans (hB4.mono (by omega))
  obtain ⟨tw1, tw2⟩ := two3 hB4
  obtain ⟨k0, k1, k2, kf, kz⟩ := cells3 tw1
  obtain ⟨l0, l1, l2, lf, lz⟩ := cells3 tw2
  go_wp2_with fail
  refine (sameB (sameC f.body.sz) _ _ _ _ _ _ (Nat.le_refl _) (gB1.bel hw4) (gB2.bel hw4) d2).mono ?_
  rintro e w5 ⟨rfl, hb5⟩
  have hB5 := hB4.trans (hb5.mono (by have := hB4.size; rw [HZ0.out] at this; exact this))
  have hw5 : Below w.heap.size w w5 := hw0.trans (hB5.mono (by omega))
  go_wp2_with fail
  go_ret
  exact ⟨ret_bool HD.out.symm, hw5⟩

set_option maxRecDepth 8000 in
set_option maxHeartbeats 800000 in
theorem sameFunc_3 (w : World) (f g : M.Fn) (vp1 vp2 vb1 vb2 : Value) (gP1 : StrsAt w NoX vp1 f.ps) (gP2 : StrsAt w NoX vp2 g.ps) (gB1 : StmAt w NoX vb1 f.body) (gB2 : StmAt w NoX vb2 g.body) (e0 : f.name = g.name) (e1 : f.ps = g.ps) (e2 : f.body = g.body) :
    Calls Tryz.prog 62 #[.agg #[.string f.name, vp1, vb1], .agg #[.string g.name, vp2, vb2]] w fun e w' => e = .returned (.bool (decide (f = g))) ∧ Below w.heap.size w w' := by
  have HD : Hid (decide (f = g) = true) := decide_eq_true (by cases f; cases g; simp_all)
  have hw0 : Below w.heap.size w ((w.alloc (.cells #[.string f.name, vp1, vb1] 34)).alloc (.cells #[.string g.name, vp2, vb2] 34)) := ((Below.refl _ _).alloc (Nat.le_refl _) _).alloc (by simp) _
  have hz0 : ((w.alloc (.cells #[.string f.name, vp1, vb1] 34)).alloc (.cells #[.string g.name, vp2, vb2] 34)).heap.size = w.heap.size + 2 := by simp only [World.size_alloc]
  obtain ⟨q3, m3, rfl⟩ := SlAt.form gP1
  obtain ⟨q4, m4, rfl⟩ := SlAt.form gP2
  obtain ⟨q5, m5, rfl⟩ := StmAt.form gB1
  obtain ⟨q6, m6, rfl⟩ := StmAt.form gB2
  have b0 : (f.name.toList == g.name.toList) = true := by rw [beq_list]; exact decide_eq_true e0
  clear e0
  have d1 : decide (f.ps = g.ps) = true := decide_eq_true e1
  clear e1
  have d2 : decide (f.body = g.body) = true := decide_eq_true e2
  clear e2
  have HZ0 := hid hz0
  clear hz0
  go_enter Tryz.func62, Tryz.ntmps62
  go_wp2_with fail
  refine (strsEqB _ _ _ _ _ _ (SlAt.bel gP1 hw0) (SlAt.bel gP2 hw0) d1).mono ?_
  rintro e w4 ⟨rfl, hb4⟩
  have hB4 := hb4
  rw [HZ0.out] at hB4
  have hw4 : Below w.heap.size w w4 := hw0.trans (hB4.mono (by omega))
  obtain ⟨tw1, tw2⟩ := two3 hB4
  obtain ⟨k0, k1, k2, kf, kz⟩ := cells3 tw1
  obtain ⟨l0, l1, l2, lf, lz⟩ := cells3 tw2
  go_wp2_with fail
  refine (sameB (sameC f.body.sz) _ _ _ _ _ _ (Nat.le_refl _) (gB1.bel hw4) (gB2.bel hw4) d2).mono ?_
  rintro e w5 ⟨rfl, hb5⟩
  have hB5 := hB4.trans (hb5.mono (by have := hB4.size; rw [HZ0.out] at this; exact this))
  have hw5 : Below w.heap.size w w5 := hw0.trans (hB5.mono (by omega))
  go_wp2_with fail
  go_ret
  exact ⟨ret_bool HD.out.symm, hw5⟩

theorem sameFunc_any (w : World) (f g : M.Fn) (vp1 vp2 vb1 vb2 : Value) (gP1 : StrsAt w NoX vp1 f.ps) (gP2 : StrsAt w NoX vp2 g.ps) (gB1 : StmAt w NoX vb1 f.body) (gB2 : StmAt w NoX vb2 g.body) :
    Calls Tryz.prog 62 #[.agg #[.string f.name, vp1, vb1], .agg #[.string g.name, vp2, vb2]] w fun e w' => e = .returned (.bool (decide (f = g))) ∧ Below w.heap.size w w' := by
  by_cases e0 : f.name = g.name
  case neg => exact sameFunc_0 w f g vp1 vp2 vb1 vb2 gP1 gP2 gB1 gB2 e0
  by_cases e1 : f.ps = g.ps
  case neg => exact sameFunc_1 w f g vp1 vp2 vb1 vb2 gP1 gP2 gB1 gB2 e0 e1
  by_cases e2 : f.body = g.body
  case neg => exact sameFunc_2 w f g vp1 vp2 vb1 vb2 gP1 gP2 gB1 gB2 e0 e1 e2
  exact sameFunc_3 w f g vp1 vp2 vb1 vb2 gP1 gP2 gB1 gB2 e0 e1 e2

set_option maxRecDepth 8000 in
set_option maxHeartbeats 1600000 in
theorem eqFuncF_any (w : World) (va vb : Value) (l m : List M.Fn) (h1 : ProgAt w NoX va l) (h2 : ProgAt w NoX vb m) :
    Calls Tryz.prog 61 #[va, vb, .func (.func 62) #[] #[]] w fun e w' => e = .returned (.bool (decide (l = m))) ∧ Below w.heap.size w w' := by
  obtain ⟨cs, ⟨l1, a1, cap1, rfl, g1⟩, row1⟩ := h1
  obtain ⟨ds, ⟨l2, a2, cap2, rfl, g2⟩, row2⟩ := h2
  by_cases hl : l.length = m.length
  · have hd : ((l.length : Int) != (m.length : Int)) = false := by simp [hl]
    by_cases h0 : l.length = 0
    · have hu : m.length = 0 := by omega
      obtain rfl := List.length_eq_zero_iff.1 h0
      obtain rfl := List.length_eq_zero_iff.1 hu
      go_enter Tryz.func61, Tryz.ntmps61
      go_wp2_with fail
      go_loop [17] (fun i => i = .int .i64 0) (fun _ => 0)
      case atStart => rfl
      case round =>
        subst hrel
        go_wp2_with fail
        go_ret
        exact ⟨rfl, Below.refl _ _⟩
    · have HL : Hid (l.length = m.length) := hl
      have HU : m.length ≠ 0 := by omega
      rcases g1 with ⟨g1, _⟩ | ⟨b1, o1, rfl, hlt1, _, hc1⟩
      · exact absurd g1 h0
      rcases g2 with ⟨g2, _⟩ | ⟨b2, o2, rfl, hlt2, _, hc2⟩
      · exact absurd g2 HU
      clear hl
      go_enter Tryz.func61, Tryz.ntmps61
      go_wp2_with fail
      go_loopw [17] (fun i wr => ∃ (j : Nat) (l' m' : List M.Fn), i = .int .i64 j ∧ j + l'.length = l.length ∧ j + m'.length = m.length ∧ Below w.heap.size w wr ∧ FnsAt w NoX (cs.drop (j * 3)) l' ∧ FnsAt w NoX (ds.drop (j * 3)) m' ∧ Hid (decide (l = m) = decide (l' = m'))) (fun i _ => l.length - (intOf i).toNat)
      case atStart => exact ⟨0, l, m, rfl, Nat.zero_add _, Nat.zero_add _, Below.refl _ _, by simpa using row1, by simpa using row2, rfl⟩
      case round =>
        obtain ⟨j, l', m', rfl, hj1, hj2, hb, r1, r2, HE⟩ := hrel
        have hll := HL.out
        by_cases hjl : j < l.length
        · cases l' with
          | nil => simp only [List.length_nil] at hj1; omega
          | cons f lr =>
            cases m' with
            | nil => simp only [List.length_nil] at hj2; omega
            | cons g mr =>
              obtain ⟨vp1, vb1, rest1, e1, gP1, gB1, gN1⟩ := r1
              obtain ⟨vp2, vb2, rest2, e2, gP2, gB2, gN2⟩ := r2
              obtain ⟨f0, f1, f2, fr⟩ := three_cells hc1 e1
              obtain ⟨s0, s1, s2, sr⟩ := three_cells hc2 e2
              have hbc := fun (b o : Nat) (hlt : b < w.heap.size) => hb.cell (p := ⟨b, o, none⟩) hlt
              rw [← hbc b1 _ hlt1] at f0 f1 f2
              rw [← hbc b2 _ hlt2] at s0 s1 s2
              have hbW : Below w.heap.size w ((wr.alloc (.cells #[.string f.name, vp1, vb1] 34)).alloc (.cells #[.string g.name, vp2, vb2] 34)) := (hb.alloc hb.size _).alloc (by rw [World.size_alloc]; have := hb.size; omega) _
              have hcall := sameFunc_any ((wr.alloc (.cells #[.string f.name, vp1, vb1] 34)).alloc (.cells #[.string g.name, vp2, vb2] 34)) f g vp1 vp2 vb1 vb2 (SlAt.bel gP1 hbW) (SlAt.bel gP2 hbW) (gB1.bel hbW) (gB2.bel hbW)
              obtain ⟨q3, m3, rfl⟩ := SlAt.form gP1
              obtain ⟨q4, m4, rfl⟩ := SlAt.form gP2
              obtain ⟨q5, m5, rfl⟩ := StmAt.form gB1
              obtain ⟨q6, m6, rfl⟩ := StmAt.form gB2
              have hi1 : (j : Int) < (l.length : Int) := by omega
              have hi2 : (j : Int) < (m.length : Int) := by omega
              have hlw1 : b1 < wr.heap.size := Nat.lt_of_lt_of_le hlt1 hb.size
              have hlw2 : b2 < wr.heap.size := Nat.lt_of_lt_of_le hlt2 hb.size
              clear hll hbc
              simp only [List.length_cons] at hj1 hj2
              by_cases hcd : f = g
              · rw [decide_eq_true hcd] at hcall
                have HE2 : Hid (decide (l = m) = decide (lr = mr)) := by
                  unfold Hid; rw [HE.out]; exact decide_eq_decide.2 ⟨fun h => (List.cons.inj h).2, fun h => by rw [hcd, h]⟩
                clear hcd HE
                go_wp2_with fail
                refine hcall.mono ?_
                rintro e w5 ⟨rfl, hb5⟩
                go_wp2_with fail
                refine ⟨⟨j + 1, lr, mr, by go_num, by omega, by omega, ?_, by rw [fr]; exact gN1, by rw [sr]; exact gN2, HE2⟩, by simp [intOf]; omega⟩
                exact hbW.trans (hb5.mono (by rw [World.size_alloc, World.size_alloc]; have := hb.size; omega))
              · rw [decide_eq_false hcd] at hcall
                have HE2 : Hid (decide (l = m) = false) := by
                  unfold Hid; rw [HE.out]; exact decide_eq_false fun h => hcd (List.cons.inj h).1
                clear hcd HE
                go_wp2_with fail
                refine hcall.mono ?_
                rintro e w5 ⟨rfl, hb5⟩
                go_wp2_with fail
                go_ret
                refine ⟨ret_bool HE2.out.symm, ?_⟩
                exact hbW.trans (hb5.mono (by rw [World.size_alloc, World.size_alloc]; have := hb.size; omega))
        · obtain rfl : l' = [] := List.length_eq_zero_iff.1 (by omega)
          obtain rfl : m' = [] := List.length_eq_zero_iff.1 (by omega)
          clear hll
          go_wp2_with fail
          go_ret
          refine ⟨ret_bool ?_, hb⟩
          rw [HE.out]; rfl
  · have hd : ((l.length : Int) != (m.length : Int)) = true := by simp; omega
    have HN : Hid (l ≠ m) := fun h => hl (by rw [h])
    clear hl
    go_enter Tryz.func61, Tryz.ntmps61
    go_wp2_with fail
    go_ret
    exact ⟨ret_bool (decide_eq_false HN.out).symm, Below.refl _ _⟩

set_option maxHeartbeats 400000 in
theorem same_any (w : World) (va vb : Value) (l m : List M.Fn) (h1 : ProgAt w NoX va l) (h2 : ProgAt w NoX vb m) :
    Calls Tryz.prog 35 #[.agg #[va], .agg #[vb]] w fun e w' => e = .returned (.bool (decide (l = m))) ∧ Below w.heap.size w w' := by
  have hb0 : Below w.heap.size w ((w.alloc (.cells #[va] 24)).alloc (.cells #[vb] 24)) := ((Below.refl _ _).alloc (Nat.le_refl _) _).alloc (by simp) _
  have hcall := eqFuncF_any _ va vb l m (h1.keep (Below.keepX hb0)) (h2.keep (Below.keepX hb0))
  obtain ⟨q1, m1, rfl⟩ : ∃ a c, va = .slice a l.length c := by obtain ⟨_, h, _⟩ := h1; exact SlAt.form h
  obtain ⟨q2, m2, rfl⟩ : ∃ a c, vb = .slice a m.length c := by obtain ⟨_, h, _⟩ := h2; exact SlAt.form h
  go_enter Tryz.func35, Tryz.ntmps35
  go_wp2_with fail
  refine hcall.mono ?_
  rintro e w' ⟨rfl, hb⟩
  go_wp2_with fail
  go_ret
  exact ⟨rfl, hb0.trans (hb.mono (by rw [World.size_alloc, World.size_alloc]; omega))⟩
end Go.Proofs.YtkpmpnebmkeocaaGreatDoor
end
