/-
  The walk of parse.sameStmt, where blocks are known to be compared as they should. Conditions: that of smaller blocks.
-/
import Derived.Test.YtkonkdhoakcmdaaGreatDoorS1
set_option linter.unusedVariables false
namespace Go.Proofs.YtkonkdhoakcmdaaGreatDoor
open Go.RowKit

def M.Tr.sz : M.Tr → Nat
  | .nil => 0
  | .cons _ _ _ _ _ _ th el nx => 1 + th.sz + el.sz + nx.sz
def NoX : Nat → Prop := fun _ => False
/-- what sameBlock answers of a block of at most that size -/
def SameC (k : Nat) : Prop := ∀ (w : World) (va vb : Value) (t u : M.Tr), t.sz ≤ k → StmAt w NoX va t → StmAt w NoX vb u → Calls Tryz.prog 47 #[va, vb] w fun e w' => e = .returned (.bool (decide (t = u))) ∧ Below w.heap.size w w'
theorem SlAt.bel {w w' : World} {X : Nat → Prop} {v : Value} {n : Nat} {cs : List Value} (h : SlAt w X v n cs) (hb : Below w.heap.size w w') : SlAt w' X v n cs := h.keep (Below.keepX hb)
theorem StmAt.bel {w w' : World} {X : Nat → Prop} {v : Value} {t : M.Tr} (h : StmAt w X v t) (hb : Below w.heap.size w w') : StmAt w' X v t := h.keep (Below.keepX hb)
theorem opsEqB (w : World) (va vb : Value) (a b : List M.Opd) (r : Bool) (h1 : OpsAt w NoX va a) (h2 : OpsAt w NoX vb b) (hr : decide (a = b) = r) :
    Calls Tryz.prog 73 #[va, vb] w fun e w' => e = .returned (.bool r) ∧ Below w.heap.size w w' :=
  (opsEq_any _ _ _ _ _ _ w h1 h2).mono fun e w' ⟨h, n, hw⟩ => ⟨by rw [h, hr], by rw [hw]; exact below_drewN (Below.refl _ _) n⟩
theorem strsEqB (w : World) (va vb : Value) (a b : List ByteArray) (r : Bool) (h1 : StrsAt w NoX va a) (h2 : StrsAt w NoX vb b) (hr : decide (a = b) = r) :
    Calls Tryz.prog 46 #[va, vb] w fun e w' => e = .returned (.bool r) ∧ Below w.heap.size w w' :=
  (strsEq_any _ _ _ _ _ _ w h1 h2).mono fun e w' ⟨h, n, hw⟩ => ⟨by rw [h, hr], by rw [hw]; exact below_drewN (Below.refl _ _) n⟩
theorem sameB {k : Nat} (hB : SameC k) (w : World) (va vb : Value) (t u : M.Tr) (r : Bool) (hk : t.sz ≤ k) (h1 : StmAt w NoX va t) (h2 : StmAt w NoX vb u) (hr : decide (t = u) = r) :
    Calls Tryz.prog 47 #[va, vb] w fun e w' => e = .returned (.bool r) ∧ Below w.heap.size w w' :=
  (hB w va vb t u hk h1 h2).mono fun e w' ⟨h, hb⟩ => ⟨by rw [h, hr], hb⟩
/-- two blocks of eight cells stay -/
theorem two8 {w W : World} {T : TypeId} {c0 c1 c2 c3 c4 c5 c6 c7 d0 d1 d2 d3 d4 d5 d6 d7 : Value}
    (h : Below (w.heap.size + 2) ((w.alloc (.cells #[c0, c1, c2, c3, c4, c5, c6, c7] T)).alloc (.cells #[d0, d1, d2, d3, d4, d5, d6, d7] T)) W) :
    W.heap[w.heap.size]? = some (.cells #[c0, c1, c2, c3, c4, c5, c6, c7] T (0, 0)) ∧ W.heap[w.heap.size + 1]? = some (.cells #[d0, d1, d2, d3, d4, d5, d6, d7] T (0, 0)) := by
  refine ⟨(h.block w.heap.size (by omega)).trans ((Below.heap_alloc _ _ _ (by simp)).trans (heap_alloc_new w _)), (h.block (w.heap.size + 1) (by omega)).trans ?_⟩
  have := heap_alloc_new (w.alloc (.cells #[c0, c1, c2, c3, c4, c5, c6, c7] T)) (.cells #[d0, d1, d2, d3, d4, d5, d6, d7] T)
  simp only [World.size_alloc] at this; exact this

set_option maxRecDepth 8000 in
set_option maxHeartbeats 800000 in
theorem sameStmt_0 (k : Nat) (hB : SameC k) (w : World) (op1 op2 : Int) (x1 x2 y1 y2 p1 p2 : ByteArray) (a1 a2 : List M.Opd) (pr1 pr2 : List ByteArray) (th1 th2 el1 el2 : M.Tr) (va1 va2 vp1 vp2 vt1 vt2 ve1 ve2 : Value)
    (hk1 : th1.sz ≤ k) (hk2 : el1.sz ≤ k) (gA1 : OpsAt w NoX va1 a1) (gA2 : OpsAt w NoX va2 a2) (gP1 : StrsAt w NoX vp1 pr1) (gP2 : StrsAt w NoX vp2 pr2) (gT1 : StmAt w NoX vt1 th1) (gT2 : StmAt w NoX vt2 th2) (gE1 : StmAt w NoX ve1 el1) (gE2 : StmAt w NoX ve2 el2) (n0 : ¬ op1 = op2) :
    Calls Tryz.prog 61 #[.agg #[.int .i64 op1, .string x1, .string y1, .string p1, va1, vp1, vt1, ve1], .agg #[.int .i64 op2, .string x2, .string y2, .string p2, va2, vp2, vt2, ve2]] w fun e w' => e = .returned (.bool (decide (op1 = op2 ∧ x1 = x2 ∧ y1 = y2 ∧ p1 = p2 ∧ a1 = a2 ∧ pr1 = pr2 ∧ th1 = th2 ∧ el1 = el2))) ∧ Below w.heap.size w w' := by
  have HD : Hid (decide (op1 = op2 ∧ x1 = x2 ∧ y1 = y2 ∧ p1 = p2 ∧ a1 = a2 ∧ pr1 = pr2 ∧ th1 = th2 ∧ el1 = el2) = false) := decide_eq_false (fun h => n0 h.1)
  have hw0 : Below w.heap.size w ((w.alloc (.cells #[.int .i64 op1, .string x1, .string y1, .string p1, va1, vp1, vt1, ve1] 59)).alloc (.cells #[.int .i64 op2, .string x2, .string y2, .string p2, va2, vp2, vt2, ve2] 59)) := ((Below.refl _ _).alloc (Nat.le_refl _) _).alloc (by simp) _
  have hz0 : ((w.alloc (.cells #[.int .i64 op1, .string x1, .string y1, .string p1, va1, vp1, vt1, ve1] 59)).alloc (.cells #[.int .i64 op2, .string x2, .string y2, .string p2, va2, vp2, vt2, ve2] 59)).heap.size = w.heap.size + 2 := by simp only [World.size_alloc]
  obtain ⟨q1, m1, rfl⟩ := SlAt.form gA1
  obtain ⟨q2, m2, rfl⟩ := SlAt.form gA2
  obtain ⟨q3, m3, rfl⟩ := SlAt.form gP1
  obtain ⟨q4, m4, rfl⟩ := SlAt.form gP2
  obtain ⟨q5, m5, rfl⟩ := StmAt.form gT1
  obtain ⟨q6, m6, rfl⟩ := StmAt.form gT2
  obtain ⟨q7, m7, rfl⟩ := StmAt.form gE1
  obtain ⟨q8, m8, rfl⟩ := StmAt.form gE2
  have b0 : (op1 == op2) = false := by simpa using n0
  clear n0
  have HZ0 := hid hz0
  clear hz0
  go_enter Tryz.func61, Tryz.ntmps61
  go_wp2_with fail
  go_ret
  exact ⟨ret_bool HD.out.symm, hw0⟩

set_option maxRecDepth 8000 in
set_option maxHeartbeats 800000 in
theorem sameStmt_1 (k : Nat) (hB : SameC k) (w : World) (op1 op2 : Int) (x1 x2 y1 y2 p1 p2 : ByteArray) (a1 a2 : List M.Opd) (pr1 pr2 : List ByteArray) (th1 th2 el1 el2 : M.Tr) (va1 va2 vp1 vp2 vt1 vt2 ve1 ve2 : Value)
    (hk1 : th1.sz ≤ k) (hk2 : el1.sz ≤ k) (gA1 : OpsAt w NoX va1 a1) (gA2 : OpsAt w NoX va2 a2) (gP1 : StrsAt w NoX vp1 pr1) (gP2 : StrsAt w NoX vp2 pr2) (gT1 : StmAt w NoX vt1 th1) (gT2 : StmAt w NoX vt2 th2) (gE1 : StmAt w NoX ve1 el1) (gE2 : StmAt w NoX ve2 el2) (e0 : op1 = op2) (n1 : ¬ x1 = x2) :
    Calls Tryz.prog 61 #[.agg #[.int .i64 op1, .string x1, .string y1, .string p1, va1, vp1, vt1, ve1], .agg #[.int .i64 op2, .string x2, .string y2, .string p2, va2, vp2, vt2, ve2]] w fun e w' => e = .returned (.bool (decide (op1 = op2 ∧ x1 = x2 ∧ y1 = y2 ∧ p1 = p2 ∧ a1 = a2 ∧ pr1 = pr2 ∧ th1 = th2 ∧ el1 = el2))) ∧ Below w.heap.size w w' := by
  have HD : Hid (decide (op1 = op2 ∧ x1 = x2 ∧ y1 = y2 ∧ p1 = p2 ∧ a1 = a2 ∧ pr1 = pr2 ∧ th1 = th2 ∧ el1 = el2) = false) := decide_eq_false (fun h => n1 h.2.1)
  have hw0 : Below w.heap.size w ((w.alloc (.cells #[.int .i64 op1, .string x1, .string y1, .string p1, va1, vp1, vt1, ve1] 59)).alloc (.cells #[.int .i64 op2, .string x2, .string y2, .string p2, va2, vp2, vt2, ve2] 59)) := ((Below.refl _ _).alloc (Nat.le_refl _) _).alloc (by simp) _
  have hz0 : ((w.alloc (.cells #[.int .i64 op1, .string x1, .string y1, .string p1, va1, vp1, vt1, ve1] 59)).alloc (.cells #[.int .i64 op2, .string x2, .string y2, .string p2, va2, vp2, vt2, ve2] 59)).heap.size = w.heap.size + 2 := by simp only [World.size_alloc]
  obtain ⟨q1, m1, rfl⟩ := SlAt.form gA1
  obtain ⟨q2, m2, rfl⟩ := SlAt.form gA2
  obtain ⟨q3, m3, rfl⟩ := SlAt.form gP1
  obtain ⟨q4, m4, rfl⟩ := SlAt.form gP2
  obtain ⟨q5, m5, rfl⟩ := StmAt.form gT1
  obtain ⟨q6, m6, rfl⟩ := StmAt.form gT2
  obtain ⟨q7, m7, rfl⟩ := StmAt.form gE1
  obtain ⟨q8, m8, rfl⟩ := StmAt.form gE2
  have b0 : (op1 == op2) = true := by simpa using e0
  have b1 : (x1.toList == x2.toList) = false := by rw [beq_list]; exact decide_eq_false n1
  clear e0 n1
  have HZ0 := hid hz0
  clear hz0
  go_enter Tryz.func61, Tryz.ntmps61
  go_wp2_with fail
  go_ret
  exact ⟨ret_bool HD.out.symm, hw0⟩

set_option maxRecDepth 8000 in
set_option maxHeartbeats 800000 in
theorem sameStmt_2 (k : Nat) (hB : SameC k) (w : World) (op1 op2 : Int) (x1 x2 y1 y2 p1 p2 : ByteArray) (a1 a2 : List M.Opd) (pr1 pr2 : List ByteArray) (th1 th2 el1 el2 : M.Tr) (va1 va2 vp1 vp2 vt1 vt2 ve1 ve2 : Value)
    (hk1 : th1.sz ≤ k) (hk2 : el1.sz ≤ k) (gA1 : OpsAt w NoX va1 a1) (gA2 : OpsAt w NoX va2 a2) (gP1 : StrsAt w NoX vp1 pr1) (gP2 : StrsAt w NoX vp2 pr2) (gT1 : StmAt w NoX vt1 th1) (gT2 : StmAt w NoX vt2 th2) (gE1 : StmAt w NoX ve1 el1) (gE2 : StmAt w NoX ve2 el2) (e0 : op1 = op2) (e1 : x1 = x2) (n2 : ¬ y1 = y2) :
    Calls Tryz.prog 61 #[.agg #[.int .i64 op1, .string x1, .string y1, .string p1, va1, vp1, vt1, ve1], .agg #[.int .i64 op2, .string x2, .string y2, .string p2, va2, vp2, vt2, ve2]] w fun e w' => e = .returned (.bool (decide (op1 = op2 ∧ x1 = x2 ∧ y1 = y2 ∧ p1 = p2 ∧ a1 = a2 ∧ pr1 = pr2 ∧ th1 = th2 ∧ el1 = el2))) ∧ Below w.heap.size w w' := by
  have HD : Hid (decide (op1 = op2 ∧ x1 = x2 ∧ y1 = y2 ∧ p1 = p2 ∧ a1 = a2 ∧ pr1 = pr2 ∧ th1 = th2 ∧ el1 = el2) = false) := decide_eq_false (fun h => n2 h.2.2.1)
  have hw0 : Below w.heap.size w ((w.alloc (.cells #[.int .i64 op1, .string x1, .string y1, .string p1, va1, vp1, vt1, ve1] 59)).alloc (.cells #[.int .i64 op2, .string x2, .string y2, .string p2, va2, vp2, vt2, ve2] 59)) := ((Below.refl _ _).alloc (Nat.le_refl _) _).alloc (by simp) _
  have hz0 : ((w.alloc (.cells #[.int .i64 op1, .string x1, .string y1, .string p1, va1, vp1, vt1, ve1] 59)).alloc (.cells #[.int .i64 op2, .string x2, .string y2, .string p2, va2, vp2, vt2, ve2] 59)).heap.size = w.heap.size + 2 := by simp only [World.size_alloc]
  obtain ⟨q1, m1, rfl⟩ := SlAt.form gA1
  obtain ⟨q2, m2, rfl⟩ := SlAt.form gA2
  obtain ⟨q3, m3, rfl⟩ := SlAt.form gP1
  obtain ⟨q4, m4, rfl⟩ := SlAt.form gP2
  obtain ⟨q5, m5, rfl⟩ := StmAt.form gT1
  obtain ⟨q6, m6, rfl⟩ := StmAt.form gT2
  obtain ⟨q7, m7, rfl⟩ := StmAt.form gE1
  obtain ⟨q8, m8, rfl⟩ := StmAt.form gE2
  have b0 : (op1 == op2) = true := by simpa using e0
  have b1 : (x1.toList == x2.toList) = true := by rw [beq_list]; exact decide_eq_true e1
  have b2 : (y1.toList == y2.toList) = false := by rw [beq_list]; exact decide_eq_false n2
  clear e0 e1 n2
  have HZ0 := hid hz0
  clear hz0
  go_enter Tryz.func61, Tryz.ntmps61
  go_wp2_with fail
  go_ret
  exact ⟨ret_bool HD.out.symm, hw0⟩

set_option maxRecDepth 8000 in
set_option maxHeartbeats 800000 in
theorem sameStmt_3 (k : Nat) (hB : SameC k) (w : World) (op1 op2 : Int) (x1 x2 y1 y2 p1 p2 : ByteArray) (a1 a2 : List M.Opd) (pr1 pr2 : List ByteArray) (th1 th2 el1 el2 : M.Tr) (va1 va2 vp1 vp2 vt1 vt2 ve1 ve2 : Value)
    (hk1 : th1.sz ≤ k) (hk2 : el1.sz ≤ k) (gA1 : OpsAt w NoX va1 a1) (gA2 : OpsAt w NoX va2 a2) (gP1 : StrsAt w NoX vp1 pr1) (gP2 : StrsAt w NoX vp2 pr2) (gT1 : StmAt w NoX vt1 th1) (gT2 : StmAt w NoX vt2 th2) (gE1 : StmAt w NoX ve1 el1) (gE2 : StmAt w NoX ve2 el2) (e0 : op1 = op2) (e1 : x1 = x2) (e2 : y1 = y2) (n3 : ¬ p1 = p2) :
    Calls Tryz.prog 61 #[.agg #[.int .i64 op1, .string x1, .string y1, .string p1, va1, vp1, vt1, ve1], .agg #[.int .i64 op2, .string x2, .string y2, .string p2, va2, vp2, vt2, ve2]] w fun e w' => e = .returned (.bool (decide (op1 = op2 ∧ x1 = x2 ∧ y1 = y2 ∧ p1 = p2 ∧ a1 = a2 ∧ pr1 = pr2 ∧ th1 = th2 ∧ el1 = el2))) ∧ Below w.heap.size w w' := by
  have HD : Hid (decide (op1 = op2 ∧ x1 = x2 ∧ y1 = y2 ∧ p1 = p2 ∧ a1 = a2 ∧ pr1 = pr2 ∧ th1 = th2 ∧ el1 = el2) = false) := decide_eq_false (fun h => n3 h.2.2.2.1)
  have hw0 : Below w.heap.size w ((w.alloc (.cells #[.int .i64 op1, .string x1, .string y1, .string p1, va1, vp1, vt1, ve1] 59)).alloc (.cells #[.int .i64 op2, .string x2, .string y2, .string p2, va2, vp2, vt2, ve2] 59)) := ((Below.refl _ _).alloc (Nat.le_refl _) _).alloc (by simp) _
  have hz0 : ((w.alloc (.cells #[.int .i64 op1, .string x1, .string y1, .string p1, va1, vp1, vt1, ve1] 59)).alloc (.cells #[.int .i64 op2, .string x2, .string y2, .string p2, va2, vp2, vt2, ve2] 59)).heap.size = w.heap.size + 2 := by simp only [World.size_alloc]
  obtain ⟨q1, m1, rfl⟩ := SlAt.form gA1
  obtain ⟨q2, m2, rfl⟩ := SlAt.form gA2
  obtain ⟨q3, m3, rfl⟩ := SlAt.form gP1
  obtain ⟨q4, m4, rfl⟩ := SlAt.form gP2
  obtain ⟨q5, m5, rfl⟩ := StmAt.form gT1
  obtain ⟨q6, m6, rfl⟩ := StmAt.form gT2
  obtain ⟨q7, m7, rfl⟩ := StmAt.form gE1
  obtain ⟨q8, m8, rfl⟩ := StmAt.form gE2
  have b0 : (op1 == op2) = true := by simpa using e0
  have b1 : (x1.toList == x2.toList) = true := by rw [beq_list]; exact decide_eq_true e1
  have b2 : (y1.toList == y2.toList) = true := by rw [beq_list]; exact decide_eq_true e2
  have b3 : (p1.toList == p2.toList) = false := by rw [beq_list]; exact decide_eq_false n3
  clear e0 e1 e2 n3
  have HZ0 := hid hz0
  clear hz0
  go_enter Tryz.func61, Tryz.ntmps61
  go_wp2_with fail
  go_ret
  exact ⟨ret_bool HD.out.symm, hw0⟩

set_option maxRecDepth 8000 in
set_option maxHeartbeats 800000 in
theorem sameStmt_4 (k : Nat) (hB : SameC k) (w : World) (op1 op2 : Int) (x1 x2 y1 y2 p1 p2 : ByteArray) (a1 a2 : List M.Opd) (pr1 pr2 : List ByteArray) (th1 th2 el1 el2 : M.Tr) (va1 va2 vp1 vp2 vt1 vt2 ve1 ve2 : Value)
    (hk1 : th1.sz ≤ k) (hk2 : el1.sz ≤ k) (gA1 : OpsAt w NoX va1 a1) (gA2 : OpsAt w NoX va2 a2) (gP1 : StrsAt w NoX vp1 pr1) (gP2 : StrsAt w NoX vp2 pr2) (gT1 : StmAt w NoX vt1 th1) (gT2 : StmAt w NoX vt2 th2) (gE1 : StmAt w NoX ve1 el1) (gE2 : StmAt w NoX ve2 el2) (e0 : op1 = op2) (e1 : x1 = x2) (e2 : y1 = y2) (e3 : p1 = p2) (n4 : ¬ a1 = a2) :
    Calls Tryz.prog 61 #[.agg #[.int .i64 op1, .string x1, .string y1, .string p1, va1, vp1, vt1, ve1], .agg #[.int .i64 op2, .string x2, .string y2, .string p2, va2, vp2, vt2, ve2]] w fun e w' => e = .returned (.bool (decide (op1 = op2 ∧ x1 = x2 ∧ y1 = y2 ∧ p1 = p2 ∧ a1 = a2 ∧ pr1 = pr2 ∧ th1 = th2 ∧ el1 = el2))) ∧ Below w.heap.size w w' := by
  have HD : Hid (decide (op1 = op2 ∧ x1 = x2 ∧ y1 = y2 ∧ p1 = p2 ∧ a1 = a2 ∧ pr1 = pr2 ∧ th1 = th2 ∧ el1 = el2) = false) := decide_eq_false (fun h => n4 h.2.2.2.2.1)
  have hw0 : Below w.heap.size w ((w.alloc (.cells #[.int .i64 op1, .string x1, .string y1, .string p1, va1, vp1, vt1, ve1] 59)).alloc (.cells #[.int .i64 op2, .string x2, .string y2, .string p2, va2, vp2, vt2, ve2] 59)) := ((Below.refl _ _).alloc (Nat.le_refl _) _).alloc (by simp) _
  have hz0 : ((w.alloc (.cells #[.int .i64 op1, .string x1, .string y1, .string p1, va1, vp1, vt1, ve1] 59)).alloc (.cells #[.int .i64 op2, .string x2, .string y2, .string p2, va2, vp2, vt2, ve2] 59)).heap.size = w.heap.size + 2 := by simp only [World.size_alloc]
  obtain ⟨q1, m1, rfl⟩ := SlAt.form gA1
  obtain ⟨q2, m2, rfl⟩ := SlAt.form gA2
  obtain ⟨q3, m3, rfl⟩ := SlAt.form gP1
  obtain ⟨q4, m4, rfl⟩ := SlAt.form gP2
  obtain ⟨q5, m5, rfl⟩ := StmAt.form gT1
  obtain ⟨q6, m6, rfl⟩ := StmAt.form gT2
  obtain ⟨q7, m7, rfl⟩ := StmAt.form gE1
  obtain ⟨q8, m8, rfl⟩ := StmAt.form gE2
  have b0 : (op1 == op2) = true := by simpa using e0
  have b1 : (x1.toList == x2.toList) = true := by rw [beq_list]; exact decide_eq_true e1
  have b2 : (y1.toList == y2.toList) = true := by rw [beq_list]; exact decide_eq_true e2
  have b3 : (p1.toList == p2.toList) = true := by rw [beq_list]; exact decide_eq_true e3
  have d4 : decide (a1 = a2) = false := decide_eq_false n4
  clear e0 e1 e2 e3 n4
  have HZ0 := hid hz0
  clear hz0
  go_enter Tryz.func61, Tryz.ntmps61
  go_wp2_with fail
  refine (opsEqB _ _ _ _ _ _ (SlAt.bel gA1 hw0) (SlAt.bel gA2 hw0) d4).mono ?_
  rintro e w4 ⟨rfl, hb4⟩
  have hB4 := hb4
  rw [HZ0.out] at hB4
  have hw4 : Below w.heap.size w w4 := hw0.trans (hB4.mono (by omega))
  go_wp2_with fail
  go_ret
  exact ⟨ret_bool HD.out.symm, hw4⟩

set_option maxRecDepth 8000 in
set_option maxHeartbeats 800000 in
theorem sameStmt_5 (k : Nat) (hB : SameC k) (w : World) (op1 op2 : Int) (x1 x2 y1 y2 p1 p2 : ByteArray) (a1 a2 : List M.Opd) (pr1 pr2 : List ByteArray) (th1 th2 el1 el2 : M.Tr) (va1 va2 vp1 vp2 vt1 vt2 ve1 ve2 : Value)
    (hk1 : th1.sz ≤ k) (hk2 : el1.sz ≤ k) (gA1 : OpsAt w NoX va1 a1) (gA2 : OpsAt w NoX va2 a2) (gP1 : StrsAt w NoX vp1 pr1) (gP2 : StrsAt w NoX vp2 pr2) (gT1 : StmAt w NoX vt1 th1) (gT2 : StmAt w NoX vt2 th2) (gE1 : StmAt w NoX ve1 el1) (gE2 : StmAt w NoX ve2 el2) (e0 : op1 = op2) (e1 : x1 = x2) (e2 : y1 = y2) (e3 : p1 = p2) (e4 : a1 = a2) (n5 : ¬ pr1 = pr2) :
    Calls Tryz.prog 61 #[.agg #[.int .i64 op1, .string x1, .string y1, .string p1, va1, vp1, vt1, ve1], .agg #[.int .i64 op2, .string x2, .string y2, .string p2, va2, vp2, vt2, ve2]] w fun e w' => e = .returned (.bool (decide (op1 = op2 ∧ x1 = x2 ∧ y1 = y2 ∧ p1 = p2 ∧ a1 = a2 ∧ pr1 = pr2 ∧ th1 = th2 ∧ el1 = el2))) ∧ Below w.heap.size w w' := by
  have HD : Hid (decide (op1 = op2 ∧ x1 = x2 ∧ y1 = y2 ∧ p1 = p2 ∧ a1 = a2 ∧ pr1 = pr2 ∧ th1 = th2 ∧ el1 = el2) = false) := decide_eq_false (fun h => n5 h.2.2.2.2.2.1)
  have hw0 : Below w.heap.size w ((w.alloc (.cells #[.int .i64 op1, .string x1, .string y1, .string p1, va1, vp1, vt1, ve1] 59)).alloc (.cells #[.int .i64 op2, .string x2, .string y2, .string p2, va2, vp2, vt2, ve2] 59)) := ((Below.refl _ _).alloc (Nat.le_refl _) _).alloc (by simp) _
  have hz0 : ((w.alloc (.cells #[.int .i64 op1, .string x1, .string y1, .string p1, va1, vp1, vt1, ve1] 59)).alloc (.cells #[.int .i64 op2, .string x2, .string y2, .string p2, va2, vp2, vt2, ve2] 59)).heap.size = w.heap.size + 2 := by simp only [World.size_alloc]
  obtain ⟨q1, m1, rfl⟩ := SlAt.form gA1
  obtain ⟨q2, m2, rfl⟩ := SlAt.form gA2
  obtain ⟨q3, m3, rfl⟩ := SlAt.form gP1
  obtain ⟨q4, m4, rfl⟩ := SlAt.form gP2
  obtain ⟨q5, m5, rfl⟩ := StmAt.form gT1
  obtain ⟨q6, m6, rfl⟩ := StmAt.form gT2
  obtain ⟨q7, m7, rfl⟩ := StmAt.form gE1
  obtain ⟨q8, m8, rfl⟩ := StmAt.form gE2
  have b0 : (op1 == op2) = true := by simpa using e0
  have b1 : (x1.toList == x2.toList) = true := by rw [beq_list]; exact decide_eq_true e1
  have b2 : (y1.toList == y2.toList) = true := by rw [beq_list]; exact decide_eq_true e2
  have b3 : (p1.toList == p2.toList) = true := by rw [beq_list]; exact decide_eq_true e3
  have d4 : decide (a1 = a2) = true := decide_eq_true e4
  have d5 : decide (pr1 = pr2) = false := decide_eq_false n5
  clear e0 e1 e2 e3 e4 n5
  have HZ0 := hid hz0
  clear hz0
  go_enter Tryz.func61, Tryz.ntmps61
  go_wp2_with fail
  refine (opsEqB _ _ _ _ _ _ (SlAt.bel gA1 hw0) (SlAt.bel gA2 hw0) d4).mono ?_
  rintro e w4 ⟨rfl, hb4⟩
  have hB4 := hb4
  rw [HZ0.out] at hB4
  have hw4 : Below w.heap.size w w4 := hw0.trans (hB4.mono (by omega))
  obtain ⟨tw1, tw2⟩ := two8 hB4
  obtain ⟨k0, k1, k2, k3, k4, k5, k6, k7, kf, kz⟩ := cells8 tw1
  obtain ⟨l0, l1, l2, l3, l4, l5, l6, l7, lf, lz⟩ := cells8 tw2
  go_wp2_with fail
  refine (strsEqB _ _ _ _ _ _ (SlAt.bel gP1 hw4) (SlAt.bel gP2 hw4) d5).mono ?_
  rintro e w5 ⟨rfl, hb5⟩
  have hB5 := hB4.trans (hb5.mono (by have := hB4.size; rw [HZ0.out] at this; exact this))
  have hw5 : Below w.heap.size w w5 := hw0.trans (hB5.mono (by omega))
  go_wp2_with fail
  go_ret
  exact ⟨ret_bool HD.out.symm, hw5⟩

set_option maxRecDepth 8000 in
set_option maxHeartbeats 800000 in
theorem sameStmt_6 (k : Nat) (hB : SameC k) (w : World) (op1 op2 : Int) (x1 x2 y1 y2 p1 p2 : ByteArray) (a1 a2 : List M.Opd) (pr1 pr2 : List ByteArray) (th1 th2 el1 el2 : M.Tr) (va1 va2 vp1 vp2 vt1 vt2 ve1 ve2 : Value)
    (hk1 : th1.sz ≤ k) (hk2 : el1.sz ≤ k) (gA1 : OpsAt w NoX va1 a1) (gA2 : OpsAt w NoX va2 a2) (gP1 : StrsAt w NoX vp1 pr1) (gP2 : StrsAt w NoX vp2 pr2) (gT1 : StmAt w NoX vt1 th1) (gT2 : StmAt w NoX vt2 th2) (gE1 : StmAt w NoX ve1 el1) (gE2 : StmAt w NoX ve2 el2) (e0 : op1 = op2) (e1 : x1 = x2) (e2 : y1 = y2) (e3 : p1 = p2) (e4 : a1 = a2) (e5 : pr1 = pr2) (n6 : ¬ th1 = th2) :
    Calls Tryz.prog 61 #[.agg #[.int .i64 op1, .string x1, .string y1, .string p1, va1, vp1, vt1, ve1], .agg #[.int .i64 op2, .string x2, .string y2, .string p2, va2, vp2, vt2, ve2]] w fun e w' => e = .returned (.bool (decide (op1 = op2 ∧ x1 = x2 ∧ y1 = y2 ∧ p1 = p2 ∧ a1 = a2 ∧ pr1 = pr2 ∧ th1 = th2 ∧ el1 = el2))) ∧ Below w.heap.size w w' := by
  have HD : Hid (decide (op1 = op2 ∧ x1 = x2 ∧ y1 = y2 ∧ p1 = p2 ∧ a1 = a2 ∧ pr1 = pr2 ∧ th1 = th2 ∧ el1 = el2) = false) := decide_eq_false (fun h => n6 h.2.2.2.2.2.2.1)
  have hw0 : Below w.heap.size w ((w.alloc (.cells #[.int .i64 op1, .string x1, .string y1, .string p1, va1, vp1, vt1, ve1] 59)).alloc (.cells #[.int .i64 op2, .string x2, .string y2, .string p2, va2, vp2, vt2, ve2] 59)) := ((Below.refl _ _).alloc (Nat.le_refl _) _).alloc (by simp) _
  have hz0 : ((w.alloc (.cells #[.int .i64 op1, .string x1, .string y1, .string p1, va1, vp1, vt1, ve1] 59)).alloc (.cells #[.int .i64 op2, .string x2, .string y2, .string p2, va2, vp2, vt2, ve2] 59)).heap.size = w.heap.size + 2 := by simp only [World.size_alloc]
  obtain ⟨q1, m1, rfl⟩ := SlAt.form gA1
  obtain ⟨q2, m2, rfl⟩ := SlAt.form gA2
  obtain ⟨q3, m3, rfl⟩ := SlAt.form gP1
  obtain ⟨q4, m4, rfl⟩ := SlAt.form gP2
  obtain ⟨q5, m5, rfl⟩ := StmAt.form gT1
  obtain ⟨q6, m6, rfl⟩ := StmAt.form gT2
  obtain ⟨q7, m7, rfl⟩ := StmAt.form gE1
  obtain ⟨q8, m8, rfl⟩ := StmAt.form gE2
  have b0 : (op1 == op2) = true := by simpa using e0
  have b1 : (x1.toList == x2.toList) = true := by rw [beq_list]; exact decide_eq_true e1
  have b2 : (y1.toList == y2.toList) = true := by rw [beq_list]; exact decide_eq_true e2
  have b3 : (p1.toList == p2.toList) = true := by rw [beq_list]; exact decide_eq_true e3
  have d4 : decide (a1 = a2) = true := decide_eq_true e4
  have d5 : decide (pr1 = pr2) = true := decide_eq_true e5
  have d6 : decide (th1 = th2) = false := decide_eq_false n6
  clear e0 e1 e2 e3 e4 e5 n6
  have HZ0 := hid hz0
  clear hz0
  go_enter Tryz.func61, Tryz.ntmps61
  go_wp2_with fail
  refine (opsEqB _ _ _ _ _ _ (SlAt.bel gA1 hw0) (SlAt.bel gA2 hw0) d4).mono ?_
  rintro e w4 ⟨rfl, hb4⟩
  have hB4 := hb4
  rw [HZ0.out] at hB4
  have hw4 : Below w.heap.size w w4 := hw0.trans (hB4.mono (by omega))
  obtain ⟨tw1, tw2⟩ := two8 hB4
  obtain ⟨k0, k1, k2, k3, k4, k5, k6, k7, kf, kz⟩ := cells8 tw1
  obtain ⟨l0, l1, l2, l3, l4, l5, l6, l7, lf, lz⟩ := cells8 tw2
  go_wp2_with fail
  refine (strsEqB _ _ _ _ _ _ (SlAt.bel gP1 hw4) (SlAt.bel gP2 hw4) d5).mono ?_
  rintro e w5 ⟨rfl, hb5⟩
  have hB5 := hB4.trans (hb5.mono (by have := hB4.size; rw [HZ0.out] at this; exact this))
  have hw5 : Below w.heap.size w w5 := hw0.trans (hB5.mono (by omega))
  obtain ⟨tw1, tw2⟩ := two8 hB5
  obtain ⟨k0, k1, k2, k3, k4, k5, k6, k7, kf, kz⟩ := cells8 tw1
  obtain ⟨l0, l1, l2, l3, l4, l5, l6, l7, lf, lz⟩ := cells8 tw2
  go_wp2_with fail
  refine (sameB hB _ _ _ _ _ _ hk1 (gT1.bel hw5) (gT2.bel hw5) d6).mono ?_
  rintro e w6 ⟨rfl, hb6⟩
  have hB6 := hB5.trans (hb6.mono (by have := hB5.size; rw [HZ0.out] at this; exact this))
  have hw6 : Below w.heap.size w w6 := hw0.trans (hB6.mono (by omega))
  go_wp2_with fail
  go_ret
  exact ⟨ret_bool HD.out.symm, hw6⟩

set_option maxRecDepth 8000 in
set_option maxHeartbeats 800000 in
theorem sameStmt_7 (k : Nat) (hB : SameC k) (w : World) (op1 op2 : Int) (x1 x2 y1 y2 p1 p2 : ByteArray) (a1 a2 : List M.Opd) (pr1 pr2 : List ByteArray) (th1 th2 el1 el2 : M.Tr) (va1 va2 vp1 vp2 vt1 vt2 ve1 ve2 : Value)
    (hk1 : th1.sz ≤ k) (hk2 : el1.sz ≤ k) (gA1 : OpsAt w NoX va1 a1) (gA2 : OpsAt w NoX va2 a2) (gP1 : StrsAt w NoX vp1 pr1) (gP2 : StrsAt w NoX vp2 pr2) (gT1 : StmAt w NoX vt1 th1) (gT2 : StmAt w NoX vt2 th2) (gE1 : StmAt w NoX ve1 el1) (gE2 : StmAt w NoX ve2 el2) (e0 : op1 = op2) (e1 : x1 = x2) (e2 : y1 = y2) (e3 : p1 = p2) (e4 : a1 = a2) (e5 : pr1 = pr2) (e6 : th1 = th2) (n7 : ¬ el1 = el2) :
    Calls Tryz.prog 61 #[.agg #[.int .i64 op1, .string x1, .string y1, .string p1, va1, vp1, vt1, ve1], .agg #[.int .i64 op2, .string x2, .string y2, .string p2, va2, vp2, vt2, ve2]] w fun e w' => e = .returned (.bool (decide (op1 = op2 ∧ x1 = x2 ∧ y1 = y2 ∧ p1 = p2 ∧ a1 = a2 ∧ pr1 = pr2 ∧ th1 = th2 ∧ el1 = el2))) ∧ Below w.heap.size w w' := by
  have HD : Hid (decide (op1 = op2 ∧ x1 = x2 ∧ y1 = y2 ∧ p1 = p2 ∧ a1 = a2 ∧ pr1 = pr2 ∧ th1 = th2 ∧ el1 = el2) = false) := decide_eq_false (fun h => n7 h.2.2.2.2.2.2.2)
  have hw0 : Below w.heap.size w ((w.alloc (.cells #[.int .i64 op1, .string x1, .string y1, .string p1, va1, vp1, vt1, ve1] 59)).alloc (.cells #[.int .i64 op2, .string x2, .string y2, .string p2, va2, vp2, vt2, ve2] 59)) := ((Below.refl _ _).alloc (Nat.le_refl _) _).alloc (by simp) _
  have hz0 : ((w.alloc (.cells #[.int .i64 op1, .string x1, .string y1, .string p1, va1, vp1, vt1, ve1] 59)).alloc (.cells #[.int .i64 op2, .string x2, .string y2, .string p2, va2, vp2, vt2, ve2] 59)).heap.size = w.heap.size + 2 := by simp only [World.size_alloc]
  obtain ⟨q1, m1, rfl⟩ := SlAt.form gA1
  obtain ⟨q2, m2, rfl⟩ := SlAt.form gA2
  obtain ⟨q3, m3, rfl⟩ := SlAt.form gP1
  obtain ⟨q4, m4, rfl⟩ := SlAt.form gP2
  obtain ⟨q5, m5, rfl⟩ := StmAt.form gT1
  obtain ⟨q6, m6, rfl⟩ := StmAt.form gT2
  obtain ⟨q7, m7, rfl⟩ := StmAt.form gE1
  obtain ⟨q8, m8, rfl⟩ := StmAt.form gE2
  have b0 : (op1 == op2) = true := by simpa using e0
  have b1 : (x1.toList == x2.toList) = true := by rw [beq_list]; exact decide_eq_true e1
  have b2 : (y1.toList == y2.toList) = true := by rw [beq_list]; exact decide_eq_true e2
  have b3 : (p1.toList == p2.toList) = true := by rw [beq_list]; exact decide_eq_true e3
  have d4 : decide (a1 = a2) = true := decide_eq_true e4
  have d5 : decide (pr1 = pr2) = true := decide_eq_true e5
  have d6 : decide (th1 = th2) = true := decide_eq_true e6
  have d7 : decide (el1 = el2) = false := decide_eq_false n7
  clear e0 e1 e2 e3 e4 e5 e6 n7
  have HZ0 := hid hz0
  clear hz0
  go_enter Tryz.func61, Tryz.ntmps61
  go_wp2_with fail
  refine (opsEqB _ _ _ _ _ _ (SlAt.bel gA1 hw0) (SlAt.bel gA2 hw0) d4).mono ?_
  rintro e w4 ⟨rfl, hb4⟩
  have hB4 := hb4
  rw [HZ0.out] at hB4
  have hw4 : Below w.heap.size w w4 := hw0.trans (hB4.mono (by omega))
  obtain ⟨tw1, tw2⟩ := two8 hB4
  obtain ⟨k0, k1, k2, k3, k4, k5, k6, k7, kf, kz⟩ := cells8 tw1
  obtain ⟨l0, l1, l2, l3, l4, l5, l6, l7, lf, lz⟩ := cells8 tw2
  go_wp2_with fail
  refine (strsEqB _ _ _ _ _ _ (SlAt.bel gP1 hw4) (SlAt.bel gP2 hw4) d5).mono ?_
  rintro e w5 ⟨rfl, hb5⟩
  have hB5 := hB4.trans (hb5.mono (by have := hB4.size; rw [HZ0.out] at this; exact this))
  have hw5 : Below w.heap.size w w5 := hw0.trans (hB5.mono (by omega))
  obtain ⟨tw1, tw2⟩ := two8 hB5
  obtain ⟨k0, k1, k2, k3, k4, k5, k6, k7, kf, kz⟩ := cells8 tw1
  obtain ⟨l0, l1, l2, l3, l4, l5, l6, l7, lf, lz⟩ := cells8 tw2
  go_wp2_with fail
  refine (sameB hB _ _ _ _ _ _ hk1 (gT1.bel hw5) (gT2.bel hw5) d6).mono ?_
  rintro e w6 ⟨rfl, hb6⟩
  have hB6 := hB5.trans (hb6.mono (by have := hB5.size; rw [HZ0.out] at this; exact this))
  have hw6 : Below w.heap.size w w6 := hw0.trans (hB6.mono (by omega))
  obtain ⟨tw1, tw2⟩ := two8 hB6
  obtain ⟨k0, k1, k2, k3, k4, k5, k6, k7, kf, kz⟩ := cells8 tw1
  obtain ⟨l0, l1, l2, l3, l4, l5, l6, l7, lf, lz⟩ := cells8 tw2
  go_wp2_with fail
  refine (sameB hB _ _ _ _ _ _ hk2 (gE1.bel hw6) (gE2.bel hw6) d7).mono ?_
  rintro e w7 ⟨rfl, hb7⟩
  have hB7 := hB6.trans (hb7.mono (by have := hB6.size; rw [HZ0.out] at this; exact this))
  have hw7 : Below w.heap.size w w7 := hw0.trans (hB7.mono (by omega))
  go_wp2_with fail
  go_ret
  exact ⟨ret_bool HD.out.symm, hw7⟩

set_option maxRecDepth 8000 in
set_option maxHeartbeats 800000 in
theorem sameStmt_8 (k : Nat) (hB : SameC k) (w : World) (op1 op2 : Int) (x1 x2 y1 y2 p1 p2 : ByteArray) (a1 a2 : List M.Opd) (pr1 pr2 : List ByteArray) (th1 th2 el1 el2 : M.Tr) (va1 va2 vp1 vp2 vt1 vt2 ve1 ve2 : Value)
    (hk1 : th1.sz ≤ k) (hk2 : el1.sz ≤ k) (gA1 : OpsAt w NoX va1 a1) (gA2 : OpsAt w NoX va2 a2) (gP1 : StrsAt w NoX vp1 pr1) (gP2 : StrsAt w NoX vp2 pr2) (gT1 : StmAt w NoX vt1 th1) (gT2 : StmAt w NoX vt2 th2) (gE1 : StmAt w NoX ve1 el1) (gE2 : StmAt w NoX ve2 el2) (e0 : op1 = op2) (e1 : x1 = x2) (e2 : y1 = y2) (e3 : p1 = p2) (e4 : a1 = a2) (e5 : pr1 = pr2) (e6 : th1 = th2) (e7 : el1 = el2) :
    Calls Tryz.prog 61 #[.agg #[.int .i64 op1, .string x1, .string y1, .string p1, va1, vp1, vt1, ve1], .agg #[.int .i64 op2, .string x2, .string y2, .string p2, va2, vp2, vt2, ve2]] w fun e w' => e = .returned (.bool (decide (op1 = op2 ∧ x1 = x2 ∧ y1 = y2 ∧ p1 = p2 ∧ a1 = a2 ∧ pr1 = pr2 ∧ th1 = th2 ∧ el1 = el2))) ∧ Below w.heap.size w w' := by
  have HD : Hid (decide (op1 = op2 ∧ x1 = x2 ∧ y1 = y2 ∧ p1 = p2 ∧ a1 = a2 ∧ pr1 = pr2 ∧ th1 = th2 ∧ el1 = el2) = true) := decide_eq_true ⟨e0, e1, e2, e3, e4, e5, e6, e7⟩
  have hw0 : Below w.heap.size w ((w.alloc (.cells #[.int .i64 op1, .string x1, .string y1, .string p1, va1, vp1, vt1, ve1] 59)).alloc (.cells #[.int .i64 op2, .string x2, .string y2, .string p2, va2, vp2, vt2, ve2] 59)) := ((Below.refl _ _).alloc (Nat.le_refl _) _).alloc (by simp) _
  have hz0 : ((w.alloc (.cells #[.int .i64 op1, .string x1, .string y1, .string p1, va1, vp1, vt1, ve1] 59)).alloc (.cells #[.int .i64 op2, .string x2, .string y2, .string p2, va2, vp2, vt2, ve2] 59)).heap.size = w.heap.size + 2 := by simp only [World.size_alloc]
  obtain ⟨q1, m1, rfl⟩ := SlAt.form gA1
  obtain ⟨q2, m2, rfl⟩ := SlAt.form gA2
  obtain ⟨q3, m3, rfl⟩ := SlAt.form gP1
  obtain ⟨q4, m4, rfl⟩ := SlAt.form gP2
  obtain ⟨q5, m5, rfl⟩ := StmAt.form gT1
  obtain ⟨q6, m6, rfl⟩ := StmAt.form gT2
  obtain ⟨q7, m7, rfl⟩ := StmAt.form gE1
  obtain ⟨q8, m8, rfl⟩ := StmAt.form gE2
  have b0 : (op1 == op2) = true := by simpa using e0
  have b1 : (x1.toList == x2.toList) = true := by rw [beq_list]; exact decide_eq_true e1
  have b2 : (y1.toList == y2.toList) = true := by rw [beq_list]; exact decide_eq_true e2
  have b3 : (p1.toList == p2.toList) = true := by rw [beq_list]; exact decide_eq_true e3
  have d4 : decide (a1 = a2) = true := decide_eq_true e4
  have d5 : decide (pr1 = pr2) = true := decide_eq_true e5
  have d6 : decide (th1 = th2) = true := decide_eq_true e6
  have d7 : decide (el1 = el2) = true := decide_eq_true e7
  clear e0 e1 e2 e3 e4 e5 e6 e7
  have HZ0 := hid hz0
  clear hz0
  go_enter Tryz.func61, Tryz.ntmps61
  go_wp2_with fail
  refine (opsEqB _ _ _ _ _ _ (SlAt.bel gA1 hw0) (SlAt.bel gA2 hw0) d4).mono ?_
  rintro e w4 ⟨rfl, hb4⟩
  have hB4 := hb4
  rw [HZ0.out] at hB4
  have hw4 : Below w.heap.size w w4 := hw0.trans (hB4.mono (by omega))
  obtain ⟨tw1, tw2⟩ := two8 hB4
  obtain ⟨k0, k1, k2, k3, k4, k5, k6, k7, kf, kz⟩ := cells8 tw1
  obtain ⟨l0, l1, l2, l3, l4, l5, l6, l7, lf, lz⟩ := cells8 tw2
  go_wp2_with fail
  refine (strsEqB _ _ _ _ _ _ (SlAt.bel gP1 hw4) (SlAt.bel gP2 hw4) d5).mono ?_
  rintro e w5 ⟨rfl, hb5⟩
  have hB5 := hB4.trans (hb5.mono (by have := hB4.size; rw [HZ0.out] at this; exact this))
  have hw5 : Below w.heap.size w w5 := hw0.trans (hB5.mono (by omega))
  obtain ⟨tw1, tw2⟩ := two8 hB5
  obtain ⟨k0, k1, k2, k3, k4, k5, k6, k7, kf, kz⟩ := cells8 tw1
  obtain ⟨l0, l1, l2, l3, l4, l5, l6, l7, lf, lz⟩ := cells8 tw2
  go_wp2_with fail
  refine (sameB hB _ _ _ _ _ _ hk1 (gT1.bel hw5) (gT2.bel hw5) d6).mono ?_
  rintro e w6 ⟨rfl, hb6⟩
  have hB6 := hB5.trans (hb6.mono (by have := hB5.size; rw [HZ0.out] at this; exact this))
  have hw6 : Below w.heap.size w w6 := hw0.trans (hB6.mono (by omega))
  obtain ⟨tw1, tw2⟩ := two8 hB6
  obtain ⟨k0, k1, k2, k3, k4, k5, k6, k7, kf, kz⟩ := cells8 tw1
  obtain ⟨l0, l1, l2, l3, l4, l5, l6, l7, lf, lz⟩ := cells8 tw2
  go_wp2_with fail
  refine (sameB hB _ _ _ _ _ _ hk2 (gE1.bel hw6) (gE2.bel hw6) d7).mono ?_
  rintro e w7 ⟨rfl, hb7⟩
  have hB7 := hB6.trans (hb7.mono (by have := hB6.size; rw [HZ0.out] at this; exact this))
  have hw7 : Below w.heap.size w w7 := hw0.trans (hB7.mono (by omega))
  go_wp2_with fail
  go_ret
  exact ⟨ret_bool HD.out.symm, hw7⟩

theorem sameStmt_any (k : Nat) (hB : SameC k) (w : World) (op1 op2 : Int) (x1 x2 y1 y2 p1 p2 : ByteArray) (a1 a2 : List M.Opd) (pr1 pr2 : List ByteArray) (th1 th2 el1 el2 : M.Tr) (va1 va2 vp1 vp2 vt1 vt2 ve1 ve2 : Value)
    (hk1 : th1.sz ≤ k) (hk2 : el1.sz ≤ k) (gA1 : OpsAt w NoX va1 a1) (gA2 : OpsAt w NoX va2 a2) (gP1 : StrsAt w NoX vp1 pr1) (gP2 : StrsAt w NoX vp2 pr2) (gT1 : StmAt w NoX vt1 th1) (gT2 : StmAt w NoX vt2 th2) (gE1 : StmAt w NoX ve1 el1) (gE2 : StmAt w NoX ve2 el2) :
    Calls Tryz.prog 61 #[.agg #[.int .i64 op1, .string x1, .string y1, .string p1, va1, vp1, vt1, ve1], .agg #[.int .i64 op2, .string x2, .string y2, .string p2, va2, vp2, vt2, ve2]] w fun e w' => e = .returned (.bool (decide (op1 = op2 ∧ x1 = x2 ∧ y1 = y2 ∧ p1 = p2 ∧ a1 = a2 ∧ pr1 = pr2 ∧ th1 = th2 ∧ el1 = el2))) ∧ Below w.heap.size w w' := by
  by_cases e0 : op1 = op2
  case neg => exact sameStmt_0 k hB w op1 op2 x1 x2 y1 y2 p1 p2 a1 a2 pr1 pr2 th1 th2 el1 el2 va1 va2 vp1 vp2 vt1 vt2 ve1 ve2 hk1 hk2 gA1 gA2 gP1 gP2 gT1 gT2 gE1 gE2  e0
  by_cases e1 : x1 = x2
  case neg => exact sameStmt_1 k hB w op1 op2 x1 x2 y1 y2 p1 p2 a1 a2 pr1 pr2 th1 th2 el1 el2 va1 va2 vp1 vp2 vt1 vt2 ve1 ve2 hk1 hk2 gA1 gA2 gP1 gP2 gT1 gT2 gE1 gE2 e0 e1
  by_cases e2 : y1 = y2
  case neg => exact sameStmt_2 k hB w op1 op2 x1 x2 y1 y2 p1 p2 a1 a2 pr1 pr2 th1 th2 el1 el2 va1 va2 vp1 vp2 vt1 vt2 ve1 ve2 hk1 hk2 gA1 gA2 gP1 gP2 gT1 gT2 gE1 gE2 e0 e1 e2
  by_cases e3 : p1 = p2
  case neg => exact sameStmt_3 k hB w op1 op2 x1 x2 y1 y2 p1 p2 a1 a2 pr1 pr2 th1 th2 el1 el2 va1 va2 vp1 vp2 vt1 vt2 ve1 ve2 hk1 hk2 gA1 gA2 gP1 gP2 gT1 gT2 gE1 gE2 e0 e1 e2 e3
  by_cases e4 : a1 = a2
  case neg => exact sameStmt_4 k hB w op1 op2 x1 x2 y1 y2 p1 p2 a1 a2 pr1 pr2 th1 th2 el1 el2 va1 va2 vp1 vp2 vt1 vt2 ve1 ve2 hk1 hk2 gA1 gA2 gP1 gP2 gT1 gT2 gE1 gE2 e0 e1 e2 e3 e4
  by_cases e5 : pr1 = pr2
  case neg => exact sameStmt_5 k hB w op1 op2 x1 x2 y1 y2 p1 p2 a1 a2 pr1 pr2 th1 th2 el1 el2 va1 va2 vp1 vp2 vt1 vt2 ve1 ve2 hk1 hk2 gA1 gA2 gP1 gP2 gT1 gT2 gE1 gE2 e0 e1 e2 e3 e4 e5
  by_cases e6 : th1 = th2
  case neg => exact sameStmt_6 k hB w op1 op2 x1 x2 y1 y2 p1 p2 a1 a2 pr1 pr2 th1 th2 el1 el2 va1 va2 vp1 vp2 vt1 vt2 ve1 ve2 hk1 hk2 gA1 gA2 gP1 gP2 gT1 gT2 gE1 gE2 e0 e1 e2 e3 e4 e5 e6
  by_cases e7 : el1 = el2
  case neg => exact sameStmt_7 k hB w op1 op2 x1 x2 y1 y2 p1 p2 a1 a2 pr1 pr2 th1 th2 el1 el2 va1 va2 vp1 vp2 vt1 vt2 ve1 ve2 hk1 hk2 gA1 gA2 gP1 gP2 gT1 gT2 gE1 gE2 e0 e1 e2 e3 e4 e5 e6 e7
  exact sameStmt_8 k hB w op1 op2 x1 x2 y1 y2 p1 p2 a1 a2 pr1 pr2 th1 th2 el1 el2 va1 va2 vp1 vp2 vt1 vt2 ve1 ve2 hk1 hk2 gA1 gA2 gP1 gP2 gT1 gT2 gE1 gE2 e0 e1 e2 e3 e4 e5 e6 e7
end Go.Proofs.YtkonkdhoakcmdaaGreatDoor
