/-
  The walks of a layer's value, of its statements without blocks, of a branch and of a block. No conditions but that operands' numbers are some.
-/
import Derived.Test.YtkpmpnebmkeocaaGreatDoorY7
set_option linter.unusedVariables false
set_option linter.unusedSimpArgs false
namespace Go.Proofs.YtkpmpnebmkeocaaGreatDoor
open Go.RowKit

def Box1 (k1 : Nat) (o1 : Obj) (A : World → Prop) (X : Nat → Prop) (w : World) : Prop := (w.heap[k1]? = some o1 ∧ ¬ X k1) ∧ A w
theorem Box1.stays {B k1 : Nat} {o1 : Obj} {A : World → Prop} (hA : ∀ w w', A w → Keep (Hi B) w w' → A w') : Stays B (Box1 k1 o1 A) := by
  rintro X X' w w' ⟨⟨h1, n1⟩, ha⟩ ht hx hB
  have l1 := (Array.getElem?_eq_some_iff.1 h1).1
  exact ⟨⟨(ht.block k1 l1 n1).trans h1, fun h => by rcases hx k1 h with h | h; exact n1 h; omega⟩, hA w w' ha (ht.keepHi hB)⟩
theorem box1_new {B : Nat} {w : World} {X : Nat → Prop} {L : Nat} {s : Option (List UInt8)} (h : Lay B w X L s) (o1 : Obj) (A : World → Prop) (hA : A (w.alloc o1)) :
    Box1 w.heap.size o1 A X (w.alloc o1) ∧ Lay B (w.alloc o1) X L s ∧ Below w.heap.size w (w.alloc o1) ∧ (w.alloc o1).heap.size = w.heap.size + 1 := by
  have hb : Below w.heap.size w (w.alloc o1) := (Below.refl _ w).alloc (Nat.le_refl _) _
  exact ⟨⟨⟨heap_alloc_new w o1, fun hx => Nat.lt_irrefl _ (h.far _ hx).2⟩, hA⟩, h.keep hb, hb, by simp⟩
def StO (op : Int) (x y p : ByteArray) (va vp vt ve : Value) : Obj := .cells #[.int .i64 op, .string x, .string y, .string p, va, vp, vt, ve] 32 (0, 0)
def StA (B : Nat) (va vp vt ve : Value) (a : List M.Opd) (pr : List ByteArray) (th el : M.Tr) (w : World) : Prop := OpsAt w (Hi B) va a ∧ StrsAt w (Hi B) vp pr ∧ StmAt w (Hi B) vt th ∧ StmAt w (Hi B) ve el
theorem StA.keep {B : Nat} {va vp vt ve : Value} {a : List M.Opd} {pr : List ByteArray} {th el : M.Tr} (w w' : World) (h : StA B va vp vt ve a pr th el w) (k : Keep (Hi B) w w') : StA B va vp vt ve a pr th el w' := ⟨SlAt.keep h.1 k, SlAt.keep h.2.1 k, h.2.2.1.keep k, h.2.2.2.keep k⟩
def laidSt (op : Int) (x y p : ByteArray) (a : List M.Opd) (pr : List ByteArray) (th el : M.Tr) : List ByteArray := M.laidTr (M.one op x y p a pr th el)
theorem laidTr_cons (op : Int) (x y p : ByteArray) (a : List M.Opd) (pr : List ByteArray) (th el nx : M.Tr) : M.laidTr (.cons op x y p a pr th el nx) = laidSt op x y p a pr th el ++ M.laidTr nx := by
  unfold laidSt M.one
  rw [M.laidTr, M.laidTr, M.laidTr, List.append_nil]

set_option maxRecDepth 8000 in
set_option maxHeartbeats 4000000 in
theorem lvalue_any (B : Nat) (w : World) (X : Nat → Prop) (L : Nat) (s : Option (List UInt8)) (op : Int) (x y p : ByteArray) (va vp vt ve : Value) (a : List M.Opd) (pr : List ByteArray) (th el : M.Tr) (h : Lay B w X L s) (hA : StA B va vp vt ve a pr th el w) (hr : ∀ o ∈ a, InI o.n) :
    Calls Tryz.prog 44 #[.pointer (some ⟨L, 0, none⟩), .agg #[.int .i64 op, .string x, .string y, .string p, va, vp, vt, ve]] w (LayE B X L w (M.putsM s (M.laidVal op y p a pr))) := by
  obtain ⟨a1, c1, rfl⟩ := SlAt.form hA.1
  obtain ⟨a2, c2, rfl⟩ := SlAt.form hA.2.1
  obtain ⟨a3, c3, rfl⟩ := StmAt.form hA.2.2.1
  obtain ⟨a4, c4, rfl⟩ := StmAt.form hA.2.2.2
  by_cases k0 : op = 0
  · subst k0
    have hbw : Below w.heap.size w (w.alloc (StO (0) x y p (.slice a1 a.length c1) (.slice a2 pr.length c2) (.slice a3 th.len c3) (.slice a4 el.len c4))) := (Below.refl _ w).alloc (Nat.le_refl _) _
    obtain ⟨b0, l0, hb0, hz0⟩ := box1_new h (StO (0) x y p (.slice a1 a.length c1) (.slice a2 pr.length c2) (.slice a3 th.len c3) (.slice a4 el.len c4)) _ (StA.keep _ _ hA (Below.keepX hbw))
    have HZ := hid hz0
    have HS : Hid (Stays B (Box1 w.heap.size (StO (0) x y p (.slice a1 a.length c1) (.slice a2 pr.length c2) (.slice a3 th.len c3) (.slice a4 el.len c4)) (StA B (.slice a1 a.length c1) (.slice a2 pr.length c2) (.slice a3 th.len c3) (.slice a4 el.len c4) a pr th el))) := Box1.stays StA.keep
    clear hz0
    simp only [StO] at l0 b0 hb0 HZ
    have HQ : Hid (M.laidVal 0 y p a pr = M.laidAt a 0) := rfl
    go_enter Tryz.func44, Tryz.ntmps44
    go_wp2_with (go_at_call 42; refine stopHere ?_)
    refine stopAt ?_
    refine (loperand_any B _ X L _ _ a 0 l0 b0.2.1 hr (by omega)).mono ?_
    rintro e w1 ⟨rfl, X1, l1, t1, x1⟩
    have b1 := HS.out X X1 _ w1 b0 t1 x1 (fun k hk => (l0.far k hk).1)
    go_wp2_with fail
    go_end0
    exact ⟨rfl, by rw [HQ.out]; exact LayR.new hbw ⟨X1, l1, t1, x1⟩⟩
  by_cases k1 : op = 1
  · subst k1
    have hbw : Below w.heap.size w (w.alloc (StO (1) x y p (.slice a1 a.length c1) (.slice a2 pr.length c2) (.slice a3 th.len c3) (.slice a4 el.len c4))) := (Below.refl _ w).alloc (Nat.le_refl _) _
    obtain ⟨b0, l0, hb0, hz0⟩ := box1_new h (StO (1) x y p (.slice a1 a.length c1) (.slice a2 pr.length c2) (.slice a3 th.len c3) (.slice a4 el.len c4)) _ (StA.keep _ _ hA (Below.keepX hbw))
    have HZ := hid hz0
    have HS : Hid (Stays B (Box1 w.heap.size (StO (1) x y p (.slice a1 a.length c1) (.slice a2 pr.length c2) (.slice a3 th.len c3) (.slice a4 el.len c4)) (StA B (.slice a1 a.length c1) (.slice a2 pr.length c2) (.slice a3 th.len c3) (.slice a4 el.len c4) a pr th el))) := Box1.stays StA.keep
    clear hz0
    simp only [StO] at l0 b0 hb0 HZ
    have HQ : Hid (M.laidVal 1 y p a pr = M.laidAt a 0 ++ ([p] ++ M.laidAt a 1)) := rfl
    go_enter Tryz.func44, Tryz.ntmps44
    go_wp2_with (go_at_call 42; refine stopHere ?_)
    refine stopAt ?_
    refine (loperand_any B _ X L _ _ a 0 l0 b0.2.1 hr (by omega)).mono ?_
    rintro e w1 ⟨rfl, X1, l1, t1, x1⟩
    have b1 := HS.out X X1 _ w1 b0 t1 x1 (fun k hk => (l0.far k hk).1)
    obtain ⟨m0, m1, m2, m3, m4, m5, m6, m7, mf, mz⟩ := cells8 b1.1.1
    go_wp2_with (go_at_call 43; refine stopHere ?_)
    refine stopAt ?_
    refine (put_new B w1 X1 L _ [p] l1 (by simp)).mono ?_
    rintro e w2 ⟨rfl, X2, l2, t2, x2⟩
    have b2 := HS.out X1 X2 w1 w2 b1 t2 x2 (fun k hk => (l1.far k hk).1)
    clear m0 m1 m2 m3 m4 m5 m6 m7 mf mz
    obtain ⟨m0, m1, m2, m3, m4, m5, m6, m7, mf, mz⟩ := cells8 b2.1.1
    go_wp2_with (go_at_call 42; refine stopHere ?_)
    refine stopAt ?_
    refine (loperand_any B w2 X2 L _ _ a 1 l2 b2.2.1 hr (by omega)).mono ?_
    rintro e w3 ⟨rfl, X3, l3, t3, x3⟩
    have b3 := HS.out X2 X3 w2 w3 b2 t3 x3 (fun k hk => (l2.far k hk).1)
    clear m0 m1 m2 m3 m4 m5 m6 m7 mf mz
    go_wp2_with fail
    go_end0
    exact ⟨rfl, by rw [HQ.out, M.putsM_app, M.putsM_app]; exact LayR.new hbw (LayR.next t1 x1 (LayR.next t2 x2 ⟨X3, l3, t3, x3⟩))⟩
  by_cases k2 : op = 2
  · subst k2
    have hbw : Below w.heap.size w (w.alloc (StO (2) x y p (.slice a1 a.length c1) (.slice a2 pr.length c2) (.slice a3 th.len c3) (.slice a4 el.len c4))) := (Below.refl _ w).alloc (Nat.le_refl _) _
    obtain ⟨b0, l0, hb0, hz0⟩ := box1_new h (StO (2) x y p (.slice a1 a.length c1) (.slice a2 pr.length c2) (.slice a3 th.len c3) (.slice a4 el.len c4)) _ (StA.keep _ _ hA (Below.keepX hbw))
    have HZ := hid hz0
    have HS : Hid (Stays B (Box1 w.heap.size (StO (2) x y p (.slice a1 a.length c1) (.slice a2 pr.length c2) (.slice a3 th.len c3) (.slice a4 el.len c4)) (StA B (.slice a1 a.length c1) (.slice a2 pr.length c2) (.slice a3 th.len c3) (.slice a4 el.len c4) a pr th el))) := Box1.stays StA.keep
    clear hz0
    simp only [StO] at l0 b0 hb0 HZ
    have HQ : Hid (M.laidVal 2 y p a pr = [y, M.ch 46, p]) := rfl
    go_enter Tryz.func44, Tryz.ntmps44
    go_wp2_with (go_at_call 43; refine stopHere ?_)
    refine stopAt ?_
    refine (put_newAt B _ X L _ [y, M.ch 46, p] (w.heap.size + 1) HZ.out l0 (by simp)).mono ?_
    rintro e w1 ⟨rfl, X1, l1, t1, x1⟩
    have b1 := HS.out X X1 _ w1 b0 t1 x1 (fun k hk => (l0.far k hk).1)
    go_wp2_with fail
    go_end0
    exact ⟨rfl, by rw [HQ.out]; exact LayR.new hbw ⟨X1, l1, t1, x1⟩⟩
  by_cases k7 : op = 7
  · subst k7
    have hbw : Below w.heap.size w (w.alloc (StO (7) x y p (.slice a1 a.length c1) (.slice a2 pr.length c2) (.slice a3 th.len c3) (.slice a4 el.len c4))) := (Below.refl _ w).alloc (Nat.le_refl _) _
    obtain ⟨b0, l0, hb0, hz0⟩ := box1_new h (StO (7) x y p (.slice a1 a.length c1) (.slice a2 pr.length c2) (.slice a3 th.len c3) (.slice a4 el.len c4)) _ (StA.keep _ _ hA (Below.keepX hbw))
    have HZ := hid hz0
    have HS : Hid (Stays B (Box1 w.heap.size (StO (7) x y p (.slice a1 a.length c1) (.slice a2 pr.length c2) (.slice a3 th.len c3) (.slice a4 el.len c4)) (StA B (.slice a1 a.length c1) (.slice a2 pr.length c2) (.slice a3 th.len c3) (.slice a4 el.len c4) a pr th el))) := Box1.stays StA.keep
    clear hz0
    simp only [StO] at l0 b0 hb0 HZ
    have HQ : Hid (M.laidVal 7 y p a pr = [M.kIn]) := rfl
    go_enter Tryz.func44, Tryz.ntmps44
    go_wp2_with (go_at_call 41; refine stopHere ?_)
    refine stopAt ?_
    refine (lword_any B _ X L _ 7 M.kIn l0 (by simp [wordT])).mono ?_
    rintro e w1 ⟨rfl, X1, l1, t1, x1⟩
    have b1 := HS.out X X1 _ w1 b0 t1 x1 (fun k hk => (l0.far k hk).1)
    go_wp2_with fail
    go_end0
    exact ⟨rfl, by rw [HQ.out]; exact LayR.new hbw ⟨X1, l1, t1, x1⟩⟩
  by_cases k4 : op = 4
  · subst k4
    have hbw : Below w.heap.size w (w.alloc (StO (4) x y p (.slice a1 a.length c1) (.slice a2 pr.length c2) (.slice a3 th.len c3) (.slice a4 el.len c4))) := (Below.refl _ w).alloc (Nat.le_refl _) _
    obtain ⟨b0, l0, hb0, hz0⟩ := box1_new h (StO (4) x y p (.slice a1 a.length c1) (.slice a2 pr.length c2) (.slice a3 th.len c3) (.slice a4 el.len c4)) _ (StA.keep _ _ hA (Below.keepX hbw))
    have HZ := hid hz0
    have HS : Hid (Stays B (Box1 w.heap.size (StO (4) x y p (.slice a1 a.length c1) (.slice a2 pr.length c2) (.slice a3 th.len c3) (.slice a4 el.len c4)) (StA B (.slice a1 a.length c1) (.slice a2 pr.length c2) (.slice a3 th.len c3) (.slice a4 el.len c4) a pr th el))) := Box1.stays StA.keep
    clear hz0
    simp only [StO] at l0 b0 hb0 HZ
    have HQ : Hid (M.laidVal 4 y p a pr = [M.kNew] ++ M.laidNew pr a) := rfl
    go_enter Tryz.func44, Tryz.ntmps44
    go_wp2_with (go_at_call 41; refine stopHere ?_)
    refine stopAt ?_
    refine (lword_any B _ X L _ 4 M.kNew l0 (by simp [wordT])).mono ?_
    rintro e w1 ⟨rfl, X1, l1, t1, x1⟩
    have b1 := HS.out X X1 _ w1 b0 t1 x1 (fun k hk => (l0.far k hk).1)
    obtain ⟨m0, m1, m2, m3, m4, m5, m6, m7, mf, mz⟩ := cells8 b1.1.1
    go_wp2_with (go_at_call 66; refine stopHere ?_)
    refine stopAt ?_
    refine (lobject_any B w1 X1 L _ 4 x y p _ _ _ _ a pr l1 b1.2.1 b1.2.2.1 hr).mono ?_
    rintro e w2 ⟨rfl, X2, l2, t2, x2⟩
    have b2 := HS.out X1 X2 w1 w2 b1 t2 x2 (fun k hk => (l1.far k hk).1)
    clear m0 m1 m2 m3 m4 m5 m6 m7 mf mz
    go_wp2_with fail
    go_end0
    exact ⟨rfl, by rw [HQ.out, M.putsM_app]; exact LayR.new hbw (LayR.next t1 x1 ⟨X2, l2, t2, x2⟩)⟩
  by_cases k5 : op = 5
  · subst k5
    have hbw : Below w.heap.size w (w.alloc (StO (5) x y p (.slice a1 a.length c1) (.slice a2 pr.length c2) (.slice a3 th.len c3) (.slice a4 el.len c4))) := (Below.refl _ w).alloc (Nat.le_refl _) _
    obtain ⟨b0, l0, hb0, hz0⟩ := box1_new h (StO (5) x y p (.slice a1 a.length c1) (.slice a2 pr.length c2) (.slice a3 th.len c3) (.slice a4 el.len c4)) _ (StA.keep _ _ hA (Below.keepX hbw))
    have HZ := hid hz0
    have HS : Hid (Stays B (Box1 w.heap.size (StO (5) x y p (.slice a1 a.length c1) (.slice a2 pr.length c2) (.slice a3 th.len c3) (.slice a4 el.len c4)) (StA B (.slice a1 a.length c1) (.slice a2 pr.length c2) (.slice a3 th.len c3) (.slice a4 el.len c4) a pr th el))) := Box1.stays StA.keep
    clear hz0
    simp only [StO] at l0 b0 hb0 HZ
    have HQ : Hid (M.laidVal 5 y p a pr = [M.kCall] ++ ([p] ++ M.laidOps a)) := rfl
    go_enter Tryz.func44, Tryz.ntmps44
    go_wp2_with (go_at_call 41; refine stopHere ?_)
    refine stopAt ?_
    refine (lword_any B _ X L _ 5 M.kCall l0 (by simp [wordT])).mono ?_
    rintro e w1 ⟨rfl, X1, l1, t1, x1⟩
    have b1 := HS.out X X1 _ w1 b0 t1 x1 (fun k hk => (l0.far k hk).1)
    obtain ⟨m0, m1, m2, m3, m4, m5, m6, m7, mf, mz⟩ := cells8 b1.1.1
    go_wp2_with (go_at_call 43; refine stopHere ?_)
    refine stopAt ?_
    refine (put_new B w1 X1 L _ [p] l1 (by simp)).mono ?_
    rintro e w2 ⟨rfl, X2, l2, t2, x2⟩
    have b2 := HS.out X1 X2 w1 w2 b1 t2 x2 (fun k hk => (l1.far k hk).1)
    clear m0 m1 m2 m3 m4 m5 m6 m7 mf mz
    obtain ⟨m0, m1, m2, m3, m4, m5, m6, m7, mf, mz⟩ := cells8 b2.1.1
    go_wp2_with (go_at_call 67; refine stopHere ?_)
    refine stopAt ?_
    refine (larguments_any B w2 X2 L _ _ a l2 b2.2.1 hr).mono ?_
    rintro e w3 ⟨rfl, X3, l3, t3, x3⟩
    have b3 := HS.out X2 X3 w2 w3 b2 t3 x3 (fun k hk => (l2.far k hk).1)
    clear m0 m1 m2 m3 m4 m5 m6 m7 mf mz
    go_wp2_with fail
    go_end0
    exact ⟨rfl, by rw [HQ.out, M.putsM_app, M.putsM_app]; exact LayR.new hbw (LayR.next t1 x1 (LayR.next t2 x2 ⟨X3, l3, t3, x3⟩))⟩
  by_cases k6 : op = 6
  · subst k6
    have hbw : Below w.heap.size w (w.alloc (StO (6) x y p (.slice a1 a.length c1) (.slice a2 pr.length c2) (.slice a3 th.len c3) (.slice a4 el.len c4))) := (Below.refl _ w).alloc (Nat.le_refl _) _
    obtain ⟨b0, l0, hb0, hz0⟩ := box1_new h (StO (6) x y p (.slice a1 a.length c1) (.slice a2 pr.length c2) (.slice a3 th.len c3) (.slice a4 el.len c4)) _ (StA.keep _ _ hA (Below.keepX hbw))
    have HZ := hid hz0
    have HS : Hid (Stays B (Box1 w.heap.size (StO (6) x y p (.slice a1 a.length c1) (.slice a2 pr.length c2) (.slice a3 th.len c3) (.slice a4 el.len c4)) (StA B (.slice a1 a.length c1) (.slice a2 pr.length c2) (.slice a3 th.len c3) (.slice a4 el.len c4) a pr th el))) := Box1.stays StA.keep
    clear hz0
    simp only [StO] at l0 b0 hb0 HZ
    have HQ : Hid (M.laidVal 6 y p a pr = [y] ++ M.laidOps a) := rfl
    go_enter Tryz.func44, Tryz.ntmps44
    go_wp2_with (go_at_call 43; refine stopHere ?_)
    refine stopAt ?_
    refine (put_newAt B _ X L _ [y] (w.heap.size + 1) HZ.out l0 (by simp)).mono ?_
    rintro e w1 ⟨rfl, X1, l1, t1, x1⟩
    have b1 := HS.out X X1 _ w1 b0 t1 x1 (fun k hk => (l0.far k hk).1)
    obtain ⟨m0, m1, m2, m3, m4, m5, m6, m7, mf, mz⟩ := cells8 b1.1.1
    go_wp2_with (go_at_call 67; refine stopHere ?_)
    refine stopAt ?_
    refine (larguments_any B w1 X1 L _ _ a l1 b1.2.1 hr).mono ?_
    rintro e w2 ⟨rfl, X2, l2, t2, x2⟩
    have b2 := HS.out X1 X2 w1 w2 b1 t2 x2 (fun k hk => (l1.far k hk).1)
    clear m0 m1 m2 m3 m4 m5 m6 m7 mf mz
    go_wp2_with fail
    go_end0
    exact ⟨rfl, by rw [HQ.out, M.putsM_app]; exact LayR.new hbw (LayR.next t1 x1 ⟨X2, l2, t2, x2⟩)⟩
  have hbw : Below w.heap.size w (w.alloc (StO (op) x y p (.slice a1 a.length c1) (.slice a2 pr.length c2) (.slice a3 th.len c3) (.slice a4 el.len c4))) := (Below.refl _ w).alloc (Nat.le_refl _) _
  obtain ⟨b0, l0, hb0, hz0⟩ := box1_new h (StO (op) x y p (.slice a1 a.length c1) (.slice a2 pr.length c2) (.slice a3 th.len c3) (.slice a4 el.len c4)) _ (StA.keep _ _ hA (Below.keepX hbw))
  have HZ := hid hz0
  have HS : Hid (Stays B (Box1 w.heap.size (StO (op) x y p (.slice a1 a.length c1) (.slice a2 pr.length c2) (.slice a3 th.len c3) (.slice a4 el.len c4)) (StA B (.slice a1 a.length c1) (.slice a2 pr.length c2) (.slice a3 th.len c3) (.slice a4 el.len c4) a pr th el))) := Box1.stays StA.keep
  clear hz0
  simp only [StO] at l0 b0 hb0 HZ
  have q0 : (op == 0) = false := by simpa using k0
  have q1 : (op == 1) = false := by simpa using k1
  have q2 : (op == 2) = false := by simpa using k2
  have q7 : (op == 7) = false := by simpa using k7
  have q4 : (op == 4) = false := by simpa using k4
  have q5 : (op == 5) = false := by simpa using k5
  have q6 : (op == 6) = false := by simpa using k6
  have HQ : Hid (M.laidVal op y p a pr = []) := by unfold Hid M.laidVal; simp only [if_neg k0, if_neg k1, if_neg k2, if_neg k7, if_neg k4, if_neg k5, if_neg k6]
  clear k0 k1 k2 k7 k4 k5 k6
  go_enter Tryz.func44, Tryz.ntmps44
  go_wp2_with fail
  go_end0
  exact ⟨rfl, by rw [HQ.out]; exact LayR.new hbw (LayR.refl l0)⟩
def RngT : M.Tr → Prop
  | .nil => True
  | .cons _ _ _ _ a _ th el nx => (∀ o ∈ a, InI o.n) ∧ RngT th ∧ RngT el ∧ RngT nx
def BlkC (B L n : Nat) : Prop := ∀ (w : World) (X : Nat → Prop) (s : Option (List UInt8)) (v : Value) (t : M.Tr), t.sz ≤ n → RngT t → Lay B w X L s → StmAt w (Hi B) v t → Calls Tryz.prog 64 #[.pointer (some ⟨L, 0, none⟩), v] w (LayE B X L w (M.putsM s (M.laidBlk (M.laidTr t))))
theorem isNil_len : ∀ {t : M.Tr}, t.isNil = decide (t.len = 0)
  | .nil => rfl
  | .cons _ _ _ _ _ _ _ _ _ => by simp [M.Tr.isNil, M.Tr.len]
def laidIf (op : Int) (a : List M.Opd) (th el : M.Tr) : List ByteArray := (if op = 9 then M.kIf else M.kWhile) :: (M.laidAt a 0 ++ (M.laidBlk (M.laidTr th) ++ (if el.isNil = true then [] else M.kElse :: M.laidBlk (M.laidTr el))))

set_option maxRecDepth 8000 in
set_option maxHeartbeats 4000000 in
theorem lbranch_9 (B : Nat) (w : World) (X : Nat → Prop) (L n : Nat) (s : Option (List UInt8)) (x y p : ByteArray) (va vp vt ve : Value) (a : List M.Opd) (pr : List ByteArray) (th el : M.Tr) (hB : BlkC B L n) (h1 : th.sz ≤ n) (h2 : el.sz ≤ n) (r1 : RngT th) (r2 : RngT el) (h : Lay B w X L s) (hA : StA B va vp vt ve a pr th el w) (hr : ∀ o ∈ a, InI o.n) :
    Calls Tryz.prog 40 #[.pointer (some ⟨L, 0, none⟩), .agg #[.int .i64 9, .string x, .string y, .string p, va, vp, vt, ve]] w (LayE B X L w (M.putsM s (laidIf 9 a th el))) := by
  have hth : ∀ w X s v, Lay B w X L s → StmAt w (Hi B) v th → Calls Tryz.prog 64 #[.pointer (some ⟨L, 0, none⟩), v] w (LayE B X L w (M.putsM s (M.laidBlk (M.laidTr th)))) := fun w X s v hl hv => hB w X s v th h1 r1 hl hv
  have hel : ∀ w X s v, Lay B w X L s → StmAt w (Hi B) v el → Calls Tryz.prog 64 #[.pointer (some ⟨L, 0, none⟩), v] w (LayE B X L w (M.putsM s (M.laidBlk (M.laidTr el)))) := fun w X s v hl hv => hB w X s v el h2 r2 hl hv
  obtain ⟨a1, c1, rfl⟩ := SlAt.form hA.1
  obtain ⟨a2, c2, rfl⟩ := SlAt.form hA.2.1
  obtain ⟨a3, c3, rfl⟩ := StmAt.form hA.2.2.1
  obtain ⟨a4, c4, rfl⟩ := StmAt.form hA.2.2.2
  have hbw : Below w.heap.size w (w.alloc (StO (9) x y p (.slice a1 a.length c1) (.slice a2 pr.length c2) (.slice a3 th.len c3) (.slice a4 el.len c4))) := (Below.refl _ w).alloc (Nat.le_refl _) _
  obtain ⟨b0, l0, hb0, hz0⟩ := box1_new h (StO (9) x y p (.slice a1 a.length c1) (.slice a2 pr.length c2) (.slice a3 th.len c3) (.slice a4 el.len c4)) _ (StA.keep _ _ hA (Below.keepX hbw))
  have HZ := hid hz0
  have HS : Hid (Stays B (Box1 w.heap.size (StO (9) x y p (.slice a1 a.length c1) (.slice a2 pr.length c2) (.slice a3 th.len c3) (.slice a4 el.len c4)) (StA B (.slice a1 a.length c1) (.slice a2 pr.length c2) (.slice a3 th.len c3) (.slice a4 el.len c4) a pr th el))) := Box1.stays StA.keep
  clear hz0
  simp only [StO] at l0 b0 hb0 HZ
  by_cases he : el.len = 0
  · have HQ : Hid (laidIf 9 a th el = [M.kIf] ++ (M.laidAt a 0 ++ M.laidBlk (M.laidTr th))) := by unfold Hid laidIf; rw [if_pos (show el.isNil = true by rw [isNil_len]; exact decide_eq_true he), List.append_nil]; rfl
    have hei : ¬ (0 : Int) < (el.len : Int) := by omega
    have HE := hid he
    clear he
    go_enter Tryz.func40, Tryz.ntmps40
    go_wp2_with (go_at_call 41; refine stopHere ?_)
    refine stopAt ?_
    refine (lword_any B _ X L _ 9 M.kIf l0 (by simp [wordT])).mono ?_
    rintro e w1 ⟨rfl, X1, l1, t1, x1⟩
    have b1 := HS.out X X1 _ w1 b0 t1 x1 (fun k hk => (l0.far k hk).1)
    obtain ⟨m0, m1, m2, m3, m4, m5, m6, m7, mf, mz⟩ := cells8 b1.1.1
    go_wp2_with (go_at_call 42; refine stopHere ?_)
    refine stopAt ?_
    refine (loperand_any B w1 X1 L _ _ a 0 l1 b1.2.1 hr (by omega)).mono ?_
    rintro e w2 ⟨rfl, X2, l2, t2, x2⟩
    have b2 := HS.out X1 X2 w1 w2 b1 t2 x2 (fun k hk => (l1.far k hk).1)
    clear m0 m1 m2 m3 m4 m5 m6 m7 mf mz
    obtain ⟨m0, m1, m2, m3, m4, m5, m6, m7, mf, mz⟩ := cells8 b2.1.1
    go_wp2_with (go_at_call 64; refine stopHere ?_)
    refine stopAt ?_
    refine (hth w2 X2 _ _ l2 b2.2.2.2.1).mono ?_
    rintro e w3 ⟨rfl, X3, l3, t3, x3⟩
    have b3 := HS.out X2 X3 w2 w3 b2 t3 x3 (fun k hk => (l2.far k hk).1)
    clear m0 m1 m2 m3 m4 m5 m6 m7 mf mz
    obtain ⟨m0, m1, m2, m3, m4, m5, m6, m7, mf, mz⟩ := cells8 b3.1.1
    go_wp2_with fail
    go_end0
    exact ⟨rfl, by rw [HQ.out, M.putsM_app, M.putsM_app]; exact LayR.new hbw (LayR.next t1 x1 (LayR.next t2 x2 ⟨X3, l3, t3, x3⟩))⟩
  · have HQ : Hid (laidIf 9 a th el = [M.kIf] ++ (M.laidAt a 0 ++ (M.laidBlk (M.laidTr th) ++ ([M.kElse] ++ M.laidBlk (M.laidTr el))))) := by unfold Hid laidIf; rw [if_neg (show ¬ el.isNil = true by rw [isNil_len, decide_eq_true_eq]; exact he)]; rfl
    have hei : (0 : Int) < (el.len : Int) := by omega
    clear he
    go_enter Tryz.func40, Tryz.ntmps40
    go_wp2_with (go_at_call 41; refine stopHere ?_)
    refine stopAt ?_
    refine (lword_any B _ X L _ 9 M.kIf l0 (by simp [wordT])).mono ?_
    rintro e w1 ⟨rfl, X1, l1, t1, x1⟩
    have b1 := HS.out X X1 _ w1 b0 t1 x1 (fun k hk => (l0.far k hk).1)
    obtain ⟨m0, m1, m2, m3, m4, m5, m6, m7, mf, mz⟩ := cells8 b1.1.1
    go_wp2_with (go_at_call 42; refine stopHere ?_)
    refine stopAt ?_
    refine (loperand_any B w1 X1 L _ _ a 0 l1 b1.2.1 hr (by omega)).mono ?_
    rintro e w2 ⟨rfl, X2, l2, t2, x2⟩
    have b2 := HS.out X1 X2 w1 w2 b1 t2 x2 (fun k hk => (l1.far k hk).1)
    clear m0 m1 m2 m3 m4 m5 m6 m7 mf mz
    obtain ⟨m0, m1, m2, m3, m4, m5, m6, m7, mf, mz⟩ := cells8 b2.1.1
    go_wp2_with (go_at_call 64; refine stopHere ?_)
    refine stopAt ?_
    refine (hth w2 X2 _ _ l2 b2.2.2.2.1).mono ?_
    rintro e w3 ⟨rfl, X3, l3, t3, x3⟩
    have b3 := HS.out X2 X3 w2 w3 b2 t3 x3 (fun k hk => (l2.far k hk).1)
    clear m0 m1 m2 m3 m4 m5 m6 m7 mf mz
    obtain ⟨m0, m1, m2, m3, m4, m5, m6, m7, mf, mz⟩ := cells8 b3.1.1
    go_wp2_with (go_at_call 43; refine stopHere ?_)
    refine stopAt ?_
    refine (put_new B w3 X3 L _ [M.kElse] l3 (by simp)).mono ?_
    rintro e w4 ⟨rfl, X4, l4, t4, x4⟩
    have b4 := HS.out X3 X4 w3 w4 b3 t4 x4 (fun k hk => (l3.far k hk).1)
    clear m0 m1 m2 m3 m4 m5 m6 m7 mf mz
    obtain ⟨m0, m1, m2, m3, m4, m5, m6, m7, mf, mz⟩ := cells8 b4.1.1
    go_wp2_with (go_at_call 64; refine stopHere ?_)
    refine stopAt ?_
    refine (hel w4 X4 _ _ l4 b4.2.2.2.2).mono ?_
    rintro e w5 ⟨rfl, X5, l5, t5, x5⟩
    have b5 := HS.out X4 X5 w4 w5 b4 t5 x5 (fun k hk => (l4.far k hk).1)
    clear m0 m1 m2 m3 m4 m5 m6 m7 mf mz
    go_wp2_with fail
    go_end0
    exact ⟨rfl, by rw [HQ.out, M.putsM_app, M.putsM_app, M.putsM_app, M.putsM_app]; exact LayR.new hbw (LayR.next t1 x1 (LayR.next t2 x2 (LayR.next t3 x3 (LayR.next t4 x4 ⟨X5, l5, t5, x5⟩))))⟩
set_option maxRecDepth 8000 in
set_option maxHeartbeats 4000000 in
theorem lbranch_10 (B : Nat) (w : World) (X : Nat → Prop) (L n : Nat) (s : Option (List UInt8)) (x y p : ByteArray) (va vp vt ve : Value) (a : List M.Opd) (pr : List ByteArray) (th el : M.Tr) (hB : BlkC B L n) (h1 : th.sz ≤ n) (h2 : el.sz ≤ n) (r1 : RngT th) (r2 : RngT el) (h : Lay B w X L s) (hA : StA B va vp vt ve a pr th el w) (hr : ∀ o ∈ a, InI o.n) :
    Calls Tryz.prog 40 #[.pointer (some ⟨L, 0, none⟩), .agg #[.int .i64 10, .string x, .string y, .string p, va, vp, vt, ve]] w (LayE B X L w (M.putsM s (laidIf 10 a th el))) := by
  have hth : ∀ w X s v, Lay B w X L s → StmAt w (Hi B) v th → Calls Tryz.prog 64 #[.pointer (some ⟨L, 0, none⟩), v] w (LayE B X L w (M.putsM s (M.laidBlk (M.laidTr th)))) := fun w X s v hl hv => hB w X s v th h1 r1 hl hv
  have hel : ∀ w X s v, Lay B w X L s → StmAt w (Hi B) v el → Calls Tryz.prog 64 #[.pointer (some ⟨L, 0, none⟩), v] w (LayE B X L w (M.putsM s (M.laidBlk (M.laidTr el)))) := fun w X s v hl hv => hB w X s v el h2 r2 hl hv
  obtain ⟨a1, c1, rfl⟩ := SlAt.form hA.1
  obtain ⟨a2, c2, rfl⟩ := SlAt.form hA.2.1
  obtain ⟨a3, c3, rfl⟩ := StmAt.form hA.2.2.1
  obtain ⟨a4, c4, rfl⟩ := StmAt.form hA.2.2.2
  have hbw : Below w.heap.size w (w.alloc (StO (10) x y p (.slice a1 a.length c1) (.slice a2 pr.length c2) (.slice a3 th.len c3) (.slice a4 el.len c4))) := (Below.refl _ w).alloc (Nat.le_refl _) _
  obtain ⟨b0, l0, hb0, hz0⟩ := box1_new h (StO (10) x y p (.slice a1 a.length c1) (.slice a2 pr.length c2) (.slice a3 th.len c3) (.slice a4 el.len c4)) _ (StA.keep _ _ hA (Below.keepX hbw))
  have HZ := hid hz0
  have HS : Hid (Stays B (Box1 w.heap.size (StO (10) x y p (.slice a1 a.length c1) (.slice a2 pr.length c2) (.slice a3 th.len c3) (.slice a4 el.len c4)) (StA B (.slice a1 a.length c1) (.slice a2 pr.length c2) (.slice a3 th.len c3) (.slice a4 el.len c4) a pr th el))) := Box1.stays StA.keep
  clear hz0
  simp only [StO] at l0 b0 hb0 HZ
  by_cases he : el.len = 0
  · have HQ : Hid (laidIf 10 a th el = [M.kWhile] ++ (M.laidAt a 0 ++ M.laidBlk (M.laidTr th))) := by unfold Hid laidIf; rw [if_pos (show el.isNil = true by rw [isNil_len]; exact decide_eq_true he), List.append_nil]; rfl
    have hei : ¬ (0 : Int) < (el.len : Int) := by omega
    have HE := hid he
    clear he
    go_enter Tryz.func40, Tryz.ntmps40
    go_wp2_with (go_at_call 41; refine stopHere ?_)
    refine stopAt ?_
    refine (lword_any B _ X L _ 10 M.kWhile l0 (by simp [wordT])).mono ?_
    rintro e w1 ⟨rfl, X1, l1, t1, x1⟩
    have b1 := HS.out X X1 _ w1 b0 t1 x1 (fun k hk => (l0.far k hk).1)
    obtain ⟨m0, m1, m2, m3, m4, m5, m6, m7, mf, mz⟩ := cells8 b1.1.1
    go_wp2_with (go_at_call 42; refine stopHere ?_)
    refine stopAt ?_
    refine (loperand_any B w1 X1 L _ _ a 0 l1 b1.2.1 hr (by omega)).mono ?_
    rintro e w2 ⟨rfl, X2, l2, t2, x2⟩
    have b2 := HS.out X1 X2 w1 w2 b1 t2 x2 (fun k hk => (l1.far k hk).1)
    clear m0 m1 m2 m3 m4 m5 m6 m7 mf mz
    obtain ⟨m0, m1, m2, m3, m4, m5, m6, m7, mf, mz⟩ := cells8 b2.1.1
    go_wp2_with (go_at_call 64; refine stopHere ?_)
    refine stopAt ?_
    refine (hth w2 X2 _ _ l2 b2.2.2.2.1).mono ?_
    rintro e w3 ⟨rfl, X3, l3, t3, x3⟩
    have b3 := HS.out X2 X3 w2 w3 b2 t3 x3 (fun k hk => (l2.far k hk).1)
    clear m0 m1 m2 m3 m4 m5 m6 m7 mf mz
    obtain ⟨m0, m1, m2, m3, m4, m5, m6, m7, mf, mz⟩ := cells8 b3.1.1
    go_wp2_with fail
    go_end0
    exact ⟨rfl, by rw [HQ.out, M.putsM_app, M.putsM_app]; exact LayR.new hbw (LayR.next t1 x1 (LayR.next t2 x2 ⟨X3, l3, t3, x3⟩))⟩
  · have HQ : Hid (laidIf 10 a th el = [M.kWhile] ++ (M.laidAt a 0 ++ (M.laidBlk (M.laidTr th) ++ ([M.kElse] ++ M.laidBlk (M.laidTr el))))) := by unfold Hid laidIf; rw [if_neg (show ¬ el.isNil = true by rw [isNil_len, decide_eq_true_eq]; exact he)]; rfl
    have hei : (0 : Int) < (el.len : Int) := by omega
    clear he
    go_enter Tryz.func40, Tryz.ntmps40
    go_wp2_with (go_at_call 41; refine stopHere ?_)
    refine stopAt ?_
    refine (lword_any B _ X L _ 10 M.kWhile l0 (by simp [wordT])).mono ?_
    rintro e w1 ⟨rfl, X1, l1, t1, x1⟩
    have b1 := HS.out X X1 _ w1 b0 t1 x1 (fun k hk => (l0.far k hk).1)
    obtain ⟨m0, m1, m2, m3, m4, m5, m6, m7, mf, mz⟩ := cells8 b1.1.1
    go_wp2_with (go_at_call 42; refine stopHere ?_)
    refine stopAt ?_
    refine (loperand_any B w1 X1 L _ _ a 0 l1 b1.2.1 hr (by omega)).mono ?_
    rintro e w2 ⟨rfl, X2, l2, t2, x2⟩
    have b2 := HS.out X1 X2 w1 w2 b1 t2 x2 (fun k hk => (l1.far k hk).1)
    clear m0 m1 m2 m3 m4 m5 m6 m7 mf mz
    obtain ⟨m0, m1, m2, m3, m4, m5, m6, m7, mf, mz⟩ := cells8 b2.1.1
    go_wp2_with (go_at_call 64; refine stopHere ?_)
    refine stopAt ?_
    refine (hth w2 X2 _ _ l2 b2.2.2.2.1).mono ?_
    rintro e w3 ⟨rfl, X3, l3, t3, x3⟩
    have b3 := HS.out X2 X3 w2 w3 b2 t3 x3 (fun k hk => (l2.far k hk).1)
    clear m0 m1 m2 m3 m4 m5 m6 m7 mf mz
    obtain ⟨m0, m1, m2, m3, m4, m5, m6, m7, mf, mz⟩ := cells8 b3.1.1
    go_wp2_with (go_at_call 43; refine stopHere ?_)
    refine stopAt ?_
    refine (put_new B w3 X3 L _ [M.kElse] l3 (by simp)).mono ?_
    rintro e w4 ⟨rfl, X4, l4, t4, x4⟩
    have b4 := HS.out X3 X4 w3 w4 b3 t4 x4 (fun k hk => (l3.far k hk).1)
    clear m0 m1 m2 m3 m4 m5 m6 m7 mf mz
    obtain ⟨m0, m1, m2, m3, m4, m5, m6, m7, mf, mz⟩ := cells8 b4.1.1
    go_wp2_with (go_at_call 64; refine stopHere ?_)
    refine stopAt ?_
    refine (hel w4 X4 _ _ l4 b4.2.2.2.2).mono ?_
    rintro e w5 ⟨rfl, X5, l5, t5, x5⟩
    have b5 := HS.out X4 X5 w4 w5 b4 t5 x5 (fun k hk => (l4.far k hk).1)
    clear m0 m1 m2 m3 m4 m5 m6 m7 mf mz
    go_wp2_with fail
    go_end0
    exact ⟨rfl, by rw [HQ.out, M.putsM_app, M.putsM_app, M.putsM_app, M.putsM_app]; exact LayR.new hbw (LayR.next t1 x1 (LayR.next t2 x2 (LayR.next t3 x3 (LayR.next t4 x4 ⟨X5, l5, t5, x5⟩))))⟩
theorem laidSt_eq (op : Int) (x y p : ByteArray) (a : List M.Opd) (pr : List ByteArray) (th el : M.Tr) : laidSt op x y p a pr th el = (if op = 9 ∨ op = 10 then laidIf op a th el
     else if op = 8 ∨ op = 11 then (if op = 8 then M.kOut else M.kReturn) :: (M.laidAt a 0 ++ [M.ch 59])
     else if op = 3 then x :: M.ch 46 :: p :: M.ch 61 :: (M.laidAt a 0 ++ [M.ch 59])
     else x :: M.ch 61 :: (M.laidVal op y p a pr ++ [M.ch 59])) := by
  unfold laidSt M.one
  rw [M.laidTr, M.laidTr, List.append_nil]
  rfl
set_option maxRecDepth 8000 in
set_option maxHeartbeats 4000000 in
theorem lstmt_any (B : Nat) (w : World) (X : Nat → Prop) (L n : Nat) (s : Option (List UInt8)) (op : Int) (x y p : ByteArray) (va vp vt ve : Value) (a : List M.Opd) (pr : List ByteArray) (th el : M.Tr) (hB : BlkC B L n) (h1 : th.sz ≤ n) (h2 : el.sz ≤ n) (r1 : RngT th) (r2 : RngT el) (h : Lay B w X L s) (hA : StA B va vp vt ve a pr th el w) (hr : ∀ o ∈ a, InI o.n) :
    Calls Tryz.prog 26 #[.pointer (some ⟨L, 0, none⟩), .agg #[.int .i64 op, .string x, .string y, .string p, va, vp, vt, ve]] w (LayE B X L w (M.putsM s (laidSt op x y p a pr th el))) := by
  obtain ⟨a1, c1, rfl⟩ := SlAt.form hA.1
  obtain ⟨a2, c2, rfl⟩ := SlAt.form hA.2.1
  obtain ⟨a3, c3, rfl⟩ := StmAt.form hA.2.2.1
  obtain ⟨a4, c4, rfl⟩ := StmAt.form hA.2.2.2
  by_cases k9 : op = 9
  · subst k9
    have hbw : Below w.heap.size w (w.alloc (StO (9) x y p (.slice a1 a.length c1) (.slice a2 pr.length c2) (.slice a3 th.len c3) (.slice a4 el.len c4))) := (Below.refl _ w).alloc (Nat.le_refl _) _
    obtain ⟨b0, l0, hb0, hz0⟩ := box1_new h (StO (9) x y p (.slice a1 a.length c1) (.slice a2 pr.length c2) (.slice a3 th.len c3) (.slice a4 el.len c4)) _ (StA.keep _ _ hA (Below.keepX hbw))
    have HZ := hid hz0
    have HS : Hid (Stays B (Box1 w.heap.size (StO (9) x y p (.slice a1 a.length c1) (.slice a2 pr.length c2) (.slice a3 th.len c3) (.slice a4 el.len c4)) (StA B (.slice a1 a.length c1) (.slice a2 pr.length c2) (.slice a3 th.len c3) (.slice a4 el.len c4) a pr th el))) := Box1.stays StA.keep
    clear hz0
    simp only [StO] at l0 b0 hb0 HZ
    have HQ : Hid (laidSt 9 x y p a pr th el = laidIf 9 a th el) := by unfold Hid; rw [laidSt_eq]; rfl
    go_enter Tryz.func26, Tryz.ntmps26
    go_wp2_with (go_at_call 40; refine stopHere ?_)
    refine stopAt ?_
    refine (lbranch_9 B _ X L n _ x y p _ _ _ _ a pr th el hB h1 h2 r1 r2 l0 b0.2 hr).mono ?_
    rintro e w1 ⟨rfl, hr1⟩
    go_wp2_with fail
    go_end0
    exact ⟨rfl, by rw [HQ.out]; exact LayR.new hbw hr1⟩
  by_cases k10 : op = 10
  · subst k10
    have hbw : Below w.heap.size w (w.alloc (StO (10) x y p (.slice a1 a.length c1) (.slice a2 pr.length c2) (.slice a3 th.len c3) (.slice a4 el.len c4))) := (Below.refl _ w).alloc (Nat.le_refl _) _
    obtain ⟨b0, l0, hb0, hz0⟩ := box1_new h (StO (10) x y p (.slice a1 a.length c1) (.slice a2 pr.length c2) (.slice a3 th.len c3) (.slice a4 el.len c4)) _ (StA.keep _ _ hA (Below.keepX hbw))
    have HZ := hid hz0
    have HS : Hid (Stays B (Box1 w.heap.size (StO (10) x y p (.slice a1 a.length c1) (.slice a2 pr.length c2) (.slice a3 th.len c3) (.slice a4 el.len c4)) (StA B (.slice a1 a.length c1) (.slice a2 pr.length c2) (.slice a3 th.len c3) (.slice a4 el.len c4) a pr th el))) := Box1.stays StA.keep
    clear hz0
    simp only [StO] at l0 b0 hb0 HZ
    have HQ : Hid (laidSt 10 x y p a pr th el = laidIf 10 a th el) := by unfold Hid; rw [laidSt_eq]; rfl
    go_enter Tryz.func26, Tryz.ntmps26
    go_wp2_with (go_at_call 40; refine stopHere ?_)
    refine stopAt ?_
    refine (lbranch_10 B _ X L n _ x y p _ _ _ _ a pr th el hB h1 h2 r1 r2 l0 b0.2 hr).mono ?_
    rintro e w1 ⟨rfl, hr1⟩
    go_wp2_with fail
    go_end0
    exact ⟨rfl, by rw [HQ.out]; exact LayR.new hbw hr1⟩
  by_cases k8 : op = 8
  · subst k8
    have hbw : Below w.heap.size w (w.alloc (StO (8) x y p (.slice a1 a.length c1) (.slice a2 pr.length c2) (.slice a3 th.len c3) (.slice a4 el.len c4))) := (Below.refl _ w).alloc (Nat.le_refl _) _
    obtain ⟨b0, l0, hb0, hz0⟩ := box1_new h (StO (8) x y p (.slice a1 a.length c1) (.slice a2 pr.length c2) (.slice a3 th.len c3) (.slice a4 el.len c4)) _ (StA.keep _ _ hA (Below.keepX hbw))
    have HZ := hid hz0
    have HS : Hid (Stays B (Box1 w.heap.size (StO (8) x y p (.slice a1 a.length c1) (.slice a2 pr.length c2) (.slice a3 th.len c3) (.slice a4 el.len c4)) (StA B (.slice a1 a.length c1) (.slice a2 pr.length c2) (.slice a3 th.len c3) (.slice a4 el.len c4) a pr th el))) := Box1.stays StA.keep
    clear hz0
    simp only [StO] at l0 b0 hb0 HZ
    have HQ : Hid (laidSt 8 x y p a pr th el = [M.kOut] ++ (M.laidAt a 0 ++ [M.ch 59])) := by unfold Hid; rw [laidSt_eq]; rfl
    go_enter Tryz.func26, Tryz.ntmps26
    go_wp2_with (go_at_call 41; refine stopHere ?_)
    refine stopAt ?_
    refine (lword_any B _ X L _ 8 M.kOut l0 (by simp [wordT])).mono ?_
    rintro e w1 ⟨rfl, X1, l1, t1, x1⟩
    have b1 := HS.out X X1 _ w1 b0 t1 x1 (fun k hk => (l0.far k hk).1)
    obtain ⟨m0, m1, m2, m3, m4, m5, m6, m7, mf, mz⟩ := cells8 b1.1.1
    go_wp2_with (go_at_call 42; refine stopHere ?_)
    refine stopAt ?_
    refine (loperand_any B w1 X1 L _ _ a 0 l1 b1.2.1 hr (by omega)).mono ?_
    rintro e w2 ⟨rfl, X2, l2, t2, x2⟩
    have b2 := HS.out X1 X2 w1 w2 b1 t2 x2 (fun k hk => (l1.far k hk).1)
    clear m0 m1 m2 m3 m4 m5 m6 m7 mf mz
    obtain ⟨m0, m1, m2, m3, m4, m5, m6, m7, mf, mz⟩ := cells8 b2.1.1
    go_wp2_with (go_at_call 43; refine stopHere ?_)
    refine stopAt ?_
    refine (put_new B w2 X2 L _ [M.ch 59] l2 (by simp)).mono ?_
    rintro e w3 ⟨rfl, X3, l3, t3, x3⟩
    have b3 := HS.out X2 X3 w2 w3 b2 t3 x3 (fun k hk => (l2.far k hk).1)
    clear m0 m1 m2 m3 m4 m5 m6 m7 mf mz
    go_wp2_with fail
    go_end0
    exact ⟨rfl, by rw [HQ.out, M.putsM_app, M.putsM_app]; exact LayR.new hbw (LayR.next t1 x1 (LayR.next t2 x2 ⟨X3, l3, t3, x3⟩))⟩
  by_cases k11 : op = 11
  · subst k11
    have hbw : Below w.heap.size w (w.alloc (StO (11) x y p (.slice a1 a.length c1) (.slice a2 pr.length c2) (.slice a3 th.len c3) (.slice a4 el.len c4))) := (Below.refl _ w).alloc (Nat.le_refl _) _
    obtain ⟨b0, l0, hb0, hz0⟩ := box1_new h (StO (11) x y p (.slice a1 a.length c1) (.slice a2 pr.length c2) (.slice a3 th.len c3) (.slice a4 el.len c4)) _ (StA.keep _ _ hA (Below.keepX hbw))
    have HZ := hid hz0
    have HS : Hid (Stays B (Box1 w.heap.size (StO (11) x y p (.slice a1 a.length c1) (.slice a2 pr.length c2) (.slice a3 th.len c3) (.slice a4 el.len c4)) (StA B (.slice a1 a.length c1) (.slice a2 pr.length c2) (.slice a3 th.len c3) (.slice a4 el.len c4) a pr th el))) := Box1.stays StA.keep
    clear hz0
    simp only [StO] at l0 b0 hb0 HZ
    have HQ : Hid (laidSt 11 x y p a pr th el = [M.kReturn] ++ (M.laidAt a 0 ++ [M.ch 59])) := by unfold Hid; rw [laidSt_eq]; rfl
    go_enter Tryz.func26, Tryz.ntmps26
    go_wp2_with (go_at_call 41; refine stopHere ?_)
    refine stopAt ?_
    refine (lword_any B _ X L _ 11 M.kReturn l0 (by simp [wordT])).mono ?_
    rintro e w1 ⟨rfl, X1, l1, t1, x1⟩
    have b1 := HS.out X X1 _ w1 b0 t1 x1 (fun k hk => (l0.far k hk).1)
    obtain ⟨m0, m1, m2, m3, m4, m5, m6, m7, mf, mz⟩ := cells8 b1.1.1
    go_wp2_with (go_at_call 42; refine stopHere ?_)
    refine stopAt ?_
    refine (loperand_any B w1 X1 L _ _ a 0 l1 b1.2.1 hr (by omega)).mono ?_
    rintro e w2 ⟨rfl, X2, l2, t2, x2⟩
    have b2 := HS.out X1 X2 w1 w2 b1 t2 x2 (fun k hk => (l1.far k hk).1)
    clear m0 m1 m2 m3 m4 m5 m6 m7 mf mz
    obtain ⟨m0, m1, m2, m3, m4, m5, m6, m7, mf, mz⟩ := cells8 b2.1.1
    go_wp2_with (go_at_call 43; refine stopHere ?_)
    refine stopAt ?_
    refine (put_new B w2 X2 L _ [M.ch 59] l2 (by simp)).mono ?_
    rintro e w3 ⟨rfl, X3, l3, t3, x3⟩
    have b3 := HS.out X2 X3 w2 w3 b2 t3 x3 (fun k hk => (l2.far k hk).1)
    clear m0 m1 m2 m3 m4 m5 m6 m7 mf mz
    go_wp2_with fail
    go_end0
    exact ⟨rfl, by rw [HQ.out, M.putsM_app, M.putsM_app]; exact LayR.new hbw (LayR.next t1 x1 (LayR.next t2 x2 ⟨X3, l3, t3, x3⟩))⟩
  by_cases k3 : op = 3
  · subst k3
    have hbw : Below w.heap.size w (w.alloc (StO (3) x y p (.slice a1 a.length c1) (.slice a2 pr.length c2) (.slice a3 th.len c3) (.slice a4 el.len c4))) := (Below.refl _ w).alloc (Nat.le_refl _) _
    obtain ⟨b0, l0, hb0, hz0⟩ := box1_new h (StO (3) x y p (.slice a1 a.length c1) (.slice a2 pr.length c2) (.slice a3 th.len c3) (.slice a4 el.len c4)) _ (StA.keep _ _ hA (Below.keepX hbw))
    have HZ := hid hz0
    have HS : Hid (Stays B (Box1 w.heap.size (StO (3) x y p (.slice a1 a.length c1) (.slice a2 pr.length c2) (.slice a3 th.len c3) (.slice a4 el.len c4)) (StA B (.slice a1 a.length c1) (.slice a2 pr.length c2) (.slice a3 th.len c3) (.slice a4 el.len c4) a pr th el))) := Box1.stays StA.keep
    clear hz0
    simp only [StO] at l0 b0 hb0 HZ
    have HQ : Hid (laidSt 3 x y p a pr th el = [x, M.ch 46, p, M.ch 61] ++ (M.laidAt a 0 ++ [M.ch 59])) := by unfold Hid; rw [laidSt_eq]; rfl
    go_enter Tryz.func26, Tryz.ntmps26
    go_wp2_with (go_at_call 43; refine stopHere ?_)
    refine stopAt ?_
    refine (put_newAt B _ X L _ [x, M.ch 46, p, M.ch 61] (w.heap.size + 1) HZ.out l0 (by simp)).mono ?_
    rintro e w1 ⟨rfl, X1, l1, t1, x1⟩
    have b1 := HS.out X X1 _ w1 b0 t1 x1 (fun k hk => (l0.far k hk).1)
    obtain ⟨m0, m1, m2, m3, m4, m5, m6, m7, mf, mz⟩ := cells8 b1.1.1
    go_wp2_with (go_at_call 42; refine stopHere ?_)
    refine stopAt ?_
    refine (loperand_any B w1 X1 L _ _ a 0 l1 b1.2.1 hr (by omega)).mono ?_
    rintro e w2 ⟨rfl, X2, l2, t2, x2⟩
    have b2 := HS.out X1 X2 w1 w2 b1 t2 x2 (fun k hk => (l1.far k hk).1)
    clear m0 m1 m2 m3 m4 m5 m6 m7 mf mz
    obtain ⟨m0, m1, m2, m3, m4, m5, m6, m7, mf, mz⟩ := cells8 b2.1.1
    go_wp2_with (go_at_call 43; refine stopHere ?_)
    refine stopAt ?_
    refine (put_new B w2 X2 L _ [M.ch 59] l2 (by simp)).mono ?_
    rintro e w3 ⟨rfl, X3, l3, t3, x3⟩
    have b3 := HS.out X2 X3 w2 w3 b2 t3 x3 (fun k hk => (l2.far k hk).1)
    clear m0 m1 m2 m3 m4 m5 m6 m7 mf mz
    go_wp2_with fail
    go_end0
    exact ⟨rfl, by rw [HQ.out, M.putsM_app, M.putsM_app]; exact LayR.new hbw (LayR.next t1 x1 (LayR.next t2 x2 ⟨X3, l3, t3, x3⟩))⟩
  have hbw : Below w.heap.size w (w.alloc (StO (op) x y p (.slice a1 a.length c1) (.slice a2 pr.length c2) (.slice a3 th.len c3) (.slice a4 el.len c4))) := (Below.refl _ w).alloc (Nat.le_refl _) _
  obtain ⟨b0, l0, hb0, hz0⟩ := box1_new h (StO (op) x y p (.slice a1 a.length c1) (.slice a2 pr.length c2) (.slice a3 th.len c3) (.slice a4 el.len c4)) _ (StA.keep _ _ hA (Below.keepX hbw))
  have HZ := hid hz0
  have HS : Hid (Stays B (Box1 w.heap.size (StO (op) x y p (.slice a1 a.length c1) (.slice a2 pr.length c2) (.slice a3 th.len c3) (.slice a4 el.len c4)) (StA B (.slice a1 a.length c1) (.slice a2 pr.length c2) (.slice a3 th.len c3) (.slice a4 el.len c4) a pr th el))) := Box1.stays StA.keep
  clear hz0
  simp only [StO] at l0 b0 hb0 HZ
  have q9 : (op == 9) = false := by simpa using k9
  have q10 : (op == 10) = false := by simpa using k10
  have q8 : (op == 8) = false := by simpa using k8
  have q11 : (op == 11) = false := by simpa using k11
  have q3 : (op == 3) = false := by simpa using k3
  have HQ : Hid (laidSt op x y p a pr th el = [x, M.ch 61] ++ (M.laidVal op y p a pr ++ [M.ch 59])) := by unfold Hid; rw [laidSt_eq, if_neg (by omega), if_neg (by omega), if_neg k3]; rfl
  clear k9 k10 k8 k11 k3
  go_enter Tryz.func26, Tryz.ntmps26
  go_wp2_with (go_at_call 43; refine stopHere ?_)
  refine stopAt ?_
  refine (put_newAt B _ X L _ [x, M.ch 61] (w.heap.size + 1) HZ.out l0 (by simp)).mono ?_
  rintro e w1 ⟨rfl, X1, l1, t1, x1⟩
  have b1 := HS.out X X1 _ w1 b0 t1 x1 (fun k hk => (l0.far k hk).1)
  obtain ⟨m0, m1, m2, m3, m4, m5, m6, m7, mf, mz⟩ := cells8 b1.1.1
  go_wp2_with (go_at_call 44; refine stopHere ?_)
  refine stopAt ?_
  refine (lvalue_any B w1 X1 L _ op x y p _ _ _ _ a pr th el l1 b1.2 hr).mono ?_
  rintro e w2 ⟨rfl, X2, l2, t2, x2⟩
  have b2 := HS.out X1 X2 w1 w2 b1 t2 x2 (fun k hk => (l1.far k hk).1)
  clear m0 m1 m2 m3 m4 m5 m6 m7 mf mz
  obtain ⟨m0, m1, m2, m3, m4, m5, m6, m7, mf, mz⟩ := cells8 b2.1.1
  go_wp2_with (go_at_call 43; refine stopHere ?_)
  refine stopAt ?_
  refine (put_new B w2 X2 L _ [M.ch 59] l2 (by simp)).mono ?_
  rintro e w3 ⟨rfl, X3, l3, t3, x3⟩
  have b3 := HS.out X2 X3 w2 w3 b2 t3 x3 (fun k hk => (l2.far k hk).1)
  clear m0 m1 m2 m3 m4 m5 m6 m7 mf mz
  go_wp2_with fail
  go_end0
  exact ⟨rfl, by rw [HQ.out, M.putsM_app, M.putsM_app]; exact LayR.new hbw (LayR.next t1 x1 (LayR.next t2 x2 ⟨X3, l3, t3, x3⟩))⟩
end Go.Proofs.YtkpmpnebmkeocaaGreatDoor
