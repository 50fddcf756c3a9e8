/-
  The walks of the document's reader's first steps (proteanref02: ok, fail, is, need): a state is how it goes on, or its fault. Conditions: the state's.
-/
import Derived.Test.YtkonkdhoakcmdaaGreatDoorT1
import Derived.Test.YtkonkdhoakcmdaaGreatDoorQ
set_option linter.unusedVariables false
namespace Go.Proofs.YtkonkdhoakcmdaaGreatDoor
open Go.RowKit

/-- a state of the document's reader: how it goes on, or its fault -/
abbrev RSt := Except M.Flt M.St
def okR (r : RSt) : Bool := match r with | .ok _ => true | .error _ => false
def isR (r : RSt) (t : ByteArray) : Bool := match r with | .ok S => S.at t | .error _ => false
def isNameR (r : RSt) : Bool := match r with | .ok S => S.isName | .error _ => false
def bindR {α : Type} (r : RSt) (f : M.St → M.Res α) : M.Res α := match r with | .ok S => f S | .error e => .error e
def stR {α : Type} (r : M.Res α) : RSt := match r with | .ok p => .ok p.1 | .error e => .error e
def failR (r : RSt) (c : Int) : RSt := match r with | .ok S => .error (c, S.now.p) | .error e => .error e
def needR (r : RSt) (t : ByteArray) : RSt := stR (bindR r fun S => M.take S t)

structure RS (ts : List M.Tok) (fin : Int) (d : Nat) (r : RSt) (i n : Nat) (c y : Int) : Prop where
  lt : i ≤ ts.length
  lim : n ≤ 2000
  good : ∀ S, r = .ok S → c = 0 ∧ y = 0 ∧ S = ⟨ts.drop i, fin, n, d⟩
  bad : ∀ f, r = .error f → c = f.1 ∧ y = f.2 ∧ ¬ f.1 = 0

theorem one_new {w w1 : World} {A : Obj} (hb : Below (w.alloc A).heap.size (w.alloc A) w1) : w1.heap[w.heap.size]? = some A ∧ w.heap.size < w1.heap.size ∧ Below w.heap.size w w1 := by
  have hz := hb.size
  simp only [World.size_alloc] at hz
  exact ⟨(hb.block _ (by simp)).trans (heap_alloc_new w A), by omega, ((Below.refl _ _).alloc (Nat.le_refl _) _).trans (hb.mono (by simp))⟩
theorem two_new {w w1 : World} {A B : Obj} (hb : Below ((w.alloc A).alloc B).heap.size ((w.alloc A).alloc B) w1) : w1.heap[w.heap.size]? = some A ∧ w1.heap[w.heap.size + 1]? = some B ∧ w.heap.size + 1 < w1.heap.size ∧ Below w.heap.size w w1 := by
  have hz := hb.size
  simp only [World.size_alloc] at hz
  have hN := heap_alloc_new (w.alloc A) B
  simp only [World.size_alloc] at hN
  exact ⟨(hb.block _ (by simp; omega)).trans ((Below.heap_alloc _ _ _ (by simp)).trans (heap_alloc_new w A)), (hb.block _ (by simp)).trans hN, by omega, (((Below.refl _ _).alloc (Nat.le_refl _) _).alloc (by simp) _).trans (hb.mono (by simp; omega))⟩

theorem below_two {w : World} (A B : Obj) : Below w.heap.size w ((w.alloc A).alloc B) := ((Below.refl _ _).alloc (Nat.le_refl _) _).alloc (by simp) _
/-- six cells in a block -/
theorem cells6 {w : World} {r : Nat} {T : TypeId} {v0 v1 v2 v3 v4 v5 : Value} (h : w.heap[r]? = some (.cells #[v0, v1, v2, v3, v4, v5] T (0, 0))) :
    w.cell? ⟨r, 0, none⟩ = some v0 ∧ w.cell? ⟨r, 1, none⟩ = some v1 ∧ w.cell? ⟨r, 2, none⟩ = some v2 ∧ w.cell? ⟨r, 3, none⟩ = some v3 ∧ w.cell? ⟨r, 4, none⟩ = some v4 ∧ w.cell? ⟨r, 5, none⟩ = some v5 ∧ (∀ i, w.frozen? ⟨r, i, none⟩ = false) := by
  refine ⟨?_, ?_, ?_, ?_, ?_, ?_, fun i => Lib.frozen_of_heap h i⟩
  all_goals (rw [Lib.cell_of_heap h]; rfl)

set_option maxHeartbeats 400000 in
theorem rok_any (a : Option Addr) (N cap : Nat) (ts : List M.Tok) (fin : Int) (d : Nat) (r : RSt) (i n : Nat) (c y : Int) (w : World) (h : RS ts fin d r i n c y) :
    Calls Tryz.prog 18 #[.agg #[.slice a N cap, .int .i64 i, .int .i64 fin, .int .i64 n, .int .i64 c, .int .i64 y]] w fun e w' => e = .returned (.bool (okR r)) ∧ Below w.heap.size w w' := by
  cases r with
  | error f =>
    obtain ⟨rfl, rfl, hc⟩ := h.bad f rfl
    have hb : (f.1 == 0) = false := by simpa using hc
    go_enter Tryz.func18, Tryz.ntmps18
    go_wp2
    go_ret
    exact ⟨rfl, below_box _⟩
  | ok S =>
    obtain ⟨rfl, rfl, rfl⟩ := h.good S rfl
    go_enter Tryz.func18, Tryz.ntmps18
    go_wp2
    go_ret
    exact ⟨rfl, below_box _⟩

theorem now_p (ts : List M.Tok) (fin : Int) (i n d : Nat) : (M.St.mk (ts.drop i) fin n d).now.p = if h : i < ts.length then ts[i].p else fin := by
  unfold M.St.now
  split
  · rename_i h
    rw [List.drop_eq_getElem_cons h]
    simp only [M.now1]
    split <;> rfl
  · rename_i h
    rw [List.drop_eq_nil_of_le (by omega)]; rfl

/-- a chain of changes at new blocks -/
theorem below_set {B : Nat} {a w : World} (h : Below B a w) {p : Addr} (hp : B ≤ p.block) (u : Value) : Below B a (w.setCell p u) := h.setCell hp u

set_option maxHeartbeats 800000 in
theorem rfail_any (a : Option Addr) (cap : Nat) (ts : List M.Tok) (fin : Int) (d : Nat) (r : RSt) (i n : Nat) (c y : Int) (w : World) (h : RS ts fin d r i n c y) (hT : TokAt w (.slice a ts.length cap) ts) (k : Int) (hk : ¬ k = 0) :
    Calls Tryz.prog 32 #[.agg #[.slice a ts.length cap, .int .i64 i, .int .i64 fin, .int .i64 n, .int .i64 c, .int .i64 y], .int .i64 k] w fun e w' => Below w.heap.size w w' ∧ ∃ c' y', e = .returned (.agg #[.slice a ts.length cap, .int .i64 i, .int .i64 fin, .int .i64 n, .int .i64 c', .int .i64 y']) ∧ RS ts fin d (failR r k) i n c' y' := by
  have hlen := hT.1
  have hi := h.lt
  cases hr : r with
  | error f =>
    subst hr
    obtain ⟨rfl, rfl, hc⟩ := h.bad f rfl
    go_enter Tryz.func32, Tryz.ntmps32
    go_wp2_with fail
    refine (rok_any _ _ _ _ _ _ _ _ _ _ _ _ h).mono ?_
    rintro e w1 ⟨rfl, hb⟩
    obtain ⟨hP, hQ, hz, hb1⟩ := two_new hb
    obtain ⟨x0, x1, x2, x3, x4, x5, xf⟩ := cells6 hP
    obtain ⟨y0, y1, y2, y3, y4, y5, yf⟩ := cells6 hQ
    simp only [okR]
    go_wp2_with fail
    refine bodyPost_ret (v := .agg #[.slice a ts.length cap, .int .i64 i, .int .i64 fin, .int .i64 n, .int .i64 f.1, .int .i64 f.2]) (by simp [results, Tryz.results32, go_sem, y0, y1, y2, y3, y4, y5]) rfl ⟨?_, _, _, rfl, h⟩
    refine Below.setCell (Below.setCell (Below.setCell (Below.setCell (Below.setCell (Below.setCell hb1 ?_ _) ?_ _) ?_ _) ?_ _) ?_ _) ?_ _
    all_goals simp
  | ok S =>
    subst hr
    obtain ⟨rfl, rfl, rfl⟩ := h.good S rfl
    have hp := now_p ts fin i n d
    by_cases hlt : i < ts.length
    · rw [dif_pos hlt] at hp
      have hF : RS ts fin d (failR (.ok ⟨ts.drop i, fin, n, d⟩) k) i n k ts[i].p := ⟨h.lt, h.lim, fun S e => (by cases e), fun f e => by
        simp only [failR, Except.error.injEq] at e; subst e; exact ⟨rfl, hp.symm, hk⟩⟩
      obtain ⟨u1, u2, av, cv, eq, u3⟩ := hT
      simp only [Value.slice.injEq] at eq
      obtain ⟨rfl, _, rfl⟩ := eq
      rcases u3 with u3 | ⟨b, o, rfl, hbl, hcell⟩
      · rw [u3] at hlt; simp at hlt
      have hp3 := (hcell i hlt).2.2
      have hii : (i : Int) < (ts.length : Int) := by omega
      clear hcell u2 hp
      go_enter Tryz.func32, Tryz.ntmps32
      go_wp2_with fail
      refine (rok_any _ _ _ _ _ _ _ _ _ _ _ _ h).mono ?_
      rintro e w1 ⟨rfl, hb⟩
      obtain ⟨hP, hQ, hz, hb1⟩ := two_new hb
      obtain ⟨x0, x1, x2, x3, x4, x5, xf⟩ := cells6 hP
      obtain ⟨y0, y1, y2, y3, y4, y5, yf⟩ := cells6 hQ
      have hp4 := (hb1.cell (p := ⟨b, o + i * 3 + 2, none⟩) hbl).trans hp3
      simp only [okR]
      go_wp2_with fail
      refine bodyPost_ret (v := .agg #[.slice (some ⟨b, o, none⟩) ts.length cap, .int .i64 i, .int .i64 fin, .int .i64 n, .int .i64 k, .int .i64 ts[i].p]) (by simp [results, Tryz.results32, go_sem, y0, y1, y2, y3, y4, y5]) rfl ⟨?_, _, _, rfl, hF⟩
      refine Below.setCell (Below.setCell (Below.setCell (Below.setCell (Below.setCell (Below.setCell (Below.setCell (Below.setCell hb1 ?_ _) ?_ _) ?_ _) ?_ _) ?_ _) ?_ _) ?_ _) ?_ _
      all_goals simp
    · rw [dif_neg hlt] at hp
      have hF : RS ts fin d (failR (.ok ⟨ts.drop i, fin, n, d⟩) k) i n k fin := ⟨h.lt, h.lim, fun S e => (by cases e), fun f e => by
        simp only [failR, Except.error.injEq] at e; subst e; exact ⟨rfl, hp.symm, hk⟩⟩
      have hii : ¬ (i : Int) < (ts.length : Int) := by omega
      clear hp
      go_enter Tryz.func32, Tryz.ntmps32
      go_wp2_with fail
      refine (rok_any _ _ _ _ _ _ _ _ _ _ _ _ h).mono ?_
      rintro e w1 ⟨rfl, hb⟩
      obtain ⟨hP, hQ, hz, hb1⟩ := two_new hb
      obtain ⟨x0, x1, x2, x3, x4, x5, xf⟩ := cells6 hP
      obtain ⟨y0, y1, y2, y3, y4, y5, yf⟩ := cells6 hQ
      simp only [okR]
      go_wp2_with fail
      refine bodyPost_ret (v := .agg #[.slice a ts.length cap, .int .i64 i, .int .i64 fin, .int .i64 n, .int .i64 k, .int .i64 fin]) (by simp [results, Tryz.results32, go_sem, y0, y1, y2, y3, y4, y5]) rfl ⟨?_, _, _, rfl, hF⟩
      refine Below.setCell (Below.setCell (Below.setCell (Below.setCell (Below.setCell (Below.setCell (Below.setCell (Below.setCell hb1 ?_ _) ?_ _) ?_ _) ?_ _) ?_ _) ?_ _) ?_ _) ?_ _
      all_goals simp

/-- at a text that no number is: the token's own text, if it may be -/
theorem at_eq (ts : List M.Tok) (fin : Int) (i n d : Nat) (t : ByteArray) (h : i < ts.length) (ht : t ≠ M.em) (hn : M.numB t.data.toList = false) :
    (M.St.mk (ts.drop i) fin n d).at t = (M.may1 ts[i] && (decide (ts[i].t = t) && (ts[i].k != 1))) := by
  have hnow : (M.St.mk (ts.drop i) fin n d).now = if M.may1 ts[i] = true then ts[i] else ⟨-1, M.em, ts[i].p⟩ := by
    unfold M.St.now
    rw [List.drop_eq_getElem_cons h]; rfl
  unfold M.St.at
  rw [hnow]
  by_cases hm : M.may1 ts[i] = true
  rotate_left
  · have hm' : M.may1 ts[i] = false := by simpa using hm
    rw [if_neg hm, hm']
    simp only [Bool.false_and]
    exact decide_eq_false fun e => ht e.symm
  · rw [if_pos hm, hm, Bool.true_and]
    by_cases e : ts[i].t = t
    · have hk : ¬ ts[i].k = 1 := by
        intro hk
        unfold M.may1 at hm
        rw [if_neg (by omega), if_pos hk, e, hn] at hm
        cases hm
      simp [e, hk]
    · simp [e]
theorem at_end (ts : List M.Tok) (fin : Int) (i n d : Nat) (t : ByteArray) (h : ¬ i < ts.length) (ht : t ≠ M.em) : (M.St.mk (ts.drop i) fin n d).at t = false := by
  unfold M.St.at M.St.now
  rw [List.drop_eq_nil_of_le (by omega)]
  simp only [M.now1]
  exact decide_eq_false fun e => ht e.symm

set_option maxRecDepth 4000 in
set_option maxHeartbeats 1600000 in
theorem ris_any (a : Option Addr) (cap : Nat) (ts : List M.Tok) (fin : Int) (d : Nat) (r : RSt) (i n : Nat) (c y : Int) (w : World) (h : RS ts fin d r i n c y) (hT : TokAt w (.slice a ts.length cap) ts) (t : ByteArray) (ht : t ≠ M.em) (hn : M.numB t.data.toList = false) :
    Calls Tryz.prog 33 #[.agg #[.slice a ts.length cap, .int .i64 i, .int .i64 fin, .int .i64 n, .int .i64 c, .int .i64 y], .string t] w fun e w' => e = .returned (.bool (isR r t)) ∧ Below w.heap.size w w' := by
  have hlen := hT.1
  have hi := h.lt
  cases hr : r with
  | error f =>
    subst hr
    obtain ⟨rfl, rfl, hc⟩ := h.bad f rfl
    go_enter Tryz.func33, Tryz.ntmps33
    go_wp2_with fail
    refine (rok_any _ _ _ _ _ _ _ _ _ _ _ _ h).mono ?_
    rintro e w1 ⟨rfl, hb⟩
    obtain ⟨hP, hz, hb1⟩ := one_new hb
    obtain ⟨x0, x1, x2, x3, x4, x5, xf⟩ := cells6 hP
    simp only [okR]
    go_wp2_with fail
    go_ret
    exact ⟨rfl, hb1⟩
  | ok S =>
    subst hr
    obtain ⟨rfl, rfl, rfl⟩ := h.good S rfl
    by_cases hlt : i < ts.length
    · have HA := hid (at_eq ts fin i n d t hlt ht hn)
      obtain ⟨u1, u2, av, cv, eq, u3⟩ := hT
      simp only [Value.slice.injEq] at eq
      obtain ⟨rfl, _, rfl⟩ := eq
      rcases u3 with u3 | ⟨b, o, rfl, hbl, hcell⟩
      · rw [u3] at hlt; simp at hlt
      obtain ⟨p1, p2, p3⟩ := hcell i hlt
      have hsz := u2 _ (List.getElem_mem hlt)
      have hii : (i : Int) < (ts.length : Int) := by omega
      clear hcell u2
      have RA : ∀ W, Calls Tryz.prog 55 #[.agg #[.int .i64 ts[i].k, .string ts[i].t, .int .i64 ts[i].p]] W fun e w' => e = .returned (.bool (M.may1 ts[i])) ∧ Below W.heap.size W w' := fun W => right_any ts[i] W hsz
      go_enter Tryz.func33, Tryz.ntmps33
      go_wp2_with fail
      refine (rok_any _ _ _ _ _ _ _ _ _ _ _ _ h).mono ?_
      rintro e w1 ⟨rfl, hb⟩
      obtain ⟨hP, hz, hb1⟩ := one_new hb
      obtain ⟨x0, x1, x2, x3, x4, x5, xf⟩ := cells6 hP
      have q1 := (hb1.cell (p := ⟨b, o + i * 3, none⟩) hbl).trans p1
      have q2 := (hb1.cell (p := ⟨b, o + i * 3 + 1, none⟩) hbl).trans p2
      have q3 := (hb1.cell (p := ⟨b, o + i * 3 + 2, none⟩) hbl).trans p3
      have hbl1 : b < w1.heap.size := by omega
      simp only [okR]
      go_wp2_with fail
      refine (RA _).mono ?_
      rintro e w2 ⟨rfl, hb2⟩
      have hz2 : w.heap.size < w2.heap.size := Nat.lt_of_lt_of_le hz hb2.size
      obtain ⟨z0, z1, z2, z3, z4, z5, zf⟩ := cells6 ((hb2.block _ hz).trans hP)
      have q4 := (hb2.cell (p := ⟨b, o + i * 3, none⟩) hbl1).trans q1
      have q5 := (hb2.cell (p := ⟨b, o + i * 3 + 1, none⟩) hbl1).trans q2
      have hb3 : Below w.heap.size w w2 := hb1.trans (hb2.mono hb1.size)
      clear p1 p2 p3 q1 q2 q3
      cases hm : M.may1 ts[i]
      · have HF : Hid (isR (.ok ⟨ts.drop i, fin, n, d⟩) t = false) := by unfold Hid; rw [isR, HA.out, hm]; rfl
        clear HA
        go_wp2_with fail
        go_ret
        exact ⟨ret_bool HF.out.symm, hb3⟩
      · have HF : Hid (isR (.ok ⟨ts.drop i, fin, n, d⟩) t = (decide (ts[i].t = t) && (ts[i].k != 1))) := by unfold Hid; rw [isR, HA.out, hm]; rfl
        clear HA
        by_cases he : ts[i].t = t
        · have hb : (ts[i].t.toList == t.toList) = true := by rw [he]; simp
          have HF2 : Hid (isR (.ok ⟨ts.drop i, fin, n, d⟩) t = (ts[i].k != 1)) := by unfold Hid; rw [HF.out, decide_eq_true he]; rfl
          clear HF he
          go_wp2_with fail
          go_ret
          exact ⟨ret_bool HF2.out.symm, hb3⟩
        · have hb : (ts[i].t.toList == t.toList) = false := by rw [beq_eq_false_iff_ne]; exact fun e => he (toList_inj.1 e)
          have HF2 : Hid (isR (.ok ⟨ts.drop i, fin, n, d⟩) t = false) := by unfold Hid; rw [HF.out, decide_eq_false he]; rfl
          clear HF he
          go_wp2_with fail
          go_ret
          exact ⟨ret_bool HF2.out.symm, hb3⟩
    · have HF : Hid (isR (.ok ⟨ts.drop i, fin, n, d⟩) t = false) := at_end ts fin i n d t hlt ht
      have hii : ¬ (i : Int) < (ts.length : Int) := by omega
      go_enter Tryz.func33, Tryz.ntmps33
      go_wp2_with fail
      refine (rok_any _ _ _ _ _ _ _ _ _ _ _ _ h).mono ?_
      rintro e w1 ⟨rfl, hb⟩
      obtain ⟨hP, hz, hb1⟩ := one_new hb
      obtain ⟨x0, x1, x2, x3, x4, x5, xf⟩ := cells6 hP
      simp only [okR]
      go_wp2_with fail
      go_ret
      exact ⟨ret_bool HF.out.symm, hb1⟩
end Go.Proofs.YtkonkdhoakcmdaaGreatDoor
