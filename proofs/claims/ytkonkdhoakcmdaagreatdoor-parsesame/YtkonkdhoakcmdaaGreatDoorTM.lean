/-
  The walks of the document's reader's first steps (proteanref02: ok, fail, is, need, Name, isName, name, operand). Conditions: the state's.
-/
import Derived.Test.YtkonkdhoakcmdaaGreatDoorT1
import Derived.Test.YtkonkdhoakcmdaaGreatDoorQ
set_option linter.unusedVariables false
namespace Go.Proofs.YtkonkdhoakcmdaaGreatDoor
open Go.RowKit

/-- a state of the document's reader: how it goes on, or its fault -/
abbrev RSt := Except M.Flt M.St
def okR (r : RSt) : Bool := match r with | .ok _ => true | .error _ => false
def isR (r : RSt) (t : ByteArray) : Bool := match r with | .ok S => S.at t | .error _ => false
def isNameR (r : RSt) : Bool := match r with | .ok S => S.isName | .error _ => false
def bindR {α : Type} (r : RSt) (f : M.St → M.Res α) : M.Res α := match r with | .ok S => f S | .error e => .error e
def stR {α : Type} (r : M.Res α) : RSt := match r with | .ok p => .ok p.1 | .error e => .error e
def failR (r : RSt) (c : Int) : RSt := match r with | .ok S => .error (c, S.now.p) | .error e => .error e
def needR (r : RSt) (t : ByteArray) : RSt := stR (bindR r fun S => M.take S t)

structure RS (ts : List M.Tok) (fin : Int) (d : Nat) (r : RSt) (i n : Nat) (c y : Int) : Prop where
  lt : i ≤ ts.length
  lim : n ≤ 2000
  good : ∀ S, r = .ok S → c = 0 ∧ y = 0 ∧ S = ⟨ts.drop i, fin, n, d⟩
  bad : ∀ f, r = .error f → c = f.1 ∧ y = f.2 ∧ ¬ f.1 = 0

theorem one_new {w w1 : World} {A : Obj} (hb : Below (w.alloc A).heap.size (w.alloc A) w1) : w1.heap[w.heap.size]? = some A ∧ w.heap.size < w1.heap.size ∧ Below w.heap.size w w1 := by
  have hz := hb.size
  simp only [World.size_alloc] at hz
  exact ⟨(hb.block _ (by simp)).trans (heap_alloc_new w A), by omega, ((Below.refl _ _).alloc (Nat.le_refl _) _).trans (hb.mono (by simp))⟩
theorem two_new {w w1 : World} {A B : Obj} (hb : Below ((w.alloc A).alloc B).heap.size ((w.alloc A).alloc B) w1) : w1.heap[w.heap.size]? = some A ∧ w1.heap[w.heap.size + 1]? = some B ∧ w.heap.size + 1 < w1.heap.size ∧ Below w.heap.size w w1 := by
  have hz := hb.size
  simp only [World.size_alloc] at hz
  have hN := heap_alloc_new (w.alloc A) B
  simp only [World.size_alloc] at hN
  exact ⟨(hb.block _ (by simp; omega)).trans ((Below.heap_alloc _ _ _ (by simp)).trans (heap_alloc_new w A)), (hb.block _ (by simp)).trans hN, by omega, (((Below.refl _ _).alloc (Nat.le_refl _) _).alloc (by simp) _).trans (hb.mono (by simp; omega))⟩

theorem below_two {w : World} (A B : Obj) : Below w.heap.size w ((w.alloc A).alloc B) := ((Below.refl _ _).alloc (Nat.le_refl _) _).alloc (by simp) _
/-- six cells in a block -/
theorem cells6 {w : World} {r : Nat} {T : TypeId} {v0 v1 v2 v3 v4 v5 : Value} (h : w.heap[r]? = some (.cells #[v0, v1, v2, v3, v4, v5] T (0, 0))) :
    w.cell? ⟨r, 0, none⟩ = some v0 ∧ w.cell? ⟨r, 1, none⟩ = some v1 ∧ w.cell? ⟨r, 2, none⟩ = some v2 ∧ w.cell? ⟨r, 3, none⟩ = some v3 ∧ w.cell? ⟨r, 4, none⟩ = some v4 ∧ w.cell? ⟨r, 5, none⟩ = some v5 ∧ (∀ i, w.frozen? ⟨r, i, none⟩ = false) := by
  refine ⟨?_, ?_, ?_, ?_, ?_, ?_, fun i => Lib.frozen_of_heap h i⟩
  all_goals (rw [Lib.cell_of_heap h]; rfl)

set_option maxHeartbeats 400000 in
theorem rok_any (a : Option Addr) (N cap : Nat) (ts : List M.Tok) (fin : Int) (d : Nat) (r : RSt) (i n : Nat) (c y : Int) (w : World) (h : RS ts fin d r i n c y) :
    Calls Tryz.prog 18 #[.agg #[.slice a N cap, .int .i64 i, .int .i64 fin, .int .i64 n, .int .i64 c, .int .i64 y]] w fun e w' => e = .returned (.bool (okR r)) ∧ Below w.heap.size w w' := by
  cases r with
  | error f =>
    obtain ⟨rfl, rfl, hc⟩ := h.bad f rfl
    have hb : (f.1 == 0) = false := by simpa using hc
    go_enter Tryz.func18, Tryz.ntmps18
    go_wp2
    go_ret
    exact ⟨rfl, below_box _⟩
  | ok S =>
    obtain ⟨rfl, rfl, rfl⟩ := h.good S rfl
    go_enter Tryz.func18, Tryz.ntmps18
    go_wp2
    go_ret
    exact ⟨rfl, below_box _⟩

theorem now_p (ts : List M.Tok) (fin : Int) (i n d : Nat) : (M.St.mk (ts.drop i) fin n d).now.p = if h : i < ts.length then ts[i].p else fin := by
  unfold M.St.now
  split
  · rename_i h
    rw [List.drop_eq_getElem_cons h]
    simp only [M.now1]
    split <;> rfl
  · rename_i h
    rw [List.drop_eq_nil_of_le (by omega)]; rfl

/-- a chain of changes at new blocks -/
theorem below_set {B : Nat} {a w : World} (h : Below B a w) {p : Addr} (hp : B ≤ p.block) (u : Value) : Below B a (w.setCell p u) := h.setCell hp u

set_option maxHeartbeats 800000 in
theorem rfail_any (a : Option Addr) (cap : Nat) (ts : List M.Tok) (fin : Int) (d : Nat) (r : RSt) (i n : Nat) (c y : Int) (w : World) (h : RS ts fin d r i n c y) (hT : TokAt w (.slice a ts.length cap) ts) (k : Int) (hk : ¬ k = 0) :
    Calls Tryz.prog 32 #[.agg #[.slice a ts.length cap, .int .i64 i, .int .i64 fin, .int .i64 n, .int .i64 c, .int .i64 y], .int .i64 k] w fun e w' => Below w.heap.size w w' ∧ ∃ c' y', e = .returned (.agg #[.slice a ts.length cap, .int .i64 i, .int .i64 fin, .int .i64 n, .int .i64 c', .int .i64 y']) ∧ RS ts fin d (failR r k) i n c' y' := by
  have hlen := hT.1
  have hi := h.lt
  cases hr : r with
  | error f =>
    subst hr
    obtain ⟨rfl, rfl, hc⟩ := h.bad f rfl
    go_enter Tryz.func32, Tryz.ntmps32
    go_wp2_with fail
    refine (rok_any _ _ _ _ _ _ _ _ _ _ _ _ h).mono ?_
    rintro e w1 ⟨rfl, hb⟩
    obtain ⟨hP, hQ, hz, hb1⟩ := two_new hb
    obtain ⟨x0, x1, x2, x3, x4, x5, xf⟩ := cells6 hP
    obtain ⟨y0, y1, y2, y3, y4, y5, yf⟩ := cells6 hQ
    simp only [okR]
    go_wp2_with fail
    refine bodyPost_ret (v := .agg #[.slice a ts.length cap, .int .i64 i, .int .i64 fin, .int .i64 n, .int .i64 f.1, .int .i64 f.2]) (by simp [results, Tryz.results32, go_sem, y0, y1, y2, y3, y4, y5]) rfl ⟨?_, _, _, rfl, h⟩
    refine Below.setCell (Below.setCell (Below.setCell (Below.setCell (Below.setCell (Below.setCell hb1 ?_ _) ?_ _) ?_ _) ?_ _) ?_ _) ?_ _
    all_goals simp
  | ok S =>
    subst hr
    obtain ⟨rfl, rfl, rfl⟩ := h.good S rfl
    have hp := now_p ts fin i n d
    by_cases hlt : i < ts.length
    · rw [dif_pos hlt] at hp
      have hF : RS ts fin d (failR (.ok ⟨ts.drop i, fin, n, d⟩) k) i n k ts[i].p := ⟨h.lt, h.lim, fun S e => (by cases e), fun f e => by
        simp only [failR, Except.error.injEq] at e; subst e; exact ⟨rfl, hp.symm, hk⟩⟩
      obtain ⟨u1, u2, av, cv, eq, u3⟩ := hT
      simp only [Value.slice.injEq] at eq
      obtain ⟨rfl, _, rfl⟩ := eq
      rcases u3 with u3 | ⟨b, o, rfl, hbl, hcell⟩
      · rw [u3] at hlt; simp at hlt
      have hp3 := (hcell i hlt).2.2
      have hii : (i : Int) < (ts.length : Int) := by omega
      clear hcell u2 hp
      go_enter Tryz.func32, Tryz.ntmps32
      go_wp2_with fail
      refine (rok_any _ _ _ _ _ _ _ _ _ _ _ _ h).mono ?_
      rintro e w1 ⟨rfl, hb⟩
      obtain ⟨hP, hQ, hz, hb1⟩ := two_new hb
      obtain ⟨x0, x1, x2, x3, x4, x5, xf⟩ := cells6 hP
      obtain ⟨y0, y1, y2, y3, y4, y5, yf⟩ := cells6 hQ
      have hp4 := (hb1.cell (p := ⟨b, o + i * 3 + 2, none⟩) hbl).trans hp3
      simp only [okR]
      go_wp2_with fail
      refine bodyPost_ret (v := .agg #[.slice (some ⟨b, o, none⟩) ts.length cap, .int .i64 i, .int .i64 fin, .int .i64 n, .int .i64 k, .int .i64 ts[i].p]) (by simp [results, Tryz.results32, go_sem, y0, y1, y2, y3, y4, y5]) rfl ⟨?_, _, _, rfl, hF⟩
      refine Below.setCell (Below.setCell (Below.setCell (Below.setCell (Below.setCell (Below.setCell (Below.setCell (Below.setCell hb1 ?_ _) ?_ _) ?_ _) ?_ _) ?_ _) ?_ _) ?_ _) ?_ _
      all_goals simp
    · rw [dif_neg hlt] at hp
      have hF : RS ts fin d (failR (.ok ⟨ts.drop i, fin, n, d⟩) k) i n k fin := ⟨h.lt, h.lim, fun S e => (by cases e), fun f e => by
        simp only [failR, Except.error.injEq] at e; subst e; exact ⟨rfl, hp.symm, hk⟩⟩
      have hii : ¬ (i : Int) < (ts.length : Int) := by omega
      clear hp
      go_enter Tryz.func32, Tryz.ntmps32
      go_wp2_with fail
      refine (rok_any _ _ _ _ _ _ _ _ _ _ _ _ h).mono ?_
      rintro e w1 ⟨rfl, hb⟩
      obtain ⟨hP, hQ, hz, hb1⟩ := two_new hb
      obtain ⟨x0, x1, x2, x3, x4, x5, xf⟩ := cells6 hP
      obtain ⟨y0, y1, y2, y3, y4, y5, yf⟩ := cells6 hQ
      simp only [okR]
      go_wp2_with fail
      refine bodyPost_ret (v := .agg #[.slice a ts.length cap, .int .i64 i, .int .i64 fin, .int .i64 n, .int .i64 k, .int .i64 fin]) (by simp [results, Tryz.results32, go_sem, y0, y1, y2, y3, y4, y5]) rfl ⟨?_, _, _, rfl, hF⟩
      refine Below.setCell (Below.setCell (Below.setCell (Below.setCell (Below.setCell (Below.setCell (Below.setCell (Below.setCell hb1 ?_ _) ?_ _) ?_ _) ?_ _) ?_ _) ?_ _) ?_ _) ?_ _
      all_goals simp

/-- at a text that no number is: the token's own text, if it may be -/
theorem at_eq (ts : List M.Tok) (fin : Int) (i n d : Nat) (t : ByteArray) (h : i < ts.length) (ht : t ≠ M.em) (hn : M.numB t.data.toList = false) :
    (M.St.mk (ts.drop i) fin n d).at t = (M.may1 ts[i] && (decide (ts[i].t = t) && (ts[i].k != 1))) := by
  have hnow : (M.St.mk (ts.drop i) fin n d).now = if M.may1 ts[i] = true then ts[i] else ⟨-1, M.em, ts[i].p⟩ := by
    unfold M.St.now
    rw [List.drop_eq_getElem_cons h]; rfl
  unfold M.St.at
  rw [hnow]
  by_cases hm : M.may1 ts[i] = true
  rotate_left
  · have hm' : M.may1 ts[i] = false := by simpa using hm
    rw [if_neg hm, hm']
    simp only [Bool.false_and]
    exact decide_eq_false fun e => ht e.symm
  · rw [if_pos hm, hm, Bool.true_and]
    by_cases e : ts[i].t = t
    · have hk : ¬ ts[i].k = 1 := by
        intro hk
        unfold M.may1 at hm
        rw [if_neg (by omega), if_pos hk, e, hn] at hm
        cases hm
      simp [e, hk]
    · simp [e]
theorem at_end (ts : List M.Tok) (fin : Int) (i n d : Nat) (t : ByteArray) (h : ¬ i < ts.length) (ht : t ≠ M.em) : (M.St.mk (ts.drop i) fin n d).at t = false := by
  unfold M.St.at M.St.now
  rw [List.drop_eq_nil_of_le (by omega)]
  simp only [M.now1]
  exact decide_eq_false fun e => ht e.symm

set_option maxRecDepth 4000 in
set_option maxHeartbeats 1600000 in
theorem ris_any (a : Option Addr) (cap : Nat) (ts : List M.Tok) (fin : Int) (d : Nat) (r : RSt) (i n : Nat) (c y : Int) (w : World) (h : RS ts fin d r i n c y) (hT : TokAt w (.slice a ts.length cap) ts) (t : ByteArray) (ht : t ≠ M.em) (hn : M.numB t.data.toList = false) :
    Calls Tryz.prog 33 #[.agg #[.slice a ts.length cap, .int .i64 i, .int .i64 fin, .int .i64 n, .int .i64 c, .int .i64 y], .string t] w fun e w' => e = .returned (.bool (isR r t)) ∧ Below w.heap.size w w' := by
  have hlen := hT.1
  have hi := h.lt
  cases hr : r with
  | error f =>
    subst hr
    obtain ⟨rfl, rfl, hc⟩ := h.bad f rfl
    go_enter Tryz.func33, Tryz.ntmps33
    go_wp2_with fail
    refine (rok_any _ _ _ _ _ _ _ _ _ _ _ _ h).mono ?_
    rintro e w1 ⟨rfl, hb⟩
    obtain ⟨hP, hz, hb1⟩ := one_new hb
    obtain ⟨x0, x1, x2, x3, x4, x5, xf⟩ := cells6 hP
    simp only [okR]
    go_wp2_with fail
    go_ret
    exact ⟨rfl, hb1⟩
  | ok S =>
    subst hr
    obtain ⟨rfl, rfl, rfl⟩ := h.good S rfl
    by_cases hlt : i < ts.length
    · have HA := hid (at_eq ts fin i n d t hlt ht hn)
      obtain ⟨u1, u2, av, cv, eq, u3⟩ := hT
      simp only [Value.slice.injEq] at eq
      obtain ⟨rfl, _, rfl⟩ := eq
      rcases u3 with u3 | ⟨b, o, rfl, hbl, hcell⟩
      · rw [u3] at hlt; simp at hlt
      obtain ⟨p1, p2, p3⟩ := hcell i hlt
      have hsz := u2 _ (List.getElem_mem hlt)
      have hii : (i : Int) < (ts.length : Int) := by omega
      clear hcell u2
      have RA : ∀ W, Calls Tryz.prog 55 #[.agg #[.int .i64 ts[i].k, .string ts[i].t, .int .i64 ts[i].p]] W fun e w' => e = .returned (.bool (M.may1 ts[i])) ∧ Below W.heap.size W w' := fun W => right_any ts[i] W hsz
      go_enter Tryz.func33, Tryz.ntmps33
      go_wp2_with fail
      refine (rok_any _ _ _ _ _ _ _ _ _ _ _ _ h).mono ?_
      rintro e w1 ⟨rfl, hb⟩
      obtain ⟨hP, hz, hb1⟩ := one_new hb
      obtain ⟨x0, x1, x2, x3, x4, x5, xf⟩ := cells6 hP
      have q1 := (hb1.cell (p := ⟨b, o + i * 3, none⟩) hbl).trans p1
      have q2 := (hb1.cell (p := ⟨b, o + i * 3 + 1, none⟩) hbl).trans p2
      have q3 := (hb1.cell (p := ⟨b, o + i * 3 + 2, none⟩) hbl).trans p3
      have hbl1 : b < w1.heap.size := by omega
      simp only [okR]
      go_wp2_with fail
      refine (RA _).mono ?_
      rintro e w2 ⟨rfl, hb2⟩
      have hz2 : w.heap.size < w2.heap.size := Nat.lt_of_lt_of_le hz hb2.size
      obtain ⟨z0, z1, z2, z3, z4, z5, zf⟩ := cells6 ((hb2.block _ hz).trans hP)
      have q4 := (hb2.cell (p := ⟨b, o + i * 3, none⟩) hbl1).trans q1
      have q5 := (hb2.cell (p := ⟨b, o + i * 3 + 1, none⟩) hbl1).trans q2
      have hb3 : Below w.heap.size w w2 := hb1.trans (hb2.mono hb1.size)
      clear p1 p2 p3 q1 q2 q3
      cases hm : M.may1 ts[i]
      · have HF : Hid (isR (.ok ⟨ts.drop i, fin, n, d⟩) t = false) := by unfold Hid; rw [isR, HA.out, hm]; rfl
        clear HA
        go_wp2_with fail
        go_ret
        exact ⟨ret_bool HF.out.symm, hb3⟩
      · have HF : Hid (isR (.ok ⟨ts.drop i, fin, n, d⟩) t = (decide (ts[i].t = t) && (ts[i].k != 1))) := by unfold Hid; rw [isR, HA.out, hm]; rfl
        clear HA
        by_cases he : ts[i].t = t
        · have hb : (ts[i].t.toList == t.toList) = true := by rw [he]; simp
          have HF2 : Hid (isR (.ok ⟨ts.drop i, fin, n, d⟩) t = (ts[i].k != 1)) := by unfold Hid; rw [HF.out, decide_eq_true he]; rfl
          clear HF he
          go_wp2_with fail
          go_ret
          exact ⟨ret_bool HF2.out.symm, hb3⟩
        · have hb : (ts[i].t.toList == t.toList) = false := by rw [beq_eq_false_iff_ne]; exact fun e => he (toList_inj.1 e)
          have HF2 : Hid (isR (.ok ⟨ts.drop i, fin, n, d⟩) t = false) := by unfold Hid; rw [HF.out, decide_eq_false he]; rfl
          clear HF he
          go_wp2_with fail
          go_ret
          exact ⟨ret_bool HF2.out.symm, hb3⟩
    · have HF : Hid (isR (.ok ⟨ts.drop i, fin, n, d⟩) t = false) := at_end ts fin i n d t hlt ht
      have hii : ¬ (i : Int) < (ts.length : Int) := by omega
      go_enter Tryz.func33, Tryz.ntmps33
      go_wp2_with fail
      refine (rok_any _ _ _ _ _ _ _ _ _ _ _ _ h).mono ?_
      rintro e w1 ⟨rfl, hb⟩
      obtain ⟨hP, hz, hb1⟩ := one_new hb
      obtain ⟨x0, x1, x2, x3, x4, x5, xf⟩ := cells6 hP
      simp only [okR]
      go_wp2_with fail
      go_ret
      exact ⟨ret_bool HF.out.symm, hb1⟩
end Go.Proofs.YtkonkdhoakcmdaaGreatDoor

set_option linter.unusedVariables false
set_option linter.unusedSimpArgs false
namespace Go.Proofs.YtkonkdhoakcmdaaGreatDoor
open Go.RowKit

theorem needR_no {r : RSt} {t : ByteArray} (h : isR r t = false) : needR r t = failR r 20 := by
  cases r with
  | error f => rfl
  | ok S =>
    have h' : ¬ S.at t = true := by simpa [isR] using h
    simp only [needR, bindR, M.take, if_neg h']; rfl
theorem needR_yes {S : M.St} {t : ByteArray} (h : isR (.ok S) t = true) : needR (.ok S) t = .ok S.adv := by
  have h' : S.at t = true := h
  simp only [needR, bindR, M.take, if_pos h']; rfl
theorem isR_ok {r : RSt} {t : ByteArray} (h : isR r t = true) : ∃ S, r = .ok S := by
  cases r with
  | error f => cases h
  | ok S => exact ⟨S, rfl⟩
theorem isNameR_ok {r : RSt} (h : isNameR r = true) : ∃ S, r = .ok S := by
  cases r with
  | error f => cases h
  | ok S => exact ⟨S, rfl⟩
theorem adv_mk (ts : List M.Tok) (fin : Int) (i n d : Nat) : (M.St.mk (ts.drop i) fin n d).adv = ⟨ts.drop (i + 1), fin, n, d⟩ := by
  simp [M.St.adv, List.tail_drop]
theorem rest_lt {ts : List M.Tok} {fin : Int} {i n d : Nat} (h : (M.St.mk (ts.drop i) fin n d).rest ≠ []) : i < ts.length := by
  rcases Nat.lt_or_ge i ts.length with h1 | h1
  · exact h1
  · exact absurd (List.drop_eq_nil_of_le h1) h
theorem RS.step {ts : List M.Tok} {fin : Int} {d : Nat} {i n : Nat} {c y : Int} {S : M.St} (h : RS ts fin d (.ok S) i n c y) (hne : S.rest ≠ []) : c = 0 ∧ y = 0 ∧ i < ts.length ∧ RS ts fin d (.ok S.adv) (i + 1) n 0 0 := by
  obtain ⟨rfl, rfl, rfl⟩ := h.good S rfl
  have hlt := rest_lt hne
  exact ⟨rfl, rfl, hlt, hlt, h.lim, fun S e => ⟨rfl, rfl, by cases e; exact adv_mk _ _ _ _ _⟩, fun f e => by cases e⟩

set_option maxHeartbeats 800000 in
theorem rneed_any (a : Option Addr) (cap : Nat) (ts : List M.Tok) (fin : Int) (d : Nat) (r : RSt) (i n : Nat) (c y : Int) (w : World) (h : RS ts fin d r i n c y) (hT : TokAt w (.slice a ts.length cap) ts) (t : ByteArray) (ht : t ≠ M.em) (hn : M.numB t.data.toList = false) :
    Calls Tryz.prog 20 #[.agg #[.slice a ts.length cap, .int .i64 i, .int .i64 fin, .int .i64 n, .int .i64 c, .int .i64 y], .string t] w fun e w' => Below w.heap.size w w' ∧ ∃ (i' : Nat) (c' y' : Int), e = .returned (.agg #[.slice a ts.length cap, .int .i64 i', .int .i64 fin, .int .i64 n, .int .i64 c', .int .i64 y']) ∧ RS ts fin d (needR r t) i' n c' y' := by
  have hlen := hT.1
  have hi := h.lt
  cases hr : isR r t
  · have HN := hid (needR_no hr)
    go_enter Tryz.func20, Tryz.ntmps20
    go_wp2_with fail
    refine (ris_any _ _ _ _ _ _ _ _ _ _ _ h (hT.keep (below_two _ _)) t ht hn).mono ?_
    rintro e w1 ⟨rfl, hb⟩
    obtain ⟨hP, hQ, hz, hb1⟩ := two_new hb
    obtain ⟨x0, x1, x2, x3, x4, x5, xf⟩ := cells6 hP
    go_wp2_with fail
    refine (rfail_any _ _ _ _ _ _ _ _ _ _ _ h (hT.keep hb1) 20 (by decide)).mono ?_
    rintro e w2 ⟨hb2, c', y', rfl, hF⟩
    have hQ2 := (hb2.block _ hz).trans hQ
    obtain ⟨y0, y1, y2, y3, y4, y5, yf⟩ := cells6 hQ2
    have hb3 := hb1.trans (hb2.mono hb1.size)
    go_wp2_with fail
    refine bodyPost_ret (v := .agg #[.slice a ts.length cap, .int .i64 i, .int .i64 fin, .int .i64 n, .int .i64 c', .int .i64 y']) (by simp [results, Tryz.results20, go_sem, y0, y1, y2, y3, y4, y5]) rfl ⟨?_, _, _, _, rfl, by rw [HN.out]; exact hF⟩
    refine Below.setCell (Below.setCell (Below.setCell (Below.setCell (Below.setCell (Below.setCell hb3 ?_ _) ?_ _) ?_ _) ?_ _) ?_ _) ?_ _
    all_goals simp
  · obtain ⟨S, rfl⟩ := isR_ok hr
    have HN := hid (needR_yes hr)
    obtain ⟨rfl, rfl, hlt, hS⟩ := h.step (M.at_ne (show S.at t = true from hr) ht)
    have HS : Hid (RS ts fin d (.ok S.adv) (i + 1) n 0 0) := hS
    clear hS
    go_enter Tryz.func20, Tryz.ntmps20
    go_wp2_with fail
    refine (ris_any _ _ _ _ _ _ _ _ _ _ _ h (hT.keep (below_two _ _)) t ht hn).mono ?_
    rintro e w1 ⟨rfl, hb⟩
    obtain ⟨hP, hQ, hz, hb1⟩ := two_new hb
    obtain ⟨x0, x1, x2, x3, x4, x5, xf⟩ := cells6 hP
    obtain ⟨y0, y1, y2, y3, y4, y5, yf⟩ := cells6 hQ
    rw [hr]
    go_wp2_with fail
    refine bodyPost_ret (v := .agg #[.slice a ts.length cap, .int .i64 ((i + 1 : Nat) : Int), .int .i64 fin, .int .i64 n, .int .i64 0, .int .i64 0]) (by simp [results, Tryz.results20, go_sem, y0, y1, y2, y3, y4, y5]) rfl ⟨?_, _, _, _, rfl, by rw [HN.out]; exact HS.out⟩
    refine Below.setCell (Below.setCell (Below.setCell (Below.setCell (Below.setCell (Below.setCell (Below.setCell hb1 ?_ _) ?_ _) ?_ _) ?_ _) ?_ _) ?_ _) ?_ _
    all_goals simp

set_option maxHeartbeats 400000 in
theorem rName_any (s : ByteArray) (w : World) (hs : s.size ≤ maxLen) :
    Calls Tryz.prog 54 #[.string s] w fun e w' => e = .returned (.bool (M.may1 ⟨0, s, 0⟩ && !M.kw s)) ∧ Below w.heap.size w w' := by
  have RA : ∀ W, Calls Tryz.prog 55 #[.agg #[.int .i64 0, .string s, .int .i64 0]] W fun e w' => e = .returned (.bool (M.may1 ⟨0, s, 0⟩)) ∧ Below W.heap.size W w' := fun W => right_any ⟨0, s, 0⟩ W hs
  cases hm : M.may1 ⟨0, s, 0⟩
  · go_enter Tryz.func54, Tryz.ntmps54
    go_wp2_with fail
    refine (RA _).mono ?_
    rintro e w1 ⟨rfl, hb⟩
    rw [hm]
    go_wp2_with fail
    go_ret
    exact ⟨rfl, hb⟩
  · go_enter Tryz.func54, Tryz.ntmps54
    go_wp2_with fail
    refine (RA _).mono ?_
    rintro e w1 ⟨rfl, hb⟩
    rw [hm]
    go_wp2_with fail
    refine (rKeyword_any _ _).mono ?_
    rintro e w2 ⟨rfl, hb2⟩
    go_wp2_with fail
    go_ret
    exact ⟨rfl, hb.trans (hb2.mono hb.size)⟩
end Go.Proofs.YtkonkdhoakcmdaaGreatDoor

set_option linter.unusedVariables false
set_option linter.unusedSimpArgs false
namespace Go.Proofs.YtkonkdhoakcmdaaGreatDoor
open Go.RowKit

theorem now_at (ts : List M.Tok) (fin : Int) (i n d : Nat) (h : i < ts.length) : (M.St.mk (ts.drop i) fin n d).now = if M.may1 ts[i] = true then ts[i] else ⟨-1, M.em, ts[i].p⟩ := by
  unfold M.St.now
  rw [List.drop_eq_getElem_cons h]; rfl
theorem isName_eq (ts : List M.Tok) (fin : Int) (i n d : Nat) (h : i < ts.length) :
    (M.St.mk (ts.drop i) fin n d).isName = ((ts[i].k == 0) && (M.may1 ⟨0, ts[i].t, 0⟩ && !M.kw ts[i].t)) := by
  unfold M.St.isName
  rw [now_at _ _ _ _ _ h]
  by_cases hk : ts[i].k = 0
  · have e : M.may1 ts[i] = M.may1 ⟨0, ts[i].t, 0⟩ := by unfold M.may1; rw [if_pos hk]; rfl
    by_cases hm : M.may1 ts[i] = true
    · rw [if_pos hm, ← e, hm, hk]; simp
    · have hm' : M.may1 ts[i] = false := by simpa using hm
      rw [if_neg hm, ← e, hm']; simp
  · have hb : (ts[i].k == 0) = false := by simpa using hk
    rw [hb]
    by_cases hm : M.may1 ts[i] = true
    · rw [if_pos hm]; simp [hk]
    · rw [if_neg hm]; simp
theorem isName_end (ts : List M.Tok) (fin : Int) (i n d : Nat) (h : ¬ i < ts.length) : (M.St.mk (ts.drop i) fin n d).isName = false := by
  unfold M.St.isName M.St.now
  rw [List.drop_eq_nil_of_le (by omega)]
  simp [M.now1]

set_option maxRecDepth 4000 in
set_option maxHeartbeats 1600000 in
theorem risName_any (a : Option Addr) (cap : Nat) (ts : List M.Tok) (fin : Int) (d : Nat) (r : RSt) (i n : Nat) (c y : Int) (w : World) (h : RS ts fin d r i n c y) (hT : TokAt w (.slice a ts.length cap) ts) :
    Calls Tryz.prog 31 #[.agg #[.slice a ts.length cap, .int .i64 i, .int .i64 fin, .int .i64 n, .int .i64 c, .int .i64 y]] w fun e w' => e = .returned (.bool (isNameR r)) ∧ Below w.heap.size w w' := by
  have hlen := hT.1
  have hi := h.lt
  cases hr : r with
  | error f =>
    subst hr
    obtain ⟨rfl, rfl, hc⟩ := h.bad f rfl
    go_enter Tryz.func31, Tryz.ntmps31
    go_wp2_with fail
    refine (rok_any _ _ _ _ _ _ _ _ _ _ _ _ h).mono ?_
    rintro e w1 ⟨rfl, hb⟩
    obtain ⟨hP, hz, hb1⟩ := one_new hb
    obtain ⟨x0, x1, x2, x3, x4, x5, xf⟩ := cells6 hP
    simp only [okR]
    go_wp2_with fail
    go_ret
    exact ⟨rfl, hb1⟩
  | ok S =>
    subst hr
    obtain ⟨rfl, rfl, rfl⟩ := h.good S rfl
    by_cases hlt : i < ts.length
    · have HA := hid (isName_eq ts fin i n d hlt)
      obtain ⟨u1, u2, av, cv, eq, u3⟩ := hT
      simp only [Value.slice.injEq] at eq
      obtain ⟨rfl, _, rfl⟩ := eq
      rcases u3 with u3 | ⟨b, o, rfl, hbl, hcell⟩
      · rw [u3] at hlt; simp at hlt
      obtain ⟨p1, p2, p3⟩ := hcell i hlt
      have hsz := u2 _ (List.getElem_mem hlt)
      have hii : (i : Int) < (ts.length : Int) := by omega
      clear hcell u2
      cases hk : (ts[i].k == 0)
      · have HF : Hid (isNameR (.ok ⟨ts.drop i, fin, n, d⟩) = false) := by unfold Hid; rw [isNameR, HA.out, hk]; rfl
        clear HA
        go_enter Tryz.func31, Tryz.ntmps31
        go_wp2_with fail
        refine (rok_any _ _ _ _ _ _ _ _ _ _ _ _ h).mono ?_
        rintro e w1 ⟨rfl, hb⟩
        obtain ⟨hP, hz, hb1⟩ := one_new hb
        obtain ⟨x0, x1, x2, x3, x4, x5, xf⟩ := cells6 hP
        have q1 := (hb1.cell (p := ⟨b, o + i * 3, none⟩) hbl).trans p1
        simp only [okR]
        go_wp2_with fail
        go_ret
        exact ⟨ret_bool HF.out.symm, hb1⟩
      · have HF : Hid (isNameR (.ok ⟨ts.drop i, fin, n, d⟩) = (M.may1 ⟨0, ts[i].t, 0⟩ && !M.kw ts[i].t)) := by unfold Hid; rw [isNameR, HA.out, hk]; rfl
        clear HA
        go_enter Tryz.func31, Tryz.ntmps31
        go_wp2_with fail
        refine (rok_any _ _ _ _ _ _ _ _ _ _ _ _ h).mono ?_
        rintro e w1 ⟨rfl, hb⟩
        obtain ⟨hP, hz, hb1⟩ := one_new hb
        obtain ⟨x0, x1, x2, x3, x4, x5, xf⟩ := cells6 hP
        have q1 := (hb1.cell (p := ⟨b, o + i * 3, none⟩) hbl).trans p1
        have q2 := (hb1.cell (p := ⟨b, o + i * 3 + 1, none⟩) hbl).trans p2
        simp only [okR]
        go_wp2_with fail
        refine (rName_any _ _ hsz).mono ?_
        rintro e w2 ⟨rfl, hb2⟩
        go_wp2_with fail
        go_ret
        exact ⟨ret_bool HF.out.symm, hb1.trans (hb2.mono hb1.size)⟩
    · have HF : Hid (isNameR (.ok ⟨ts.drop i, fin, n, d⟩) = false) := isName_end ts fin i n d hlt
      have hii : ¬ (i : Int) < (ts.length : Int) := by omega
      go_enter Tryz.func31, Tryz.ntmps31
      go_wp2_with fail
      refine (rok_any _ _ _ _ _ _ _ _ _ _ _ _ h).mono ?_
      rintro e w1 ⟨rfl, hb⟩
      obtain ⟨hP, hz, hb1⟩ := one_new hb
      obtain ⟨x0, x1, x2, x3, x4, x5, xf⟩ := cells6 hP
      simp only [okR]
      go_wp2_with fail
      go_ret
      exact ⟨ret_bool HF.out.symm, hb1⟩

/-- the reader's name -/
def nameR (r : RSt) : M.Res ByteArray := bindR r M.name
theorem nameR_no {r : RSt} (h : isNameR r = false) : stR (nameR r) = failR r 20 ∧ ∀ S a, ¬ nameR r = .ok (S, a) := by
  cases r with
  | error f => exact ⟨rfl, fun S a e => by cases e⟩
  | ok S =>
    have h' : ¬ S.isName = true := by simpa [isNameR] using h
    simp only [nameR, bindR, M.name, if_neg h']
    exact ⟨rfl, fun S a e => by cases e⟩
theorem nameR_yes {S : M.St} (h : isNameR (.ok S) = true) : nameR (.ok S) = .ok (S.adv, S.now.t) := by
  have h' : S.isName = true := h
  simp only [nameR, bindR, M.name, if_pos h']
theorem now_t_name (ts : List M.Tok) (fin : Int) (i n d : Nat) (h : i < ts.length) (hn : (M.St.mk (ts.drop i) fin n d).isName = true) : (M.St.mk (ts.drop i) fin n d).now.t = ts[i].t := by
  unfold M.St.isName at hn
  rw [now_at _ _ _ _ _ h] at hn ⊢
  by_cases hm : M.may1 ts[i] = true
  · rw [if_pos hm]
  · rw [if_neg hm] at hn; simp at hn

set_option maxRecDepth 4000 in
set_option maxHeartbeats 1600000 in
theorem rname_any (a : Option Addr) (cap : Nat) (ts : List M.Tok) (fin : Int) (d : Nat) (r : RSt) (i n : Nat) (c y : Int) (w : World) (h : RS ts fin d r i n c y) (hT : TokAt w (.slice a ts.length cap) ts) :
    Calls Tryz.prog 19 #[.agg #[.slice a ts.length cap, .int .i64 i, .int .i64 fin, .int .i64 n, .int .i64 c, .int .i64 y]] w fun e w' => Below w.heap.size w w' ∧ ∃ (i' : Nat) (c' y' : Int) (s : ByteArray), e = .returned (.tuple #[.agg #[.slice a ts.length cap, .int .i64 i', .int .i64 fin, .int .i64 n, .int .i64 c', .int .i64 y'], .string s]) ∧ RS ts fin d (stR (nameR r)) i' n c' y' ∧ ∀ S x, nameR r = .ok (S, x) → s = x := by
  have hlen := hT.1
  have hi := h.lt
  cases hr : isNameR r
  · have HN := hid (nameR_no hr)
    go_enter Tryz.func19, Tryz.ntmps19
    go_wp2_with fail
    refine (risName_any _ _ _ _ _ _ _ _ _ _ _ h (hT.keep (below_two _ _))).mono ?_
    rintro e w1 ⟨rfl, hb⟩
    obtain ⟨hP, hQ, hz, hb1⟩ := two_new hb
    obtain ⟨x0, x1, x2, x3, x4, x5, xf⟩ := cells6 hP
    rw [hr]
    go_wp2_with fail
    refine (rfail_any _ _ _ _ _ _ _ _ _ _ _ h (hT.keep hb1) 20 (by decide)).mono ?_
    rintro e w2 ⟨hb2, c', y', rfl, hF⟩
    have hQ2 := (hb2.block _ hz).trans hQ
    obtain ⟨y0, y1, y2, y3, y4, y5, yf⟩ := cells6 hQ2
    have hb3 := hb1.trans (hb2.mono hb1.size)
    go_wp2_with fail
    refine bodyPost_ret (v := .tuple #[.agg #[.slice a ts.length cap, .int .i64 i, .int .i64 fin, .int .i64 n, .int .i64 c', .int .i64 y'], .string M.em]) (by simp [results, Tryz.results19, go_sem, y0, y1, y2, y3, y4, y5, M.em]) rfl ⟨?_, _, _, _, _, rfl, by rw [HN.out.1]; exact hF, fun S x e => absurd e (HN.out.2 S x)⟩
    refine Below.setCell (Below.setCell (Below.setCell (Below.setCell (Below.setCell (Below.setCell hb3 ?_ _) ?_ _) ?_ _) ?_ _) ?_ _) ?_ _
    all_goals simp
  · obtain ⟨S, rfl⟩ := isNameR_ok hr
    obtain ⟨rfl, rfl, hlt, hS⟩ := h.step (M.isName_ne (show S.isName = true from hr))
    obtain ⟨_, _, rfl⟩ := h.good S rfl
    have HN : Hid (nameR (.ok ⟨ts.drop i, fin, n, d⟩) = .ok ((M.St.mk (ts.drop i) fin n d).adv, ts[i].t)) := by
      unfold Hid; rw [nameR_yes hr, now_t_name _ _ _ _ _ hlt hr]
    have HS := hid hS
    clear hS
    obtain ⟨u1, u2, av, cv, eq, u3⟩ := hT
    simp only [Value.slice.injEq] at eq
    obtain ⟨rfl, _, rfl⟩ := eq
    rcases u3 with u3 | ⟨b, o, rfl, hbl, hcell⟩
    · rw [u3] at hlt; simp at hlt
    have hT : TokAt w (.slice (some ⟨b, o, none⟩) ts.length cap) ts := ⟨u1, u2, _, _, rfl, .inr ⟨b, o, rfl, hbl, hcell⟩⟩
    obtain ⟨p1, p2, p3⟩ := hcell i hlt
    have hii : (i : Int) < (ts.length : Int) := by omega
    clear hcell u2
    go_enter Tryz.func19, Tryz.ntmps19
    go_wp2_with fail
    refine (risName_any _ _ _ _ _ _ _ _ _ _ _ h (hT.keep (below_two _ _))).mono ?_
    rintro e w1 ⟨rfl, hb⟩
    obtain ⟨hP, hQ, hz, hb1⟩ := two_new hb
    obtain ⟨x0, x1, x2, x3, x4, x5, xf⟩ := cells6 hP
    obtain ⟨y0, y1, y2, y3, y4, y5, yf⟩ := cells6 hQ
    have q2 := (hb1.cell (p := ⟨b, o + i * 3 + 1, none⟩) hbl).trans p2
    have hbl1 : b < w1.heap.size := by omega
    rw [hr]
    go_wp2_with fail
    go_region
    all_goals
      go_wp2_with fail
      refine bodyPost_ret (v := .tuple #[.agg #[.slice (some ⟨b, o, none⟩) ts.length cap, .int .i64 ((i + 1 : Nat) : Int), .int .i64 fin, .int .i64 n, .int .i64 0, .int .i64 0], .string ts[i].t]) (by simp [results, Tryz.results19, go_sem, y0, y1, y2, y3, y4, y5]) rfl ⟨?_, _, _, _, _, rfl, by rw [HN.out]; exact HS.out, fun S x e => by rw [HN.out] at e; cases e; rfl⟩
      repeat (first | with_reducible exact hb1 | with_reducible refine Below.setCell ?_ (by simp) _ | with_reducible refine Below.drew ?_)
end Go.Proofs.YtkonkdhoakcmdaaGreatDoor

set_option linter.unusedVariables false
set_option linter.unusedSimpArgs false
namespace Go.Proofs.YtkonkdhoakcmdaaGreatDoor
open Go.RowKit

/-- a block that stays -/
theorem kept {W W' : World} {g : Nat} {o : Obj} (hb : Below W.heap.size W W') (h : W.heap[g]? = some o) : W'.heap[g]? = some o := (hb.block g (Array.getElem?_eq_some_iff.1 h).1).trans h
theorem kset {W : World} {g : Nat} {o : Obj} (h : W.heap[g]? = some o) {p : Addr} (hne : g ≠ p.block) (u : Value) : (W.setCell p u).heap[g]? = some o := (Below.heap_setCell _ _ _ _ hne).trans h
theorem hlt_ {W : World} {g : Nat} {o : Obj} (h : W.heap[g]? = some o) : g < W.heap.size := (Array.getElem?_eq_some_iff.1 h).1
theorem three_new {w w1 : World} {A B C : Obj} (hb : Below (((w.alloc A).alloc B).alloc C).heap.size (((w.alloc A).alloc B).alloc C) w1) : w1.heap[w.heap.size]? = some A ∧ w1.heap[w.heap.size + 1]? = some B ∧ w1.heap[w.heap.size + 2]? = some C ∧ Below w.heap.size w w1 := by
  have hN := heap_alloc_new (w.alloc A) B
  simp only [World.size_alloc] at hN
  have hM := heap_alloc_new ((w.alloc A).alloc B) C
  simp only [World.size_alloc] at hM
  have h0 : ((w.alloc A).alloc B).heap[w.heap.size]? = some A := (Below.heap_alloc _ _ _ (by simp)).trans (heap_alloc_new w A)
  refine ⟨kept hb ((Below.heap_alloc _ _ _ (by simp; omega)).trans h0), kept hb ((Below.heap_alloc _ _ _ (by simp)).trans hN), kept hb hM, ?_⟩
  exact ((((Below.refl _ _).alloc (Nat.le_refl _) _).alloc (by simp) _).alloc (by simp; omega) _).trans (hb.mono (by simp; omega))
theorem below_three {w : World} (A B C : Obj) : Below w.heap.size w (((w.alloc A).alloc B).alloc C) := (((Below.refl _ _).alloc (Nat.le_refl _) _).alloc (by simp) _).alloc (by simp; omega) _
theorem tcells3 {w : World} {r : Nat} {T : TypeId} {v0 v1 v2 : Value} (h : w.heap[r]? = some (.cells #[v0, v1, v2] T (0, 0))) :
    w.cell? ⟨r, 0, none⟩ = some v0 ∧ w.cell? ⟨r, 1, none⟩ = some v1 ∧ w.cell? ⟨r, 2, none⟩ = some v2 ∧ (∀ i, w.frozen? ⟨r, i, none⟩ = false) := by
  refine ⟨?_, ?_, ?_, fun i => Lib.frozen_of_heap h i⟩
  all_goals (rw [Lib.cell_of_heap h]; rfl)

/-- the reader's operand -/
def operandR (r : RSt) : M.Res M.Opd := bindR r M.operand
theorem opR_null {S : M.St} (h : S.at M.kNull = true) : operandR (.ok S) = .ok (S.adv, ⟨0, 0, M.em⟩) := by simp [operandR, bindR, M.operand, h]
theorem opR_true {S : M.St} (h0 : S.at M.kNull = false) (h : S.at M.kTrue = true) : operandR (.ok S) = .ok (S.adv, ⟨1, 1, M.em⟩) := by simp [operandR, bindR, M.operand, h, h0]
theorem opR_false {S : M.St} (h0 : S.at M.kNull = false) (h1 : S.at M.kTrue = false) (h : S.at M.kFalse = true) : operandR (.ok S) = .ok (S.adv, ⟨1, 0, M.em⟩) := by simp [operandR, bindR, M.operand, h, h0, h1]
theorem opR_amp {S : M.St} (h0 : S.at M.kNull = false) (h1 : S.at M.kTrue = false) (h2 : S.at M.kFalse = false) (h : S.at (M.ch 38) = true) :
    stR (operandR (.ok S)) = stR (nameR (.ok S.adv)) ∧ ∀ S' x, operandR (.ok S) = .ok (S', x) → ∃ s, nameR (.ok S.adv) = .ok (S', s) ∧ x = ⟨3, 0, s⟩ := by
  simp only [operandR, bindR, M.operand, h, h0, h1, h2, nameR]
  cases M.name S.adv with
  | error e => exact ⟨rfl, fun S' x e => by cases e⟩
  | ok p => exact ⟨rfl, fun S' x e => by cases e; exact ⟨_, rfl, rfl⟩⟩
theorem opR_num {S : M.St} (h0 : S.at M.kNull = false) (h1 : S.at M.kTrue = false) (h2 : S.at M.kFalse = false) (h3 : S.at (M.ch 38) = false) (h : S.now.k = 1) :
    operandR (.ok S) = .ok (S.adv, ⟨2, M.numV S.now.t.data.toList, M.em⟩) := by simp [operandR, bindR, M.operand, h, h0, h1, h2, h3]
theorem opR_var {r : RSt} (h0 : isR r M.kNull = false) (h1 : isR r M.kTrue = false) (h2 : isR r M.kFalse = false) (h3 : isR r (M.ch 38) = false) (h : ∀ S, r = .ok S → ¬ S.now.k = 1) :
    stR (operandR r) = stR (nameR r) ∧ ∀ S' x, operandR r = .ok (S', x) → ∃ s, nameR r = .ok (S', s) ∧ x = ⟨4, 0, s⟩ := by
  cases r with
  | error f => exact ⟨rfl, fun S' x e => by cases e⟩
  | ok S =>
    have h4 := h S rfl
    simp only [isR] at h0 h1 h2 h3
    simp only [operandR, bindR, M.operand, if_neg h4, h0, h1, h2, h3, nameR]
    cases M.name S with
    | error e => exact ⟨rfl, fun S' x e => by cases e⟩
    | ok p => exact ⟨rfl, fun S' x e => by cases e; exact ⟨_, rfl, rfl⟩⟩
/-- the text at which it is -/
theorem at_text {ts : List M.Tok} {fin : Int} {i n d : Nat} {t : ByteArray} (h : i < ts.length) (ht : t ≠ M.em) (ha : (M.St.mk (ts.drop i) fin n d).at t = true) : ts[i].t = t := by
  unfold M.St.at at ha
  have e := of_decide_eq_true ha
  rw [now_at _ _ _ _ _ h] at e
  by_cases hm : M.may1 ts[i] = true
  · rw [if_pos hm] at e; exact e
  · rw [if_neg hm] at e; exact absurd e.symm ht

set_option maxRecDepth 4000 in
set_option maxHeartbeats 3200000 in
theorem rword_any (a : Option Addr) (cap : Nat) (ts : List M.Tok) (fin : Int) (d : Nat) (S : M.St) (i n : Nat) (c y : Int) (w : World) (h : RS ts fin d (.ok S) i n c y) (hT : TokAt w (.slice a ts.length cap) ts) (hk : S.at M.kNull = true ∨ S.at M.kTrue = true ∨ S.at M.kFalse = true) :
    Calls Tryz.prog 56 #[.agg #[.slice a ts.length cap, .int .i64 i, .int .i64 fin, .int .i64 n, .int .i64 c, .int .i64 y]] w fun e w' => Below w.heap.size w w' ∧ ∃ (i' : Nat) (c' y' : Int) (o : M.Opd), e = .returned (.tuple #[.agg #[.slice a ts.length cap, .int .i64 i', .int .i64 fin, .int .i64 n, .int .i64 c', .int .i64 y'], .agg #[.int .i64 o.k, .int .i64 o.n, .string o.s]]) ∧ RS ts fin d (stR (operandR (.ok S))) i' n c' y' ∧ ∀ S' x, operandR (.ok S) = .ok (S', x) → o = x := by
  have hlen := hT.1
  have hi := h.lt
  have hne : S.rest ≠ [] := by rcases hk with h | h | h <;> exact M.at_ne h (by decide)
  obtain ⟨rfl, rfl, hlt, hS⟩ := h.step hne
  have HS := hid hS
  clear hS
  obtain ⟨_, _, rfl⟩ := h.good S rfl
  obtain ⟨u1, u2, av, cv, eq, u3⟩ := hT
  simp only [Value.slice.injEq] at eq
  obtain ⟨rfl, _, rfl⟩ := eq
  rcases u3 with u3 | ⟨b, o, rfl, hbl, hcell⟩
  · rw [u3] at hlt; simp at hlt
  have hT : TokAt w (.slice (some ⟨b, o, none⟩) ts.length cap) ts := ⟨u1, u2, _, _, rfl, .inr ⟨b, o, rfl, hbl, hcell⟩⟩
  obtain ⟨p1, p2, p3⟩ := hcell i hlt
  have hii : (i : Int) < (ts.length : Int) := by omega
  clear hcell u2 p1 p3
  cases k0 : (M.St.mk (ts.drop i) fin n d).at M.kNull
  · cases k1 : (M.St.mk (ts.drop i) fin n d).at M.kTrue
    · have k2 : (M.St.mk (ts.drop i) fin n d).at M.kFalse = true := by rcases hk with h | h | h; rw [k0] at h; cases h; rw [k1] at h; cases h; exact h
      have HO := hid (opR_false k0 k1 k2)
      rw [at_text hlt (by decide) k2] at p2
      unfold M.kFalse at p2
      go_enter Tryz.func56, Tryz.ntmps56
      go_wp2_with fail
      refine (ris_any _ _ _ _ _ _ _ _ _ _ _ h (hT.keep (below_three _ _ _)) M.kNull (by decide) (by decide)).mono ?_
      rintro e w1 ⟨rfl, hb⟩
      obtain ⟨hP, hQ, hO, hb1⟩ := three_new hb
      obtain ⟨x0, x1, x2, x3, x4, x5, xf⟩ := cells6 hP
      rw [show isR (.ok (M.St.mk (ts.drop i) fin n d)) M.kNull = false from k0]
      go_wp2_with fail
      refine (ris_any _ _ _ _ _ _ _ _ _ _ _ h (hT.keep hb1) M.kTrue (by decide) (by decide)).mono ?_
      rintro e w2 ⟨rfl, hb2⟩
      clear x0 x1 x2 x3 x4 x5 xf
      obtain ⟨x0, x1, x2, x3, x4, x5, xf⟩ := cells6 (kept hb2 hP)
      have hb3 := hb1.trans (hb2.mono hb1.size)
      rw [show isR (.ok (M.St.mk (ts.drop i) fin n d)) M.kTrue = false from k1]
      go_wp2_with fail
      refine (ris_any _ _ _ _ _ _ _ _ _ _ _ h (hT.keep hb3) M.kFalse (by decide) (by decide)).mono ?_
      rintro e w3 ⟨rfl, hb4⟩
      clear x0 x1 x2 x3 x4 x5 xf
      obtain ⟨x0, x1, x2, x3, x4, x5, xf⟩ := cells6 (kept hb4 (kept hb2 hP))
      obtain ⟨y0, y1, y2, y3, y4, y5, yf⟩ := cells6 (kept hb4 (kept hb2 hQ))
      obtain ⟨z0, z1, z2, zf⟩ := tcells3 (kept hb4 (kept hb2 hO))
      have hz := hlt_ (kept hb4 (kept hb2 hO))
      have hz1 : w.heap.size + 1 < w3.heap.size := by omega
      have hz2 : w.heap.size < w3.heap.size := by omega
      have hb5 := hb3.trans (hb4.mono hb3.size)
      have q2 := (hb5.cell (p := ⟨b, o + i * 3 + 1, none⟩) hbl).trans p2
      rw [show isR (.ok (M.St.mk (ts.drop i) fin n d)) M.kFalse = true from k2]
      go_wp2_with fail
      go_region
      all_goals
        go_wp2_with fail
        refine bodyPost_ret (v := .tuple #[.agg #[.slice (some ⟨b, o, none⟩) ts.length cap, .int .i64 ((i + 1 : Nat) : Int), .int .i64 fin, .int .i64 n, .int .i64 0, .int .i64 0], .agg #[.int .i64 1, .int .i64 0, .string M.em]]) (by simp [results, Tryz.results56, go_sem, y0, y1, y2, y3, y4, y5, z0, z1, z2, M.em, hz, hz1, hz2]) rfl ⟨?_, i + 1, 0, 0, ⟨1, 0, M.em⟩, rfl, by rw [HO.out]; exact HS.out, fun S x e => by rw [HO.out] at e; cases e; rfl⟩
        repeat (first | with_reducible exact hb5 | with_reducible refine Below.setCell ?_ (by first | (simp; done) | (simp; omega)) _ | with_reducible refine Below.drew ?_ | with_reducible refine Below.alloc ?_ (by first | (simp; done) | (simp; omega)) _)
    · have HO := hid (opR_true k0 k1)
      rw [at_text hlt (by decide) k1] at p2
      unfold M.kTrue at p2
      go_enter Tryz.func56, Tryz.ntmps56
      go_wp2_with fail
      refine (ris_any _ _ _ _ _ _ _ _ _ _ _ h (hT.keep (below_three _ _ _)) M.kNull (by decide) (by decide)).mono ?_
      rintro e w1 ⟨rfl, hb⟩
      obtain ⟨hP, hQ, hO, hb1⟩ := three_new hb
      obtain ⟨x0, x1, x2, x3, x4, x5, xf⟩ := cells6 hP
      rw [show isR (.ok (M.St.mk (ts.drop i) fin n d)) M.kNull = false from k0]
      go_wp2_with fail
      refine (ris_any _ _ _ _ _ _ _ _ _ _ _ h (hT.keep hb1) M.kTrue (by decide) (by decide)).mono ?_
      rintro e w3 ⟨rfl, hb2⟩
      clear x0 x1 x2 x3 x4 x5 xf
      obtain ⟨x0, x1, x2, x3, x4, x5, xf⟩ := cells6 (kept hb2 hP)
      obtain ⟨y0, y1, y2, y3, y4, y5, yf⟩ := cells6 (kept hb2 hQ)
      obtain ⟨z0, z1, z2, zf⟩ := tcells3 (kept hb2 hO)
      have hz := hlt_ (kept hb2 hO)
      have hz1 : w.heap.size + 1 < w3.heap.size := by omega
      have hz2 : w.heap.size < w3.heap.size := by omega
      have hb5 := hb1.trans (hb2.mono hb1.size)
      have q2 := (hb5.cell (p := ⟨b, o + i * 3 + 1, none⟩) hbl).trans p2
      rw [show isR (.ok (M.St.mk (ts.drop i) fin n d)) M.kTrue = true from k1]
      go_wp2_with fail
      go_region
      all_goals
        go_wp2_with fail
        refine bodyPost_ret (v := .tuple #[.agg #[.slice (some ⟨b, o, none⟩) ts.length cap, .int .i64 ((i + 1 : Nat) : Int), .int .i64 fin, .int .i64 n, .int .i64 0, .int .i64 0], .agg #[.int .i64 1, .int .i64 1, .string M.em]]) (by simp [results, Tryz.results56, go_sem, y0, y1, y2, y3, y4, y5, z0, z1, z2, M.em, hz, hz1, hz2]) rfl ⟨?_, i + 1, 0, 0, ⟨1, 1, M.em⟩, rfl, by rw [HO.out]; exact HS.out, fun S x e => by rw [HO.out] at e; cases e; rfl⟩
        repeat (first | with_reducible exact hb5 | with_reducible refine Below.setCell ?_ (by first | (simp; done) | (simp; omega)) _ | with_reducible refine Below.drew ?_ | with_reducible refine Below.alloc ?_ (by first | (simp; done) | (simp; omega)) _)
  · have HO := hid (opR_null k0)
    rw [at_text hlt (by decide) k0] at p2
    unfold M.kNull at p2
    go_enter Tryz.func56, Tryz.ntmps56
    go_wp2_with fail
    refine (ris_any _ _ _ _ _ _ _ _ _ _ _ h (hT.keep (below_three _ _ _)) M.kNull (by decide) (by decide)).mono ?_
    rintro e w3 ⟨rfl, hb⟩
    obtain ⟨hP, hQ, hO, hb5⟩ := three_new hb
    obtain ⟨x0, x1, x2, x3, x4, x5, xf⟩ := cells6 hP
    obtain ⟨y0, y1, y2, y3, y4, y5, yf⟩ := cells6 hQ
    obtain ⟨z0, z1, z2, zf⟩ := tcells3 hO
    have hz := hlt_ hO
    have hz1 : w.heap.size + 1 < w3.heap.size := by omega
    have hz2 : w.heap.size < w3.heap.size := by omega
    have q2 := (hb5.cell (p := ⟨b, o + i * 3 + 1, none⟩) hbl).trans p2
    rw [show isR (.ok (M.St.mk (ts.drop i) fin n d)) M.kNull = true from k0]
    go_wp2_with fail
    refine bodyPost_ret (v := .tuple #[.agg #[.slice (some ⟨b, o, none⟩) ts.length cap, .int .i64 ((i + 1 : Nat) : Int), .int .i64 fin, .int .i64 n, .int .i64 0, .int .i64 0], .agg #[.int .i64 0, .int .i64 0, .string M.em]]) (by simp [results, Tryz.results56, go_sem, y0, y1, y2, y3, y4, y5, z0, z1, z2, M.em, hz, hz1, hz2]) rfl ⟨?_, i + 1, 0, 0, ⟨0, 0, M.em⟩, rfl, by rw [HO.out]; exact HS.out, fun S x e => by rw [HO.out] at e; cases e; rfl⟩
    repeat (first | with_reducible exact hb5 | with_reducible refine Below.setCell ?_ (by first | (simp; done) | (simp; omega)) _ | with_reducible refine Below.drew ?_ | with_reducible refine Below.alloc ?_ (by first | (simp; done) | (simp; omega)) _)
end Go.Proofs.YtkonkdhoakcmdaaGreatDoor
