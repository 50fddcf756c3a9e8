/-
  The end of package lex's walk, and the document's reader of words (proteanref01), first steps. Conditions: the text's.
-/
import Derived.Test.YtkonkdhoakcmdaaGreatDoorLF
import Derived.Test.YtkonkdhoakcmdaaGreatDoorMM
set_option linter.unusedVariables false
namespace Go.Proofs.YtkonkdhoakcmdaaGreatDoor
open Go.RowKit

theorem row_get (ts : List M.Tok) (i : Nat) (h : i < ts.length) : (M.row ts)[i * 3]? = some (.int .i64 ts[i].k) ∧ (M.row ts)[i * 3 + 1]? = some (.string ts[i].t) ∧ (M.row ts)[i * 3 + 2]? = some (.int .i64 ts[i].p) := by
  induction ts generalizing i with
  | nil => simp at h
  | cons x r ih =>
    have e : M.row (x :: r) = .int .i64 x.k :: .string x.t :: .int .i64 x.p :: M.row r := by simp [M.row, M.Tok.cells]
    cases i with
    | zero => rw [e]; exact ⟨rfl, rfl, rfl⟩
    | succ j =>
      obtain ⟨h1, h2, h3⟩ := ih j (by simpa using h)
      rw [e, show (j + 1) * 3 = j * 3 + 1 + 1 + 1 by omega]
      refine ⟨?_, ?_, ?_⟩
      · simpa using h1
      · simpa using h2
      · simpa using h3

theorem row_length (ts : List M.Tok) : (M.row ts).length = ts.length * 3 := by
  induction ts with
  | nil => rfl
  | cons x r ih =>
    have e : M.row (x :: r) = .int .i64 x.k :: .string x.t :: .int .i64 x.p :: M.row r := by simp [M.row, M.Tok.cells]
    rw [e]; simp only [List.length_cons, ih]; omega

theorem add0 (g j : Nat) : (⟨g, 0, none⟩ : Addr).add j = ⟨g, 0 + j, none⟩ := by
  unfold Addr.add
  split
  · rename_i h; rw [h]
  · rfl

/-- what is laid in a row of one's own is there to be read -/
theorem tokAt_of_owns {w : World} {base : Nat} {v : Value} {ts : List M.Tok} (h : w.ownsRow base 69 3 v ts.length (M.row ts)) (hl : ts.length ≤ 140737488355328) (hs : ∀ x, x ∈ ts → x.t.size ≤ maxLen) : TokAt w v ts := by
  refine ⟨hl, hs, ?_⟩
  have hc := fun g hg => h.cells (g := g) hg
  rcases h.2 with ⟨rfl, h0⟩ | ⟨g, cap, cur, rfl, hb, hh, _⟩
  · exact ⟨none, 0, by rw [h0], .inl (List.length_eq_zero_iff.1 h0)⟩
  · refine ⟨some ⟨g, 0, none⟩, cap, rfl, .inr ⟨g, 0, rfl, (Array.getElem?_eq_some_iff.1 hh).1, fun i hi => ?_⟩⟩
    obtain ⟨r1, r2, r3⟩ := row_get ts i hi
    have c1 := hc g rfl _ _ r1
    have c2 := hc g rfl _ _ r2
    have c3 := hc g rfl _ _ r3
    rw [add0] at c1 c2 c3
    exact ⟨c1, c2, c3⟩

theorem lex_tokAt {w : World} {base : Nat} {v : Value} {l : List UInt8} (h : w.ownsRow base 69 3 v (M.lex l).1.length (M.row (M.lex l).1)) : TokAt w v (M.lex l).1 := by
  obtain ⟨h1, h2⟩ := M.lex_small l
  exact tokAt_of_owns h (by omega) fun x hx => by have := h2 x hx; unfold maxLen; omega

theorem TokAt.keep {w w' : World} {v : Value} {ts : List M.Tok} (h : TokAt w v ts) (hb : Below w.heap.size w w') : TokAt w' v ts := by
  obtain ⟨h1, h2, a, cap, rfl, h3⟩ := h
  refine ⟨h1, h2, a, cap, rfl, ?_⟩
  rcases h3 with h3 | ⟨b, o, rfl, hlt, hc⟩
  · exact .inl h3
  · refine .inr ⟨b, o, rfl, Nat.lt_of_lt_of_le hlt hb.size, fun i hi => ?_⟩
    obtain ⟨c1, c2, c3⟩ := hc i hi
    exact ⟨by rw [hb.cell (p := ⟨b, o + i * 3, none⟩) hlt]; exact c1, by rw [hb.cell (p := ⟨b, o + i * 3 + 1, none⟩) hlt]; exact c2, by rw [hb.cell (p := ⟨b, o + i * 3 + 2, none⟩) hlt]; exact c3⟩

theorem TokAt.alloc {w : World} {v : Value} {ts : List M.Tok} (h : TokAt w v ts) (o : Obj) : TokAt (w.alloc o) v ts := h.keep ((Below.refl _ _).alloc (Nat.le_refl _) o)
theorem below_drewN {B : Nat} {a w : World} (h : Below B a w) (n : Nat) : Below B a (w.drewN n) := ⟨h.os, h.tape, h.output, h.size, h.block⟩
theorem TokAt.drewN {w : World} {v : Value} {ts : List M.Tok} (h : TokAt w v ts) (n : Nat) : TokAt (w.drewN n) v ts := h.keep (below_drewN (Below.refl _ _) n)

/-- a new row of tokens -/
theorem tokAt_new (w : World) (ts : List M.Tok) (cs : Array Value) (g n cap : Nat) (hg : g = w.heap.size) (hc : cs = (M.row ts).toArray) (hn : n = ts.length) (hl : ts.length ≤ 140737488355328) (hs : ∀ x, x ∈ ts → x.t.size ≤ maxLen) :
    TokAt (w.alloc (.cells cs 69)) (.slice (some ⟨g, 0, none⟩) n cap) ts := by
  subst hg hc hn
  have hh := heap_alloc_new w (.cells (M.row ts).toArray 69)
  refine ⟨hl, hs, some ⟨w.heap.size, 0, none⟩, cap, rfl, .inr ⟨w.heap.size, 0, rfl, by simp, fun i hi => ?_⟩⟩
  obtain ⟨r1, r2, r3⟩ := row_get ts i hi
  rw [Lib.cell_of_heap hh, Lib.cell_of_heap hh, Lib.cell_of_heap hh]
  simp only [Nat.zero_add, List.getElem?_toArray]
  exact ⟨r1, r2, r3⟩

theorem lexAt (s : ByteArray) (l : List UInt8) (r : List M.Tok × Int × Int) (w : World) (hs : s.size ≤ maxLen) (hl : s.data.toList = l) (hr : M.lex l = r) :
    Calls Tryz.prog 25 #[.string s] w fun e w' => ∃ v, e = .returned (.tuple #[v, .agg #[.int .i64 r.2.1, .int .i64 r.2.2]]) ∧ w'.ownsRow w.heap.size 69 3 v r.1.length (M.row r.1) ∧ Below w.heap.size w w' := by
  subst hl hr; exact lex_any s w hs

theorem eqFault (a b c d : Int) (w : World) : (binOp .eql 28 (.agg #[.int .i64 a, .int .i64 b]) (.agg #[.int .i64 c, .int .i64 d])).run Tryz.prog w = .ok (.bool (a == c && b == d)) w := by
  rw [run_eql_struct, run_equalIn_agg _ _ _ _ _ (by kernel_rfl) stood25]
  simp [go_sem]
  by_cases h1 : a = c <;> by_cases h2 : b = d <;> simp [h1, h2]

end Go.Proofs.YtkonkdhoakcmdaaGreatDoor

set_option linter.unusedVariables false
namespace Go.Proofs.YtkonkdhoakcmdaaGreatDoor
open Go.RowKit

theorem cls1 (c : Int) : M.cls c = 1 ↔ (c = 9 ∨ c = 10 ∨ c = 13 ∨ c = 32) := by unfold M.cls; repeat (split; omega); omega
theorem cls3 (c : Int) : M.cls c = 3 ↔ ((97 ≤ c ∧ c ≤ 122) ∨ (65 ≤ c ∧ c ≤ 90)) := by unfold M.cls; repeat (split; omega); omega
theorem cls4 (c : Int) : M.cls c = 4 ↔ (48 ≤ c ∧ c ≤ 57) := by unfold M.cls; repeat (split; omega); omega
theorem cls6 (c : Int) : M.cls c = 6 ↔ c = 95 := by unfold M.cls; repeat (split; omega); omega
theorem cls2 (c : Int) : M.cls c = 2 ↔ c = 35 := by unfold M.cls; repeat (split; omega); omega
theorem cls5 (c : Int) : M.cls c = 5 ↔ (c = 123 ∨ c = 125 ∨ c = 40 ∨ c = 41 ∨ c = 44 ∨ c = 59 ∨ c = 46 ∨ c = 61 ∨ c = 43 ∨ c = 45 ∨ c = 42 ∨ c = 60 ∨ c = 38 ∨ c = 58) := by unfold M.cls; repeat (split; omega); omega

/-- is a byte of that class? -/
def isC (k : Int) (b : UInt8) : Bool := decide (M.cls b.toNat = k)
theorem isC_true {k : Int} {b : UInt8} (h : M.cls b.toNat = k) : isC k b = true := decide_eq_true h
theorem isC_false {k : Int} {b : UInt8} (h : ¬ M.cls b.toNat = k) : isC k b = false := decide_eq_false h

set_option maxHeartbeats 400000 in
theorem rBlank_any (b : UInt8) (w : World) :
    Calls Tryz.prog 41 #[.int .u8 b.toNat] w fun e w' => e = .returned (.bool (isC 1 b)) ∧ w' = w := by
  obtain ⟨c, hc⟩ : ∃ c : Int, (b.toNat : Int) = c := ⟨_, rfl⟩
  have HC : Hid ((b.toNat : Int) = c) := hc
  rw [hc]
  clear hc
  go_enter Tryz.func41, Tryz.ntmps41
  go_wp2
  all_goals
    go_ret
    refine ⟨ret_bool ?_, rfl⟩
    rw [isC, HC.out, Bool.eq_iff_iff]
    simp [cls1]
    try omega

set_option maxHeartbeats 400000 in
theorem rLetter_any (b : UInt8) (w : World) :
    Calls Tryz.prog 42 #[.int .u8 b.toNat] w fun e w' => e = .returned (.bool (isC 3 b)) ∧ w' = w := by
  obtain ⟨c, hc⟩ : ∃ c : Int, (b.toNat : Int) = c := ⟨_, rfl⟩
  have HC : Hid ((b.toNat : Int) = c) := hc
  rw [hc]
  clear hc
  go_enter Tryz.func42, Tryz.ntmps42
  go_wp2
  all_goals
    go_ret
    refine ⟨ret_bool ?_, rfl⟩
    rw [isC, HC.out, Bool.eq_iff_iff]
    simp [cls3]
    try omega

set_option maxHeartbeats 400000 in
theorem rDigit_any (b : UInt8) (w : World) :
    Calls Tryz.prog 44 #[.int .u8 b.toNat] w fun e w' => e = .returned (.bool (isC 4 b)) ∧ w' = w := by
  obtain ⟨c, hc⟩ : ∃ c : Int, (b.toNat : Int) = c := ⟨_, rfl⟩
  have HC : Hid ((b.toNat : Int) = c) := hc
  rw [hc]
  clear hc
  go_enter Tryz.func44, Tryz.ntmps44
  go_wp2
  all_goals
    go_ret
    refine ⟨ret_bool ?_, rfl⟩
    rw [isC, HC.out, Bool.eq_iff_iff]
    simp [cls4]
    try omega

set_option maxHeartbeats 400000 in
theorem rInner_any (b : UInt8) (w : World) :
    Calls Tryz.prog 43 #[.int .u8 b.toNat] w fun e w' => e = .returned (.bool (M.pInn b)) ∧ w' = w := by
  by_cases h3 : M.cls b.toNat = 3
  · have HP : Hid (M.pInn b = true) := M.cls_pInn b (.inl h3)
    have hi := isC_true h3
    clear h3
    go_enter Tryz.func43, Tryz.ntmps43
    go_wp2_with (go_at_call 42; refine (rLetter_any _ _).mono ?_; rintro e w' ⟨rfl, rfl⟩)
    go_ret
    exact ⟨ret_bool HP.out.symm, rfl⟩
  · by_cases h4 : M.cls b.toNat = 4
    · have HP : Hid (M.pInn b = true) := M.cls_pInn b (.inr (.inl h4))
      have hi := isC_false h3
      have hi4 := isC_true h4
      clear h3 h4
      go_enter Tryz.func43, Tryz.ntmps43
      go_wp2_with (first | (go_at_call 42; refine (rLetter_any _ _).mono ?_; rintro e w' ⟨rfl, rfl⟩) | (go_at_call 44; refine (rDigit_any _ _).mono ?_; rintro e w' ⟨rfl, rfl⟩))
      go_ret
      exact ⟨ret_bool HP.out.symm, rfl⟩
    · have HP : Hid (M.pInn b = (((b.toNat : Int)) == 95)) := by
        unfold Hid
        rw [Bool.eq_iff_iff]
        simp [M.pInn, h3, h4, cls6]
      have hi := isC_false h3
      have hi4 := isC_false h4
      clear h3 h4
      go_enter Tryz.func43, Tryz.ntmps43
      go_wp2_with (first | (go_at_call 42; refine (rLetter_any _ _).mono ?_; rintro e w' ⟨rfl, rfl⟩) | (go_at_call 44; refine (rDigit_any _ _).mono ?_; rintro e w' ⟨rfl, rfl⟩))
      go_ret
      exact ⟨ret_bool HP.out.symm, rfl⟩

def sg : ByteArray := ⟨#[123, 125, 40, 41, 44, 59, 46, 61, 43, 45, 42, 60, 38, 58]⟩
theorem sg_cls : ∀ j : Fin 14, M.cls (sg[j.val]'j.isLt).toNat = 5 := by decide
theorem sg_has (c : Int) (h : M.cls c = 5) : ∃ j : Fin 14, ((sg[j.val]'j.isLt).toNat : Int) = c := by
  rw [cls5] at h
  rcases h with rfl | rfl | rfl | rfl | rfl | rfl | rfl | rfl | rfl | rfl | rfl | rfl | rfl | rfl
  · exact ⟨0, rfl⟩
  · exact ⟨1, rfl⟩
  · exact ⟨2, rfl⟩
  · exact ⟨3, rfl⟩
  · exact ⟨4, rfl⟩
  · exact ⟨5, rfl⟩
  · exact ⟨6, rfl⟩
  · exact ⟨7, rfl⟩
  · exact ⟨8, rfl⟩
  · exact ⟨9, rfl⟩
  · exact ⟨10, rfl⟩
  · exact ⟨11, rfl⟩
  · exact ⟨12, rfl⟩
  · exact ⟨13, rfl⟩

set_option maxHeartbeats 400000 in
theorem rSign_any (b : UInt8) (w : World) :
    Calls Tryz.prog 45 #[.int .u8 b.toNat] w fun e w' => e = .returned (.bool (isC 5 b)) ∧ w' = w := by
  go_enter Tryz.func45, Tryz.ntmps45
  go_wp2
  go_loop [4] (fun i => ∃ j : Nat, j ≤ 14 ∧ i = .int .i64 j ∧ ∀ i (h : i < 14), i < j → ¬ (sg[i]'h).toNat = b.toNat) (fun i => 14 - (intOf i).toNat)
  case atStart => exact ⟨0, by omega, rfl, fun i _ h => by omega⟩
  case round =>
    obtain ⟨j, hj, rfl, hn⟩ := hrel
    have HN := hid hn
    clear hn
    by_cases hlt : j < 14
    · by_cases he : (sg[j]'hlt).toNat = b.toNat
      · have hb : (((((⟨#[123, 125, 40, 41, 44, 59, 46, 61, 43, 45, 42, 60, 38, 58]⟩ : ByteArray)[j]'hlt).toNat : Int)) == (b.toNat : Int)) = true := beq_iff_eq.2 (congrArg (fun n : Nat => (n : Int)) he)
        have HE := hid he
        clear he
        go_wp2
        go_ret
        refine ⟨ret_bool ?_, rfl⟩
        rw [isC_true]
        have := sg_cls ⟨j, hlt⟩
        simp only at this
        rw [HE.out] at this
        exact this
      · have hb : (((((⟨#[123, 125, 40, 41, 44, 59, 46, 61, 43, 45, 42, 60, 38, 58]⟩ : ByteArray)[j]'hlt).toNat : Int)) == (b.toNat : Int)) = false := beq_eq_false_iff_ne.2 (fun h => he (Int.ofNat.inj h))
        have HE := hid he
        clear he
        go_wp2
        refine ⟨⟨j + 1, by omega, by go_num, fun i h hi => ?_⟩, by simp [intOf]; omega⟩
        by_cases hij : i = j
        · subst hij; exact HE.out
        · exact HN.out i h (by omega)
    · go_wp2
      go_ret
      refine ⟨ret_bool ?_, rfl⟩
      rw [isC_false]
      intro h
      obtain ⟨i, hi⟩ := sg_has _ h
      exact HN.out i.val i.isLt (by omega) (by omega)
end Go.Proofs.YtkonkdhoakcmdaaGreatDoor
