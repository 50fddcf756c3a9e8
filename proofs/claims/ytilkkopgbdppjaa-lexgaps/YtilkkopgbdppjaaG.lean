/-
  The walk of the statements' fixed calls: they are answered as the document says, whatever is in memory.
-/
import Derived.Test.YtilkkopgbdppjaaF
import Derived.Test.YtilkkopgbdppjaaMathD
set_option linter.unusedVariables false
namespace Go.Proofs.Ytilkkopgbdppjaa
open Go.RowKit

theorem row_get (ts : List M.Tok) (i : Nat) (h : i < ts.length) : (M.row ts)[i * 3]? = some (.int .i64 ts[i].k) ∧ (M.row ts)[i * 3 + 1]? = some (.string ts[i].t) ∧ (M.row ts)[i * 3 + 2]? = some (.int .i64 ts[i].p) := by
  induction ts generalizing i with
  | nil => simp at h
  | cons x r ih =>
    have e : M.row (x :: r) = .int .i64 x.k :: .string x.t :: .int .i64 x.p :: M.row r := by simp [M.row, M.Tok.cells]
    cases i with
    | zero => rw [e]; exact ⟨rfl, rfl, rfl⟩
    | succ j =>
      obtain ⟨h1, h2, h3⟩ := ih j (by simpa using h)
      rw [e, show (j + 1) * 3 = j * 3 + 1 + 1 + 1 by omega]
      refine ⟨?_, ?_, ?_⟩
      · simpa using h1
      · simpa using h2
      · simpa using h3

theorem row_length (ts : List M.Tok) : (M.row ts).length = ts.length * 3 := by
  induction ts with
  | nil => rfl
  | cons x r ih =>
    have e : M.row (x :: r) = .int .i64 x.k :: .string x.t :: .int .i64 x.p :: M.row r := by simp [M.row, M.Tok.cells]
    rw [e]; simp only [List.length_cons, ih]; omega

theorem add0 (g j : Nat) : (⟨g, 0, none⟩ : Addr).add j = ⟨g, 0 + j, none⟩ := by
  unfold Addr.add
  split
  · rename_i h; rw [h]
  · rfl

/-- what is laid in a row of one's own is there to be read -/
theorem tokAt_of_owns {w : World} {base : Nat} {v : Value} {ts : List M.Tok} (h : w.ownsRow base 37 3 v ts.length (M.row ts)) (hl : ts.length ≤ 140737488355328) (hs : ∀ x, x ∈ ts → x.t.size ≤ maxLen) : TokAt w v ts := by
  refine ⟨hl, hs, ?_⟩
  have hc := fun g hg => h.cells (g := g) hg
  rcases h.2 with ⟨rfl, h0⟩ | ⟨g, cap, cur, rfl, hb, hh, _⟩
  · exact ⟨none, 0, by rw [h0], .inl (List.length_eq_zero_iff.1 h0)⟩
  · refine ⟨some ⟨g, 0, none⟩, cap, rfl, .inr ⟨g, 0, rfl, (Array.getElem?_eq_some_iff.1 hh).1, fun i hi => ?_⟩⟩
    obtain ⟨r1, r2, r3⟩ := row_get ts i hi
    have c1 := hc g rfl _ _ r1
    have c2 := hc g rfl _ _ r2
    have c3 := hc g rfl _ _ r3
    rw [add0] at c1 c2 c3
    exact ⟨c1, c2, c3⟩

theorem lex_tokAt {w : World} {base : Nat} {v : Value} {l : List UInt8} (h : w.ownsRow base 37 3 v (M.lex l).1.length (M.row (M.lex l).1)) : TokAt w v (M.lex l).1 := by
  obtain ⟨h1, h2⟩ := M.lex_small l
  exact tokAt_of_owns h (by omega) fun x hx => by have := h2 x hx; unfold maxLen; omega

theorem TokAt.keep {w w' : World} {v : Value} {ts : List M.Tok} (h : TokAt w v ts) (hb : Below w.heap.size w w') : TokAt w' v ts := by
  obtain ⟨h1, h2, a, cap, rfl, h3⟩ := h
  refine ⟨h1, h2, a, cap, rfl, ?_⟩
  rcases h3 with h3 | ⟨b, o, rfl, hlt, hc⟩
  · exact .inl h3
  · refine .inr ⟨b, o, rfl, Nat.lt_of_lt_of_le hlt hb.size, fun i hi => ?_⟩
    obtain ⟨c1, c2, c3⟩ := hc i hi
    exact ⟨by rw [hb.cell (p := ⟨b, o + i * 3, none⟩) hlt]; exact c1, by rw [hb.cell (p := ⟨b, o + i * 3 + 1, none⟩) hlt]; exact c2, by rw [hb.cell (p := ⟨b, o + i * 3 + 2, none⟩) hlt]; exact c3⟩

theorem TokAt.alloc {w : World} {v : Value} {ts : List M.Tok} (h : TokAt w v ts) (o : Obj) : TokAt (w.alloc o) v ts := h.keep ((Below.refl _ _).alloc (Nat.le_refl _) o)
theorem below_drewN {B : Nat} {a w : World} (h : Below B a w) (n : Nat) : Below B a (w.drewN n) := ⟨h.os, h.tape, h.output, h.size, h.block⟩
theorem TokAt.drewN {w : World} {v : Value} {ts : List M.Tok} (h : TokAt w v ts) (n : Nat) : TokAt (w.drewN n) v ts := h.keep (below_drewN (Below.refl _ _) n)

/-- a new row of tokens -/
theorem tokAt_new (w : World) (ts : List M.Tok) (cs : Array Value) (g n cap : Nat) (hg : g = w.heap.size) (hc : cs = (M.row ts).toArray) (hn : n = ts.length) (hl : ts.length ≤ 140737488355328) (hs : ∀ x, x ∈ ts → x.t.size ≤ maxLen) :
    TokAt (w.alloc (.cells cs 37)) (.slice (some ⟨g, 0, none⟩) n cap) ts := by
  subst hg hc hn
  have hh := heap_alloc_new w (.cells (M.row ts).toArray 37)
  refine ⟨hl, hs, some ⟨w.heap.size, 0, none⟩, cap, rfl, .inr ⟨w.heap.size, 0, rfl, by simp, fun i hi => ?_⟩⟩
  obtain ⟨r1, r2, r3⟩ := row_get ts i hi
  rw [Lib.cell_of_heap hh, Lib.cell_of_heap hh, Lib.cell_of_heap hh]
  simp only [Nat.zero_add, List.getElem?_toArray]
  exact ⟨r1, r2, r3⟩

theorem printAt (v : Value) (ts : List M.Tok) (b : ByteArray) (w : World) (h : TokAt w v ts) (hb : M.print ts = b.data.toList) (hl : b.size ≤ 140737488355328) :
    Calls Try.prog 12 #[v] w fun e w' => e = .returned (.string b) ∧ Below w.heap.size w w' := by
  have := print_any v ts w h (by rw [hb, len_list]; exact hl)
  rw [hb, M.bytes_mk'] at this
  exact this

theorem lexAt (s : ByteArray) (l : List UInt8) (r : List M.Tok × Int × Int) (w : World) (hs : s.size ≤ maxLen) (hl : s.data.toList = l) (hr : M.lex l = r) :
    Calls Try.prog 8 #[.string s] w fun e w' => ∃ v, e = .returned (.tuple #[v, .agg #[.int .i64 r.2.1, .int .i64 r.2.2]]) ∧ w'.ownsRow w.heap.size 37 3 v r.1.length (M.row r.1) ∧ Below w.heap.size w w' := by
  subst hl hr; exact lex_any s w hs

theorem printSix (v : Value) (w : World) (h : TokAt w v M.six) :
    Calls Try.prog 12 #[v] w fun e w' => e = .returned (.string ⟨#[120, 32, 61, 32, 121, 32, 46, 32, 112, 32, 59]⟩) ∧ Below w.heap.size w w' := by
  have := print_any v M.six w h (by rw [M.fix4]; decide)
  rw [M.fix4] at this
  exact this
theorem wordYes (w : World) : Calls Try.prog 15 #[.string ⟨#[97, 95, 49]⟩] w fun e w' => e = .returned (.bool true) ∧ w' = w := word_any ⟨#[97, 95, 49]⟩ w (by decide)
theorem wordNo (w : World) : Calls Try.prog 15 #[.string ⟨#[49]⟩] w fun e w' => e = .returned (.bool false) ∧ w' = w := word_any ⟨#[49]⟩ w (by decide)

theorem eq25 (a b c d : Int) (w : World) : (binOp .eql 25 (.agg #[.int .i64 a, .int .i64 b]) (.agg #[.int .i64 c, .int .i64 d])).run Try.prog w = .ok (.bool (a == c && b == d)) w := by
  rw [run_eql_struct, run_equalIn_agg _ _ _ _ _ (by kernel_rfl) stood25]
  simp [go_sem]
  by_cases h1 : a = c <;> by_cases h2 : b = d <;> simp [h1, h2]

set_option maxHeartbeats 1000000 in
theorem fixed_any (w : World) :
    Calls Try.prog 10 #[] w fun e w' => e = .returned (.bool true) ∧ Below w.heap.size w w' := by
  have hs25 := stood25
  have hg25 := guard25
  go_enter Try.func10, Try.ntmps10
  go_wp2_with fail
  refine (lexAt _ _ _ _ (by decide) rfl M.fix1).mono ?_
  rintro e w1 ⟨v1, rfl, hown1, hb1⟩
  go_wp2_with fail
  refine (lexAt _ _ _ _ (by decide) rfl M.fix2).mono ?_
  rintro e w2 ⟨v2, rfl, hown2, hb2⟩
  go_wp2_with fail
  refine (lexAt _ _ _ _ (by decide) rfl M.fix3).mono ?_
  rintro e w3 ⟨v3, rfl, hown3, hb3⟩
  have z1 := hb1.size
  have z2 := hb2.size
  have z3 := hb3.size
  simp only [World.size_alloc] at z2 z3 hb2 hb3
  have n1 := heap_alloc_new w1 (.cells #[.int .i64 0, .int .i64 0] 25)
  have n2 := heap_alloc_new w2 (.cells #[.int .i64 10, .int .i64 0] 25)
  have hb12 : Below w1.heap.size w1 w3 := (((Below.refl _ _).alloc (Nat.le_refl _) _).trans (hb2.mono (Nat.le_succ _))).trans (((Below.refl _ _).alloc (by omega) _).trans (hb3.mono (by omega)))
  have T1 : TokAt w1 v1 M.six := tokAt_of_owns hown1 (by decide) (by intro x hx; simp [M.six] at hx; rcases hx with rfl | rfl | rfl | rfl | rfl | rfl <;> decide)
  have T3 : ∀ o, TokAt (w3.alloc o) v1 M.six := fun o => T1.below (hb12.alloc (by omega) o) fun b o n c hv => by
    obtain ⟨_, _, a1, cap1, hv', hT⟩ := T1
    rcases hT with hT | ⟨g, o', ha, hgl, _⟩
    · simp [M.six] at hT
    · rw [hv', ha] at hv; simp at hv; omega
  obtain ⟨_, _, a1, cap1, hv, hT⟩ := T1
  obtain rfl : v1 = .slice a1 6 cap1 := hv
  rcases hT with hT | ⟨g, o, rfl, hgl, hcs⟩
  · simp [M.six] at hT
  obtain ⟨_, e1, e2⟩ := hcs 4 (by decide)
  rw [← hb12.cell (p := ⟨g, o + 4 * 3 + 1, none⟩) hgl] at e1
  rw [← hb12.cell (p := ⟨g, o + 4 * 3 + 2, none⟩) hgl] at e2
  have e1' : w3.cell? ⟨g, o + 4 * 3 + 1, none⟩ = some (.string ⟨#[112]⟩) := e1
  have e2' : w3.cell? ⟨g, o + 4 * 3 + 2, none⟩ = some (.int .i64 4) := e2
  have q1 : w3.cell? ⟨w1.heap.size, 0, none⟩ = some (.int .i64 0) := by
    rw [hb3.cell (p := ⟨w1.heap.size, 0, none⟩) (by simp; omega), World.cell?_alloc_past _ _ _ (by omega), hb2.cell (p := ⟨w1.heap.size, 0, none⟩) (by simp), Lib.cell_of_heap n1]; rfl
  have q2 : w3.cell? ⟨w1.heap.size, 1, none⟩ = some (.int .i64 0) := by
    rw [hb3.cell (p := ⟨w1.heap.size, 1, none⟩) (by simp; omega), World.cell?_alloc_past _ _ _ (by omega), hb2.cell (p := ⟨w1.heap.size, 1, none⟩) (by simp), Lib.cell_of_heap n1]; rfl
  have q3 : w3.cell? ⟨w2.heap.size, 0, none⟩ = some (.int .i64 10) := by
    rw [hb3.cell (p := ⟨w2.heap.size, 0, none⟩) (by simp), Lib.cell_of_heap n2]; rfl
  have q4 : w3.cell? ⟨w2.heap.size, 1, none⟩ = some (.int .i64 0) := by
    rw [hb3.cell (p := ⟨w2.heap.size, 1, none⟩) (by simp), Lib.cell_of_heap n2]; rfl
  have k1 : w1.heap.size < w3.heap.size := by omega
  have k2 : w2.heap.size < w3.heap.size := by omega
  have k3 : g < w3.heap.size := by omega
  have heq := fun a b c d w' => eq25 a b c d w'
  clear n1 n2 hcs e1 e2 hown1 hown2 hown3
  go_wp2_with fail
  refine (printSix _ _ (T3 _)).mono ?_
  rintro e w4 ⟨rfl, hb4⟩
  go_wp2_with fail
  refine (wordYes _).mono ?_
  rintro e w5 ⟨rfl, rfl⟩
  go_wp2_with fail
  refine (wordNo _).mono ?_
  rintro e w6 ⟨rfl, rfl⟩
  go_wp2
  go_ret
  exact ⟨rfl, ((hb1.trans (hb12.mono (by omega))).alloc (by omega) _).trans (hb4.mono (by simp; omega))⟩
end Go.Proofs.Ytilkkopgbdppjaa
