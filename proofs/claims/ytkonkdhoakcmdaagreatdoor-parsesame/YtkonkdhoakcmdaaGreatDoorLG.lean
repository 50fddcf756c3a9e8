/-
  Tokens that lie in memory, and lex.Lex over whatever text a string can be. No conditions.
-/
import Derived.Test.YtkonkdhoakcmdaaGreatDoorLF
import Derived.Test.YtkonkdhoakcmdaaGreatDoorMM
set_option linter.unusedVariables false
namespace Go.Proofs.YtkonkdhoakcmdaaGreatDoor
open Go.RowKit

theorem row_get (ts : List M.Tok) (i : Nat) (h : i < ts.length) : (M.row ts)[i * 3]? = some (.int .i64 ts[i].k) ∧ (M.row ts)[i * 3 + 1]? = some (.string ts[i].t) ∧ (M.row ts)[i * 3 + 2]? = some (.int .i64 ts[i].p) := by
  induction ts generalizing i with
  | nil => simp at h
  | cons x r ih =>
    have e : M.row (x :: r) = .int .i64 x.k :: .string x.t :: .int .i64 x.p :: M.row r := by simp [M.row, M.Tok.cells]
    cases i with
    | zero => rw [e]; exact ⟨rfl, rfl, rfl⟩
    | succ j =>
      obtain ⟨h1, h2, h3⟩ := ih j (by simpa using h)
      rw [e, show (j + 1) * 3 = j * 3 + 1 + 1 + 1 by omega]
      refine ⟨?_, ?_, ?_⟩
      · simpa using h1
      · simpa using h2
      · simpa using h3

theorem row_length (ts : List M.Tok) : (M.row ts).length = ts.length * 3 := by
  induction ts with
  | nil => rfl
  | cons x r ih =>
    have e : M.row (x :: r) = .int .i64 x.k :: .string x.t :: .int .i64 x.p :: M.row r := by simp [M.row, M.Tok.cells]
    rw [e]; simp only [List.length_cons, ih]; omega

theorem add0 (g j : Nat) : (⟨g, 0, none⟩ : Addr).add j = ⟨g, 0 + j, none⟩ := by
  unfold Addr.add
  split
  · rename_i h; rw [h]
  · rfl

/-- what is laid in a row of one's own is there to be read -/
theorem tokAt_of_owns {w : World} {base : Nat} {v : Value} {ts : List M.Tok} (h : w.ownsRow base 69 3 v ts.length (M.row ts)) (hl : ts.length ≤ 140737488355328) (hs : ∀ x, x ∈ ts → x.t.size ≤ maxLen) : TokAt w v ts := by
  refine ⟨hl, hs, ?_⟩
  have hc := fun g hg => h.cells (g := g) hg
  rcases h.2 with ⟨rfl, h0⟩ | ⟨g, cap, cur, rfl, hb, hh, _⟩
  · exact ⟨none, 0, by rw [h0], .inl (List.length_eq_zero_iff.1 h0)⟩
  · refine ⟨some ⟨g, 0, none⟩, cap, rfl, .inr ⟨g, 0, rfl, (Array.getElem?_eq_some_iff.1 hh).1, fun i hi => ?_⟩⟩
    obtain ⟨r1, r2, r3⟩ := row_get ts i hi
    have c1 := hc g rfl _ _ r1
    have c2 := hc g rfl _ _ r2
    have c3 := hc g rfl _ _ r3
    rw [add0] at c1 c2 c3
    exact ⟨c1, c2, c3⟩

theorem lex_tokAt {w : World} {base : Nat} {v : Value} {l : List UInt8} (h : w.ownsRow base 69 3 v (M.lex l).1.length (M.row (M.lex l).1)) : TokAt w v (M.lex l).1 := by
  obtain ⟨h1, h2⟩ := M.lex_small l
  exact tokAt_of_owns h (by omega) fun x hx => by have := h2 x hx; unfold maxLen; omega

theorem TokAt.keep {w w' : World} {v : Value} {ts : List M.Tok} (h : TokAt w v ts) (hb : Below w.heap.size w w') : TokAt w' v ts := by
  obtain ⟨h1, h2, a, cap, rfl, h3⟩ := h
  refine ⟨h1, h2, a, cap, rfl, ?_⟩
  rcases h3 with h3 | ⟨b, o, rfl, hlt, hc⟩
  · exact .inl h3
  · refine .inr ⟨b, o, rfl, Nat.lt_of_lt_of_le hlt hb.size, fun i hi => ?_⟩
    obtain ⟨c1, c2, c3⟩ := hc i hi
    exact ⟨by rw [hb.cell (p := ⟨b, o + i * 3, none⟩) hlt]; exact c1, by rw [hb.cell (p := ⟨b, o + i * 3 + 1, none⟩) hlt]; exact c2, by rw [hb.cell (p := ⟨b, o + i * 3 + 2, none⟩) hlt]; exact c3⟩

theorem TokAt.alloc {w : World} {v : Value} {ts : List M.Tok} (h : TokAt w v ts) (o : Obj) : TokAt (w.alloc o) v ts := h.keep ((Below.refl _ _).alloc (Nat.le_refl _) o)
theorem below_drewN {B : Nat} {a w : World} (h : Below B a w) (n : Nat) : Below B a (w.drewN n) := ⟨h.os, h.tape, h.output, h.size, h.block⟩
theorem TokAt.drewN {w : World} {v : Value} {ts : List M.Tok} (h : TokAt w v ts) (n : Nat) : TokAt (w.drewN n) v ts := h.keep (below_drewN (Below.refl _ _) n)

/-- a new row of tokens -/
theorem tokAt_new (w : World) (ts : List M.Tok) (cs : Array Value) (g n cap : Nat) (hg : g = w.heap.size) (hc : cs = (M.row ts).toArray) (hn : n = ts.length) (hl : ts.length ≤ 140737488355328) (hs : ∀ x, x ∈ ts → x.t.size ≤ maxLen) :
    TokAt (w.alloc (.cells cs 69)) (.slice (some ⟨g, 0, none⟩) n cap) ts := by
  subst hg hc hn
  have hh := heap_alloc_new w (.cells (M.row ts).toArray 69)
  refine ⟨hl, hs, some ⟨w.heap.size, 0, none⟩, cap, rfl, .inr ⟨w.heap.size, 0, rfl, by simp, fun i hi => ?_⟩⟩
  obtain ⟨r1, r2, r3⟩ := row_get ts i hi
  rw [Lib.cell_of_heap hh, Lib.cell_of_heap hh, Lib.cell_of_heap hh]
  simp only [Nat.zero_add, List.getElem?_toArray]
  exact ⟨r1, r2, r3⟩

theorem lexAt (s : ByteArray) (l : List UInt8) (r : List M.Tok × Int × Int) (w : World) (hs : s.size ≤ maxLen) (hl : s.data.toList = l) (hr : M.lex l = r) :
    Calls Tryz.prog 25 #[.string s] w fun e w' => ∃ v, e = .returned (.tuple #[v, .agg #[.int .i64 r.2.1, .int .i64 r.2.2]]) ∧ w'.ownsRow w.heap.size 69 3 v r.1.length (M.row r.1) ∧ Below w.heap.size w w' := by
  subst hl hr; exact lex_any s w hs

theorem eqFault (a b c d : Int) (w : World) : (binOp .eql 28 (.agg #[.int .i64 a, .int .i64 b]) (.agg #[.int .i64 c, .int .i64 d])).run Tryz.prog w = .ok (.bool (a == c && b == d)) w := by
  rw [run_eql_struct, run_equalIn_agg _ _ _ _ _ (by kernel_rfl) stood25]
  simp [go_sem]
  by_cases h1 : a = c <;> by_cases h2 : b = d <;> simp [h1, h2]

end Go.Proofs.YtkonkdhoakcmdaaGreatDoor
