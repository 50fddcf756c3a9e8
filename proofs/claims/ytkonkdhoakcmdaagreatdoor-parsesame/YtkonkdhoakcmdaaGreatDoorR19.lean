/-
  The walk of Parse: what program bytes are, or their first fault. Conditions: the text is a string.
-/
import Derived.Test.YtkonkdhoakcmdaaGreatDoorR18
set_option linter.unusedVariables false
namespace Go.Proofs.YtkonkdhoakcmdaaGreatDoor
open Go.RowKit

def M.parseR (s : List UInt8) : List M.Fn × M.Flt :=
  if (M.lex s).2.1 = 0 then M.readR (M.lex s).1 s.length else ([], (M.lex s).2)

theorem lexed {w w1 : World} {v : Value} {l : List UInt8} (hb : Below w.heap.size w w1) (h : w1.ownsRow w.heap.size 69 3 v (M.lex l).1.length (M.row (M.lex l).1)) :
    TokAt w1 v (M.lex l).1 ∧ (∀ b o n c, v = .slice (some ⟨b, o, none⟩) n c → b < w1.heap.size) ∧ (∀ a n c, v = .slice a n c → n ≤ c ∧ c ≤ maxLen) ∧ (M.lex l).1.length ≤ 4398046511104 := by
  obtain ⟨h1, h2⟩ := M.lex_small l
  refine ⟨lex_tokAt h, ?_, ?_, by omega⟩
  · intro b o n c e
    rcases h.2 with ⟨rfl, _⟩ | ⟨g, cap, cur, rfl, _, hh, _⟩
    · cases e
    · simp at e
      obtain ⟨⟨rfl, _⟩, _⟩ := e
      exact (Array.getElem?_eq_some_iff.1 hh).1
  · intro a n c e
    rcases h.2 with ⟨rfl, _⟩ | ⟨g, cap, cur, rfl, _, hh, hn, hc, _⟩
    · simp at e
      obtain ⟨_, rfl, rfl⟩ := e
      exact ⟨Nat.le_refl _, Nat.zero_le _⟩
    · simp at e
      obtain ⟨_, rfl, rfl⟩ := e
      exact ⟨hn, hc⟩

theorem res_parse {tm : Array Value} {W : World} {g k : Nat} {v0 a b : Value} (ht : tm.getD 2 undef = .pointer (some ⟨g, 0, none⟩)) (ht2 : tm.getD 3 undef = .pointer (some ⟨k, 0, none⟩)) (h : W.heap[g]? = some (.cells #[v0] 25 (0, 0))) (h2 : W.heap[k]? = some (.cells #[a, b] 28 (0, 0))) :
    (results Tryz.f10 tm).run Tryz.prog W = .ok (.tuple #[.agg #[v0], .agg #[a, b]]) W := by
  have k0 := cell0 h
  have k1 : W.cell? ⟨k, 0, none⟩ = some a := by rw [Lib.cell_of_heap h2]; rfl
  have k2 : W.cell? ⟨k, 1, none⟩ = some b := by rw [Lib.cell_of_heap h2]; rfl
  simp only [Array.getD_eq_getD_getElem?] at ht ht2
  simp [results, Tryz.results10, go_sem, ht, ht2, k0, k1, k2]
/-- the two results are laid -/
theorem laid2 {W : World} {p : Nat} {v0 v1 v2 a b c : Value} (hp : W.heap[p]? = some (.cells #[v0] 25 (0, 0))) (hq : W.heap[p + 1]? = some (.cells #[v1, v2] 28 (0, 0))) :
    (((W.setCell ⟨p, 0, none⟩ a).setCell ⟨p + 1, 0, none⟩ b).setCell ⟨p + 1, 1, none⟩ c).heap[p]? = some (.cells #[a] 25 (0, 0)) ∧ (((W.setCell ⟨p, 0, none⟩ a).setCell ⟨p + 1, 0, none⟩ b).setCell ⟨p + 1, 1, none⟩ c).heap[p + 1]? = some (.cells #[b, c] 28 (0, 0)) := by
  have hn : p ≠ p + 1 := by omega
  have hn' : p + 1 ≠ p := by omega
  have e1 : ((W.setCell ⟨p, 0, none⟩ a).setCell ⟨p + 1, 0, none⟩ b).heap[p + 1]? = some (.cells #[b, v2] 28 (0, 0)) := heap_setCell_same _ _ _ _ _ _ ((Below.heap_setCell _ _ _ _ hn').trans hq)
  refine ⟨?_, heap_setCell_same _ _ _ _ _ _ e1⟩
  rw [Below.heap_setCell _ _ _ _ hn, Below.heap_setCell _ _ _ _ hn]
  exact heap_setCell_same _ _ _ _ _ _ hp

set_option maxRecDepth 8000 in
set_option maxHeartbeats 1600000 in
theorem parse_any (s : ByteArray) (w : World) (hs : s.size ≤ maxLen) :
    Calls Tryz.prog 10 #[.string s] w fun e w' => Below w.heap.size w w' ∧ ∃ vf, e = .returned (.tuple #[.agg #[vf], .agg #[.int .i64 (M.parseR s.data.toList).2.1, .int .i64 (M.parseR s.data.toList).2.2]]) ∧ ProgAt w' (Old w) vf (M.parseR s.data.toList).1 := by
  have hs' := hs
  unfold maxLen at hs'
  have hb0 : Below w.heap.size w ((w.alloc zero1).alloc (.cells #[.int .i64 0, .int .i64 0] 28)) := ((Below.refl _ _).alloc (Nat.le_refl _) _).alloc (by simp) _
  have hp0 : ((w.alloc zero1).alloc (.cells #[.int .i64 0, .int .i64 0] 28)).heap[w.heap.size]? = some zero1 := (Below.heap_alloc _ _ _ (by simp)).trans (heap_alloc_new w _)
  have hq0 : ((w.alloc zero1).alloc (.cells #[.int .i64 0, .int .i64 0] 28)).heap[w.heap.size + 1]? = some (.cells #[.int .i64 0, .int .i64 0] 28) := by
    have := heap_alloc_new (w.alloc zero1) (.cells #[.int .i64 0, .int .i64 0] 28)
    simp only [World.size_alloc] at this; exact this
  have hz0 : ((w.alloc zero1).alloc (.cells #[.int .i64 0, .int .i64 0] 28)).heap.size = w.heap.size + 2 := by simp only [World.size_alloc]
  generalize hwa : (w.alloc zero1).alloc (.cells #[.int .i64 0, .int .i64 0] 28) = wa at hb0 hp0 hq0 hz0
  have HWA := hid hwa
  have HZA := hid hz0
  clear hwa hz0
  go_enter Tryz.func10, Tryz.ntmps10
  go_wp2_with fail
  have hg1 := HWA.out
  unfold zero1 at hg1
  rw [hg1]
  clear hg1
  refine (lex_any s _ hs).mono ?_
  rintro e w1 ⟨v1, rfl, own1, hb1⟩
  obtain ⟨ht1, hap1, hcap1, hfew1⟩ := lexed hb1 own1
  obtain ⟨av, cv, rfl⟩ := own_form own1
  have hzA := HZA.out
  have hz1 := hb1.size
  have hp1 := (hb1.block w.heap.size (by omega)).trans hp0
  have hq1 := (hb1.block (w.heap.size + 1) (by omega)).trans hq0
  have cp := cell0 hp1
  have cpf := Lib.frozen_of_heap hp1 0
  have cq0 : w1.cell? ⟨w.heap.size + 1, 0, none⟩ = some (.int .i64 0) := by rw [Lib.cell_of_heap hq1]; rfl
  have cq1 : w1.cell? ⟨w.heap.size + 1, 1, none⟩ = some (.int .i64 0) := by rw [Lib.cell_of_heap hq1]; rfl
  have cqf := fun i => Lib.frozen_of_heap hq1 i
  have hn1 : ¬ w.heap.size = w1.heap.size := by omega
  have hn2 : ¬ w.heap.size + 1 = w1.heap.size := by omega
  have hl1 : w.heap.size < w1.heap.size := by omega
  have hl2 : w.heap.size + 1 < w1.heap.size := by omega
  have hbw1 : Below w.heap.size w w1 := hb0.trans (hb1.mono (by omega))
  clear hzA
  by_cases hc : (M.lex s.data.toList).2.1 = 0
  · have HP : Hid (M.parseR s.data.toList = M.readR (M.lex s.data.toList).1 s.data.toList.length) := by unfold Hid M.parseR; rw [if_pos hc]
    go_wp2_with fail
    refine (read_any _ (M.lex s.data.toList).1 _ _ (ht1.alloc _) (fun b o n c e => by have := hap1 b o n c e; rw [World.size_alloc]; omega) hcap1 hfew1).mono ?_
    rintro e w2 ⟨hb2, vf, rfl, hP⟩
    have hsz : s.data.toList.length = s.size := len_list s
    rw [hsz] at HP
    obtain ⟨af, cf, rfl⟩ : ∃ a c, vf = .slice a (M.readR (M.lex s.data.toList).1 s.size).1.length c := by obtain ⟨_, h1, _⟩ := hP; exact SlAt.form h1
    have hz2 := hb2.size
    rw [World.size_alloc] at hz2
    have hb12 : Below w1.heap.size w1 w2 := ((Below.refl _ _).alloc (Nat.le_refl _) _).trans (hb2.mono (by rw [World.size_alloc]; omega))
    have hp2 := (hb12.block w.heap.size hl1).trans hp1
    have hq2 := (hb12.block (w.heap.size + 1) hl2).trans hq1
    clear cp cpf cq0 cq1 cqf
    have cp := cell0 hp2
    have cpf := Lib.frozen_of_heap hp2 0
    have cq0 : w2.cell? ⟨w.heap.size + 1, 0, none⟩ = some (.int .i64 0) := by rw [Lib.cell_of_heap hq2]; rfl
    have cq1 : w2.cell? ⟨w.heap.size + 1, 1, none⟩ = some (.int .i64 0) := by rw [Lib.cell_of_heap hq2]; rfl
    have cqf := fun i => Lib.frozen_of_heap hq2 i
    have HS := hid hsz
    clear hsz
    go_wp2_with fail
    obtain ⟨e1, e2⟩ := laid2 (a := .slice af (M.readR (M.lex s.data.toList).1 s.size).1.length cf) (b := .int .i64 (M.readR (M.lex s.data.toList).1 s.size).2.1) (c := .int .i64 (M.readR (M.lex s.data.toList).1 s.size).2.2) hp2 hq2
    refine bodyPost_ret (res_parse (by rfl) (by rfl) e1 e2) rfl ⟨?_, _, by rw [HP.out], ?_⟩
    · exact (((hbw1.trans (hb12.mono (by omega))).setCell (p := ⟨w.heap.size, 0, none⟩) (Nat.le_refl _) _).setCell (p := ⟨w.heap.size + 1, 0, none⟩) (Nat.le_succ _) _).setCell (p := ⟨w.heap.size + 1, 1, none⟩) (Nat.le_succ _) _
    · rw [HP.out]
      refine (hP.keep (((keep_set (p := ⟨w.heap.size, 0, none⟩) ?_ _).trans (keep_set (p := ⟨w.heap.size + 1, 0, none⟩) ?_ _)).trans (keep_set (p := ⟨w.heap.size + 1, 1, none⟩) ?_ _))).weak fun b _ hx hy => hx ?_
      · show w.heap.size < (w1.alloc _).heap.size; rw [World.size_alloc]; omega
      · show w.heap.size + 1 < (w1.alloc _).heap.size; rw [World.size_alloc]; omega
      · show w.heap.size + 1 < (w1.alloc _).heap.size; rw [World.size_alloc]; omega
      · show b < (w1.alloc _).heap.size; rw [World.size_alloc]; have : b < w.heap.size := hy; omega
  · have HP : Hid (M.parseR s.data.toList = ([], (M.lex s.data.toList).2)) := by unfold Hid M.parseR; rw [if_neg hc]
    have hcb : ((M.lex s.data.toList).2.1 != 0) = true := by simpa using hc
    go_wp2_with fail
    go_region
    go_wp2_with fail
    obtain ⟨e1, e2⟩ := laid2 (a := .slice none 0 0) (b := .int .i64 (M.lex s.data.toList).2.1) (c := .int .i64 (M.lex s.data.toList).2.2) hp1 hq1
    refine bodyPost_ret (res_parse (by rfl) (by rfl) ((Below.heap_alloc _ _ _ (by simpa [World.setCell] using hl1)).trans e1) ((Below.heap_alloc _ _ _ (by simpa [World.setCell] using hl2)).trans e2)) rfl ⟨?_, _, by rw [HP.out], ?_⟩
    · exact ((((hbw1.setCell (p := ⟨w.heap.size, 0, none⟩) (Nat.le_refl _) _).setCell (p := ⟨w.heap.size + 1, 0, none⟩) (Nat.le_succ _) _).setCell (p := ⟨w.heap.size + 1, 1, none⟩) (Nat.le_succ _) _).alloc (by simp [World.setCell]; omega) _).drew
    · rw [HP.out]
      exact ⟨[], SlAt.nil _ _, rfl⟩
end Go.Proofs.YtkonkdhoakcmdaaGreatDoor
