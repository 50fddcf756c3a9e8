/-
  The walk of proteanref01.Plain: the tokens without their places, in a new row (lists of at most 2^42 tokens).
-/
import Derived.Test.YtilkkopgbdppjaaG
import Derived.Test.YtilkkopgbdppjaaMathE
import Derived.Deep.RegionHeldLaw
set_option linter.unusedVariables false
namespace Go.Proofs.Ytilkkopgbdppjaa
open Go.RowKit

theorem plain_snoc (l : List M.Tok) (j : Nat) (h : j < l.length) : M.plain (l.take (j + 1)) = M.plain (l.take j) ++ [⟨l[j].k, l[j].t, 0⟩] := by
  rw [List.take_succ_eq_append_getElem h, M.plain, M.plain, List.map_append]; rfl

theorem plain_length (l : List M.Tok) : (M.plain l).length = l.length := by simp [M.plain]

set_option maxRecDepth 100000 in
set_option maxHeartbeats 2000000 in
theorem plain_any (v : Value) (ts : List M.Tok) (w : World) (h : TokAt w v ts) (hl : ts.length ≤ 4398046511104) :
    Calls Try.prog 14 #[v] w fun e w' => ∃ v', e = .returned v' ∧ w'.ownsRow w.heap.size 37 3 v' (M.plain ts).length (M.row (M.plain ts)) ∧ Below w.heap.size w w' := by
  obtain ⟨h1, h2, a, cap, rfl, h3⟩ := h
  have H3 := hid h3
  clear h3
  obtain ⟨i0, hi0, hz0, hz1, hz2⟩ := info_parts infoTok
  go_enter Try.func14, Try.ntmps14
  go_wp2
  go_loopw [3, 4] (fun v i w' => ∃ j : Nat, j ≤ ts.length ∧ i = .int .i64 j ∧ w'.ownsRow w.heap.size 37 3 v j (M.row (M.plain (ts.take j))) ∧ Below w.heap.size w w') (fun _ i _ => ts.length - (intOf i).toNat)
  case atStart =>
    refine ⟨0, Nat.zero_le _, rfl, ?_, (Below.refl _ _).alloc (Nat.le_refl _) _⟩
    exact World.ownsRow_made (base := w.heap.size) (e := 37) (size := 3) w #[] 0 (Nat.le_refl _) (by unfold maxLen; omega) rfl
  case round =>
    obtain ⟨j, hj, rfl, hown, hbw⟩ := hrel
    by_cases hjl : j < ts.length
    · obtain ⟨b, o, rfl, hlt, c1, c2, c3⟩ := tok_cells H3.out j hjl
      rw [← hbw.cell (p := ⟨b, o + j * 3, none⟩) hlt] at c1
      rw [← hbw.cell (p := ⟨b, o + j * 3 + 1, none⟩) hlt] at c2
      clear c3
      have hz := hbw.size
      have hne : u3.ownBlock ≠ some b := by
        intro e
        have := (hown.lt b e).1
        omega
      have hi0' : (0 : Int) ≤ (j : Int) := Int.natCast_nonneg _
      have hi1 : (j : Int) < (ts.length : Int) := by omega
      go_wp2_with fail
      go_region_held_law (fun w' => w'.cell? ⟨b, o + j * 3, none⟩ = some (.int .i64 ts[j].k) ∧ w'.cell? ⟨b, o + j * 3 + 1, none⟩ = some (.string ts[j].t))
        (first
          | go_keep
          | (go_split_ands
             refine ⟨?_, ?_⟩
             · (rw [hgrow.cell_far _ (by simp; omega) (Ne.symm hne)]; assumption)
             · (rw [hgrow.cell_far _ (by simp; omega) (Ne.symm hne)]; assumption)))
        ((refine step_append_lies _ (by rfl) _ _ _ (by rfl) w.heap.size 37 i0 _ 3 32 Try.underlying22 hi0 hz0 hz1 hz2 rfl (by omega) u3 j (M.row (M.plain (ts.take j))) (by rfl) ((hown.alloc _).drew)
            ⟨wr.heap.size, 0, none⟩ 1 1 [.int .i64 ts[j].k, .string ts[j].t, .int .i64 0] (by rfl) (by rfl) (World.news_of_block (cs := #[.int .i64 ts[j].k, .string ts[j].t, .int .i64 0]) (t := 37) (fr := (0, 0)) (heap_alloc_new wr _)) (by simp [Value.oneCell'])
            (by omega) (by unfold maxLen; omega) (by omega) (by simp; omega) (wr.heap.size + 1) (by simp) ?_; intro gg cap' w1 hown1 hgrow hat hlt1))
      go_wp2
      refine ⟨⟨j + 1, by omega, by go_num, ?_, ?_⟩, by simp [intOf]; omega⟩
      · rw [plain_snoc _ _ hjl, row_snoc]; exact hown1
      · exact ((hbw.alloc hz _).drew).grown hgrow (by simp; omega) (fun g hg => (hown.lt g hg).1)
    · go_wp2
      go_ret
      refine ⟨u3, rfl, ?_, hbw⟩
      obtain rfl : j = ts.length := by omega
      rw [List.take_of_length_le (Nat.le_refl _)] at hown
      rw [plain_length]; exact hown
end Go.Proofs.Ytilkkopgbdppjaa
