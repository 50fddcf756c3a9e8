/-
  The walk of lex.Lex: the tokens of a text, or the place of its first fault (texts of whatever length that a string can have).
-/
import Derived.Test.YtkonkdhoakcmdaaGreatDoorLC
import Derived.Test.YtkonkdhoakcmdaaGreatDoorMM
import Derived.Maps.AppendAt
set_option linter.unusedVariables false
namespace Go.Proofs.YtkonkdhoakcmdaaGreatDoor
open Go.RowKit

theorem infoTok : (Tryz.prog.info? 69).map (fun i => (i.zero, i.size, i.bytes)) = some (some (.agg #[.int .i64 0, .string ⟨#[]⟩, .int .i64 0]), 3, 32) := by kernel_rfl

theorem row_snoc (l : List M.Tok) (x : M.Tok) : M.row (l ++ [x]) = M.row l ++ [.int .i64 x.k, .string x.t, .int .i64 x.p] := by simp [M.row, M.Tok.cells]

/-- the three cells of a new block -/
theorem cell_three_new (w : World) (x y z : Value) (t : TypeId) : ∀ j u, [x, y, z][j]? = some u → (w.alloc (.cells #[x, y, z] t)).cell? ((⟨w.heap.size, 0, none⟩ : Addr).add j) = some u := by
  intro j u hj
  have h := heap_alloc_new w (.cells #[x, y, z] t)
  match j, hj with
  | 0, hj => simp at hj; subst hj; simp [Addr.add, Lib.cell_of_heap h]
  | 1, hj => simp at hj; subst hj; simp [Addr.add, Lib.cell_of_heap h]
  | 2, hj => simp at hj; subst hj; simp [Addr.add, Lib.cell_of_heap h]

/-- what Lex has in its hands in a round -/
def LexRel (s : ByteArray) (w : World) (v p : Value) (w' : World) : Prop :=
  ∃ (k : Nat) (acc : List M.Tok), p = .int .i64 k ∧ M.At s.data.toList k acc ∧ w'.ownsRow (w.heap.size + 1) 69 3 v acc.length (M.row acc) ∧
    Below (w.heap.size + 1) (w.alloc (.cells #[.int .i64 0, .int .i64 0] 28)) w'

theorem extract_list (s : ByteArray) (a b : Nat) : s.extract a b = ⟨((s.data.toList.drop a).take (b - a)).toArray⟩ := by
  apply M.bytes_ext
  rw [Lib.extract_data]

/-- the fault's cells, in whatever world stands behind -/
theorem fault_cells {w w' : World} (h : Below (w.heap.size + 1) (w.alloc (.cells #[.int .i64 0, .int .i64 0] 28)) w') :
    w'.cell? ⟨w.heap.size, 0, none⟩ = some (.int .i64 0) ∧ w'.cell? ⟨w.heap.size, 1, none⟩ = some (.int .i64 0) ∧ w'.frozen? ⟨w.heap.size, 0, none⟩ = false ∧ w'.frozen? ⟨w.heap.size, 1, none⟩ = false := by
  have hn := heap_alloc_new w (.cells #[.int .i64 0, .int .i64 0] 28)
  refine ⟨?_, ?_, ?_, ?_⟩
  · rw [h.cell (p := ⟨w.heap.size, 0, none⟩) (Nat.lt_succ_self _), Lib.cell_of_heap hn]; rfl
  · rw [h.cell (p := ⟨w.heap.size, 1, none⟩) (Nat.lt_succ_self _), Lib.cell_of_heap hn]; rfl
  · rw [h.frozen (p := ⟨w.heap.size, 0, none⟩) (Nat.lt_succ_self _), Lib.frozen_of_heap hn]
  · rw [h.frozen (p := ⟨w.heap.size, 1, none⟩) (Nat.lt_succ_self _), Lib.frozen_of_heap hn]

theorem ownsRow_base {w : World} {b b' : Nat} {e : TypeId} {z : Nat} {v : Value} {n : Nat} {xs : List Value} (h : w.ownsRow b e z v n xs) (hb : b' ≤ b) : w.ownsRow b' e z v n xs := by
  refine ⟨h.1, ?_⟩
  rcases h.2 with h | ⟨g, cap, cur, hv, hg, r⟩
  · exact .inl h
  · exact .inr ⟨g, cap, cur, hv, Nat.le_trans hb hg, r⟩

theorem ownsRow_below {w w2 : World} {b : Nat} {e : TypeId} {z : Nat} {v : Value} {n : Nat} {xs : List Value} (h : w.ownsRow b e z v n xs) (hb : Below w.heap.size w w2) : w2.ownsRow b e z v n xs := by
  refine ⟨h.1, ?_⟩
  rcases h.2 with h | ⟨g, cap, cur, hv, hg, hh, r⟩
  · exact .inl h
  · refine .inr ⟨g, cap, cur, hv, hg, ?_, r⟩
    rw [hb.block g (Array.getElem?_eq_some_iff.1 hh).1]; exact hh

/-- a token more -/
theorem LexRel.next {s : ByteArray} {w w1 w2 w3 : World} {k E : Nat} {x : Int} {v v' : Value} {acc : List M.Tok} (hat : M.At s.data.toList k acc)
    (hn : M.nxt (s.data.toList.drop k) = some (some x, E - k)) (hge : k ≤ E) (hbw : Below (w.heap.size + 1) (w.alloc (.cells #[.int .i64 0, .int .i64 0] 28)) w1)
    (hown : w1.ownsRow (w.heap.size + 1) 69 3 v acc.length (M.row acc)) (hb2 : Below w1.heap.size w1 w2) (o : Obj)
    (hown3 : w3.ownsRow (w.heap.size + 1) 69 3 v' (acc.length + 1) (M.row acc ++ [.int .i64 x, .string (s.extract k E), .int .i64 k])) (hg : (w2.alloc o).grownBy w3 v.ownBlock) :
    LexRel s w v' (.int .i64 E) w3 := by
  have hst := hat.tok hn
  rw [show k + (E - k) = E by omega, ← extract_list] at hst
  refine ⟨E, _, rfl, hst, ?_, ?_⟩
  · rw [row_snoc]; simpa using hown3
  · have h1 := hbw.size
    simp at h1
    have h2 := hb2.size
    refine ((hbw.trans (hb2.mono (by omega))).alloc (by omega) o).grown hg (by simp; omega) ?_
    intro g hgv
    exact (hown.lt g hgv).1

set_option maxHeartbeats 1000000 in
theorem lex_any (s : ByteArray) (w : World) (hs : s.size ≤ maxLen) :
    Calls Tryz.prog 25 #[.string s] w fun e w' => ∃ v, e = .returned (.tuple #[v, .agg #[.int .i64 (M.lex s.data.toList).2.1, .int .i64 (M.lex s.data.toList).2.2]]) ∧ w'.ownsRow w.heap.size 69 3 v (M.lex s.data.toList).1.length (M.row (M.lex s.data.toList).1) ∧ Below w.heap.size w w' := by
  have hs' := hs
  unfold maxLen at hs'
  by_cases hlong : 65536 < s.size
  · have HL : Hid (M.lex s.data.toList = ([], 11, 0)) := by unfold Hid M.lex; rw [if_pos (by rw [len_list]; exact hlong)]
    go_enter Tryz.func25, Tryz.ntmps25
    go_wp2
    go_step3
    go_wp2
    try rw [Exit.noGoto_ret]
    refine bodyPost_ret (v := .tuple #[.slice none 0 0, .agg #[.int .i64 11, .int .i64 0]]) (by simp [results, Tryz.results25, go_sem]) rfl ⟨.slice none 0 0, ?_, ?_, ?_⟩
    · rw [HL.out]
    · rw [HL.out]; exact World.ownsRow_nil _ _ _ _
    · exact (Below.refl _ _).alloc (Nat.le_refl _) _
  · have hdl : decide (65536 < (s.size : Int)) = false := by simp; omega
    have HLx : Hid (M.lex s.data.toList = (match M.lexF 0 s.data.toList with | .error e => ([], 10, (e : Int)) | .ok ts => (ts, 0, 0))) := by
      unfold Hid M.lex M.lexF; rw [if_neg (by rw [len_list]; exact hlong)]
      cases M.lexL s.data.toList.length 0 s.data.toList <;> rfl
    go_enter Tryz.func25, Tryz.ntmps25
    go_wp2
    go_step3
    go_wp2
    go_step3
    go_wp2
    go_loopw [4, 5] (fun v p w' => LexRel s w v p w') (fun _ p _ => s.size - (intOf p).toNat)
    case atStart => exact ⟨0, [], rfl, M.At.start _, World.ownsRow_nil _ _ _ _, Below.refl _ _⟩
    case round =>
      obtain ⟨k, acc, rfl, hat, hown, hbw⟩ := hrel
      have hk : k ≤ s.size := by have := hat.1; rw [len_list] at this; exact this
      obtain ⟨fc0, fc1, ff0, ff1⟩ := fault_cells hbw
      by_cases hlt : k < s.size
      · have hnx := M.nxt_at s.data.toList k (by rw [len_list]; exact hlt)
        rw [at_list s k hlt] at hnx
        by_cases k1 : M.cls s[k].toNat = 1
        · rw [if_pos k1] at hnx
          have HN := hid hnx
          clear hnx
          go_wp2_with (go_at_call 35; refine (classOf_byte _ _).mono ?_; rintro e w' ⟨rfl, rfl⟩)
          exact ⟨⟨k + 1, acc, by go_num, hat.skip HN.out, hown, hbw⟩, by simp [intOf]; omega⟩
        · rw [if_neg k1] at hnx
          by_cases k2 : M.cls s[k].toNat = 2
          · rw [if_pos k2] at hnx
            have HN := hid hnx
            clear hnx
            go_wp2_with (first | (go_at_call 35; refine (classOf_byte _ _).mono ?_; rintro e w' ⟨rfl, rfl⟩) | (go_at_call 36; refine (remarkEnd_any s k _ (by omega) hk).mono ?_; rintro e w' ⟨rfl, rfl⟩))
            have hge := M.ext_ge M.pNl s.data.toList k
            have hst := hat.skip HN.out
            have hnb := M.nxt_bounds HN.out
            rw [show k + (M.ext M.pNl s.data.toList k - k) = M.ext M.pNl s.data.toList k by omega] at hst
            exact ⟨⟨_, acc, rfl, hst, hown, hbw⟩, by simp [intOf]; omega⟩
          · rw [if_neg k2] at hnx
            by_cases k3 : M.cls s[k].toNat = 3
            · rw [if_pos k3] at hnx
              have HN := hid hnx
              clear hnx
              have hge := M.ext_ge M.pInn s.data.toList k
              have hle := M.ext_le M.pInn s.data.toList k (by rw [len_list]; exact hk)
              rw [len_list] at hle
              obtain ⟨i0, hi, hz0, hz1, hz2⟩ := info_parts infoTok
              have hal := hat.2.1
              go_wp2_with (first | (go_at_call 35; refine (classOf_byte _ _).mono ?_; rintro e w' ⟨rfl, rfl⟩) | (go_at_call 37; refine (wordEnd_any s k _ (by omega) hk).mono ?_; rintro e w' ⟨rfl, rfl⟩) | (go_at_call 40; refine (clone_any _ _ ?hc).mono ?_))
              case hc => simp; omega
              rintro e w2 ⟨rfl, hb2⟩
              have hown2 := ownsRow_below hown hb2
              have hz2' := hb2.size
              have hz1' := hbw.size
              simp at hz1'
              go_wp2_with (at_builtin; refine wpList_append_own _ rfl _ _ 22 rfl (w.heap.size + 1) 69 i0 (.agg #[.int .i64 0, .string ⟨#[]⟩, .int .i64 0]) 3 32 Tryz.underlying22 hi hz0 hz1 hz2 rfl (by decide) _ _ _ rfl (hown2.alloc _) ⟨w2.heap.size, 0, none⟩ 1 1 [.int .i64 0, .string (s.extract k (M.ext M.pInn s.data.toList k)), .int .i64 k] rfl rfl ?c1 ?c2 ?c3 ?c4 ?c5 ?_)
              case c1 => exact cell_three_new _ _ _ _ _
              case c2 => intro u hu; simp at hu; rcases hu with rfl | rfl | rfl <;> rfl
              case c3 => unfold maxLen; omega
              case c4 => omega
              case c5 => simp; omega
              intro v' w3 hown3 hgrow _
              go_wp2
              have hnb := M.nxt_bounds HN.out
              exact ⟨LexRel.next hat HN.out hge hbw hown hb2 _ hown3 hgrow, by simp [intOf]; omega⟩
            · rw [if_neg k3] at hnx
              by_cases k5 : M.cls s[k].toNat = 5
              · rw [if_pos k5] at hnx
                have HN := hid hnx
                clear hnx
                obtain ⟨i0, hi, hz0, hz1, hz2⟩ := info_parts infoTok
                have hal := hat.2.1
                go_wp2_with (first | (go_at_call 35; refine (classOf_byte _ _).mono ?_; rintro e w' ⟨rfl, rfl⟩) | (go_at_call 40; refine (clone_any _ _ ?hc).mono ?_))
                case hc => simp; omega
                rintro e w2 ⟨rfl, hb2⟩
                have hown2 := ownsRow_below hown hb2
                have hz2' := hb2.size
                have hz1' := hbw.size
                simp at hz1'
                go_wp2_with (at_builtin; refine wpList_append_own _ rfl _ _ 22 rfl (w.heap.size + 1) 69 i0 (.agg #[.int .i64 0, .string ⟨#[]⟩, .int .i64 0]) 3 32 Tryz.underlying22 hi hz0 hz1 hz2 rfl (by decide) _ _ _ rfl (hown2.alloc _) ⟨w2.heap.size, 0, none⟩ 1 1 [.int .i64 2, .string (s.extract k (k + 1)), .int .i64 k] rfl rfl ?c1 ?c2 ?c3 ?c4 ?c5 ?_)
                case c1 => exact cell_three_new _ _ _ _ _
                case c2 => intro u hu; simp at hu; rcases hu with rfl | rfl | rfl <;> rfl
                case c3 => unfold maxLen; omega
                case c4 => omega
                case c5 => simp; omega
                intro v' w3 hown3 hgrow _
                go_wp2
                have hnb := M.nxt_bounds HN.out
                exact ⟨LexRel.next (E := k + 1) hat (by rw [HN.out]; simp) (by omega) hbw hown hb2 _ hown3 hgrow, by simp [intOf]; omega⟩
              · rw [if_neg k5] at hnx
                by_cases k4 : M.cls s[k].toNat = 4
                · rw [if_pos k4] at hnx
                  have hge := M.ext_ge M.pDig s.data.toList k
                  have hle := M.ext_le M.pDig s.data.toList k (by rw [len_list]; exact hk)
                  rw [len_list] at hle
                  by_cases h9 : M.ext M.pDig s.data.toList k - k ≤ 9
                  · cases hg : M.goB s.data.toList (M.ext M.pDig s.data.toList k)
                    · rw [if_pos ⟨h9, hg⟩] at hnx
                      have h9' : (M.ext M.pDig s.data.toList k : Int) - k ≤ 9 := by omega
                      have HN := hid hnx
                      clear hnx
                      obtain ⟨i0, hi, hz0, hz1, hz2⟩ := info_parts infoTok
                      have hal := hat.2.1
                      go_wp2_with (first | (go_at_call 35; refine (classOf_byte _ _).mono ?_; rintro e w' ⟨rfl, rfl⟩) | (go_at_call 38; refine (digitsEnd_any s k _ (by omega) hk).mono ?_; rintro e w' ⟨rfl, rfl⟩) | (go_at_call 39; refine (goesOn_any s (M.ext M.pDig s.data.toList k) _ (by omega) hle).mono ?_; rintro e w' ⟨rfl, rfl⟩) | (go_at_call 40; refine (clone_any _ _ ?hc).mono ?_))
                      case hc => simp; omega
                      rintro e w2 ⟨rfl, hb2⟩
                      have hown2 := ownsRow_below hown hb2
                      have hz2' := hb2.size
                      have hz1' := hbw.size
                      simp at hz1'
                      go_wp2_with (at_builtin; refine wpList_append_own _ rfl _ _ 22 rfl (w.heap.size + 1) 69 i0 (.agg #[.int .i64 0, .string ⟨#[]⟩, .int .i64 0]) 3 32 Tryz.underlying22 hi hz0 hz1 hz2 rfl (by decide) _ _ _ rfl (hown2.alloc _) ⟨w2.heap.size, 0, none⟩ 1 1 [.int .i64 1, .string (s.extract k (M.ext M.pDig s.data.toList k)), .int .i64 k] rfl rfl ?c1 ?c2 ?c3 ?c4 ?c5 ?_)
                      case c1 => exact cell_three_new _ _ _ _ _
                      case c2 => intro u hu; simp at hu; rcases hu with rfl | rfl | rfl <;> rfl
                      case c3 => unfold maxLen; omega
                      case c4 => omega
                      case c5 => simp; omega
                      intro v' w3 hown3 hgrow _
                      go_wp2
                      have hnb := M.nxt_bounds HN.out
                      exact ⟨LexRel.next hat HN.out hge hbw hown hb2 _ hown3 hgrow, by simp [intOf]; omega⟩
                    · rw [if_neg (by rw [hg]; simp)] at hnx
                      have h9' : (M.ext M.pDig s.data.toList k : Int) - k ≤ 9 := by omega
                      have HN := hid hnx
                      clear hnx
                      have HR : Hid (M.lexF 0 s.data.toList = .error k) := hat.bad (by rw [len_list]; exact hlt) HN.out
                      go_wp2_with (first | (go_at_call 35; refine (classOf_byte _ _).mono ?_; rintro e w' ⟨rfl, rfl⟩) | (go_at_call 38; refine (digitsEnd_any s k _ (by omega) hk).mono ?_; rintro e w' ⟨rfl, rfl⟩) | (go_at_call 39; refine (goesOn_any s (M.ext M.pDig s.data.toList k) _ (by omega) hle).mono ?_; rintro e w' ⟨rfl, rfl⟩))
                      try rw [Exit.noGoto_ret]
                      refine bodyPost_ret (v := .tuple #[.slice none 0 0, .agg #[.int .i64 10, .int .i64 k]]) (by simp [results, Tryz.results25, go_sem, fc0, fc1]) rfl ⟨.slice none 0 0, ?_, ?_, ?_⟩
                      · rw [HLx.out, HR.out]
                      · rw [HLx.out, HR.out]
                        exact World.ownsRow_nil _ _ _ _
                      · exact ((((Below.refl _ _).alloc (Nat.le_refl _) _).trans (hbw.mono (Nat.le_succ _))).setCell (p := ⟨w.heap.size, 0, none⟩) (Nat.le_refl _) _).setCell (p := ⟨w.heap.size, 1, none⟩) (Nat.le_refl _) _
                  · rw [if_neg (by intro h; exact h9 h.1)] at hnx
                    have h9' : ¬ (M.ext M.pDig s.data.toList k : Int) - k ≤ 9 := by omega
                    have HN := hid hnx
                    clear hnx
                    have HR : Hid (M.lexF 0 s.data.toList = .error k) := hat.bad (by rw [len_list]; exact hlt) HN.out
                    go_wp2_with (first | (go_at_call 35; refine (classOf_byte _ _).mono ?_; rintro e w' ⟨rfl, rfl⟩) | (go_at_call 38; refine (digitsEnd_any s k _ (by omega) hk).mono ?_; rintro e w' ⟨rfl, rfl⟩))
                    try rw [Exit.noGoto_ret]
                    refine bodyPost_ret (v := .tuple #[.slice none 0 0, .agg #[.int .i64 10, .int .i64 k]]) (by simp [results, Tryz.results25, go_sem, fc0, fc1]) rfl ⟨.slice none 0 0, ?_, ?_, ?_⟩
                    · rw [HLx.out, HR.out]
                    · rw [HLx.out, HR.out]
                      exact World.ownsRow_nil _ _ _ _
                    · exact ((((Below.refl _ _).alloc (Nat.le_refl _) _).trans (hbw.mono (Nat.le_succ _))).setCell (p := ⟨w.heap.size, 0, none⟩) (Nat.le_refl _) _).setCell (p := ⟨w.heap.size, 1, none⟩) (Nat.le_refl _) _
                · rw [if_neg k4] at hnx
                  have HN := hid hnx
                  clear hnx
                  have HR : Hid (M.lexF 0 s.data.toList = .error k) := hat.bad (by rw [len_list]; exact hlt) HN.out
                  go_wp2_with (first | (go_at_call 35; refine (classOf_byte _ _).mono ?_; rintro e w' ⟨rfl, rfl⟩))
                  try rw [Exit.noGoto_ret]
                  refine bodyPost_ret (v := .tuple #[.slice none 0 0, .agg #[.int .i64 10, .int .i64 k]]) (by simp [results, Tryz.results25, go_sem, fc0, fc1]) rfl ⟨.slice none 0 0, ?_, ?_, ?_⟩
                  · rw [HLx.out, HR.out]
                  · rw [HLx.out, HR.out]
                    exact World.ownsRow_nil _ _ _ _
                  · exact ((((Below.refl _ _).alloc (Nat.le_refl _) _).trans (hbw.mono (Nat.le_succ _))).setCell (p := ⟨w.heap.size, 0, none⟩) (Nat.le_refl _) _).setCell (p := ⟨w.heap.size, 1, none⟩) (Nat.le_refl _) _
      · have HR : Hid (M.lexF 0 s.data.toList = .ok acc) := hat.done (by rw [len_list]; omega)
        go_wp2
        try rw [Exit.noGoto_ret]
        refine bodyPost_ret (v := .tuple #[u4, .agg #[.int .i64 0, .int .i64 0]]) (by simp [results, Tryz.results25, go_sem, fc0, fc1]) rfl ⟨u4, ?_, ?_, ?_⟩
        · rw [HLx.out, HR.out]
        · rw [HLx.out, HR.out]
          exact ownsRow_base (ownsRow_setCell_below (ownsRow_setCell_below hown (Nat.lt_succ_self _) _) (Nat.lt_succ_self _) _) (Nat.le_succ _)
        · exact ((((Below.refl _ _).alloc (Nat.le_refl _) _).trans (hbw.mono (Nat.le_succ _))).setCell (p := ⟨w.heap.size, 0, none⟩) (Nat.le_refl _) _).setCell (p := ⟨w.heap.size, 1, none⟩) (Nat.le_refl _) _
end Go.Proofs.YtkonkdhoakcmdaaGreatDoor
