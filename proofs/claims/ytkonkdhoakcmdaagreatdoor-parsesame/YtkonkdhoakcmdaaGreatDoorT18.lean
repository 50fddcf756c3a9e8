/-
  The walk of the document's Parse (proteanref02): what program any bytes are, or their first fault. Conditions: a string's length.
-/
import Derived.Test.YtkonkdhoakcmdaaGreatDoorT17
import Derived.Test.YtkonkdhoakcmdaaGreatDoorR19
import Derived.Test.YtkonkdhoakcmdaaGreatDoorS7
set_option linter.unusedVariables false
set_option linter.unusedSimpArgs false
namespace Go.Proofs.YtkonkdhoakcmdaaGreatDoor
open Go.RowKit

set_option maxRecDepth 16000 in
set_option maxHeartbeats 3200000 in
theorem rparse_any (s : ByteArray) (w : World) (hs : s.size ≤ maxLen) :
    Calls Tryz.prog 11 #[.string s] w fun e w' => Below w.heap.size w w' ∧ ∃ vf, e = .returned (.tuple #[.agg #[vf], .agg #[.int .i64 (M.parseR s.data.toList).2.1, .int .i64 (M.parseR s.data.toList).2.2]]) ∧ ProgAt w' (Old w) vf (M.parseR s.data.toList).1 := by
  have hs' := hs
  unfold maxLen at hs'
  have hbw0 := Below.refl w.heap.size w
  have hsm := (M.lex_small s.data.toList).1
  go_enter Tryz.func11, Tryz.ntmps11
  go_wp2_with fail
  refine (rLex_any s _ hs).mono ?_
  rintro e w1 ⟨v1, rfl, own1, hb⟩
  obtain ⟨ht1, hap1, hcap1, _⟩ := lexed hb own1
  obtain ⟨av, cv, rfl⟩ := own_form own1
  obtain ⟨hR1, hF1, _, hbw1⟩ := two_new hb
  clear hb own1
  have c0 := cell0 hR1
  have f0 := Lib.frozen_of_heap hR1
  obtain ⟨g0, g1, gf, gz⟩ := cells2 hF1
  have e0 : w.heap.size < w1.heap.size := by omega
  by_cases hc : (M.lex s.data.toList).2.1 = 0
  · have HP : Hid (M.parseR s.data.toList = M.readR (M.lex s.data.toList).1 s.size) := by unfold Hid M.parseR; rw [if_pos hc, len_list]
    have hW : w.heap.size + 2 ≤ w1.heap.size + 1 := by omega
    go_wp2_with fail
    refine (rread_any av cv (M.lex s.data.toList).1 _ _ (ht1.alloc _) (by omega)).mono ?_
    rintro e w2 ⟨hb, vf, rfl, hP⟩
    obtain ⟨_, _, hbn⟩ := one_new hb
    have hR2 := kept hbn hR1
    have hF2 := kept hbn hF1
    have hbw2 := hbw1.trans (hbn.mono hbw1.size)
    obtain ⟨af, cf, rfl⟩ : ∃ a c, vf = .slice a (M.readR (M.lex s.data.toList).1 s.size).1.length c := by obtain ⟨_, h1, _⟩ := hP; exact SlAt.form h1
    clear c0 f0 g0 g1 gf gz hR1 hF1
    have c0 := cell0 hR2
    have f0 := Lib.frozen_of_heap hR2
    obtain ⟨g0, g1, gf, gz⟩ := cells2 hF2
    have hz2 := hbn.size
    have e2 : w.heap.size < w2.heap.size := by omega
    have hP2 : ProgAt w2 (fun b => b < w.heap.size + 2) (.slice af (M.readR (M.lex s.data.toList).1 s.size).1.length cf) (M.readR (M.lex s.data.toList).1 s.size).1 := hP.weak fun b _ hx hy => hx (by show b < _; rw [World.size_alloc]; exact Nat.lt_of_lt_of_le hy hW)
    clear hP hb hbn
    generalize M.readR (M.lex s.data.toList).1 s.size = res at *
    go_wp2_with fail
    refine bodyPost_ret (v := .tuple #[.agg #[.slice af res.1.length cf], .agg #[.int .i64 res.2.1, .int .i64 res.2.2]]) (by simp [results, Tryz.results11, go_sem, c0, g0, g1, e2, gz]) rfl ⟨?_, .slice af res.1.length cf, by rw [HP.out], ?_⟩
    · repeat (first | with_reducible exact hbw2 | with_reducible refine Below.setCell ?_ (by first | omega | (simp; done) | (simp; omega)) _ | with_reducible refine Below.drew ?_ | with_reducible refine Below.alloc ?_ (by first | omega | (simp; done) | (simp; omega)) _)
    · rw [HP.out]
      refine (hP2.keep ?_).weak fun b _ hx hy => hx (by have : b < w.heap.size := hy; omega)
      repeat (first | with_reducible exact keep_self | with_reducible refine keep_drew ?_ | with_reducible refine keep_alloc ?_ | with_reducible refine keep_setc ?_ (by first | omega | (simp; done) | (simp; omega)))
  · have HP : Hid (M.parseR s.data.toList = ([], (M.lex s.data.toList).2)) := by unfold Hid M.parseR; rw [if_neg hc]
    have hcb : ((M.lex s.data.toList).2.1 != 0) = true := by simpa using hc
    have n1 : ¬ w.heap.size = w1.heap.size := by omega
    have n2 : ¬ w.heap.size + 1 = w1.heap.size := by omega
    have n3 : ¬ w1.heap.size = w.heap.size := by omega
    have n4 : ¬ w1.heap.size = w.heap.size + 1 := by omega
    go_wp2_with fail
    go_region
    all_goals
      go_wp2_with fail
      refine bodyPost_ret (v := .tuple #[.agg #[.slice none 0 0], .agg #[.int .i64 (M.lex s.data.toList).2.1, .int .i64 (M.lex s.data.toList).2.2]]) (by simp [results, Tryz.results11, go_sem, c0, g0, g1, e0, gz]) rfl ⟨?_, .slice none 0 0, by rw [HP.out], by rw [HP.out]; exact ⟨[], SlAt.nil _ _, rfl⟩⟩
      repeat (first | with_reducible exact hbw1 | with_reducible refine Below.setCell ?_ (by first | omega | (simp; done) | (simp; omega)) _ | with_reducible refine Below.drew ?_ | with_reducible refine Below.alloc ?_ (by first | omega | (simp; done) | (simp; omega)) _)
theorem rparseAt (s : ByteArray) (p : List M.Fn) (f : M.Flt) (w : World) (hs : s.size ≤ maxLen) (hr : M.parseR s.data.toList = (p, f)) :
    Calls Tryz.prog 11 #[.string s] w fun e w' => Below w.heap.size w w' ∧ ∃ a c, e = .returned (.tuple #[.agg #[.slice a p.length c], .agg #[.int .i64 f.1, .int .i64 f.2]]) ∧ ProgAt w' NoX (.slice a p.length c) p := by
  refine (rparse_any s w hs).mono ?_
  rintro e w' ⟨hb, vf, rfl, hP⟩
  rw [hr] at hP ⊢
  obtain ⟨a, c, rfl⟩ : ∃ a c, vf = .slice a p.length c := by obtain ⟨_, h1, _⟩ := hP; exact SlAt.form h1
  exact ⟨hb, a, c, rfl, hP.weak fun _ _ _ h => h⟩
theorem ProgAt.bel {w w' : World} {X : Nat → Prop} {v : Value} {l : List M.Fn} (h : ProgAt w X v l) (hb : Below w.heap.size w w') : ProgAt w' X v l := h.keep (Below.keepX hb)
theorem toList_self (s : ByteArray) : (s.toList == s.toList) = true := by simp
end Go.Proofs.YtkonkdhoakcmdaaGreatDoor
