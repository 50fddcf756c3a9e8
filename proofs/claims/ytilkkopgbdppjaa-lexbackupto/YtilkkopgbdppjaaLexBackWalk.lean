/-
  The walk of the law LexBack over tokens that lie in memory and a string: the call returns true and leaves all that was there as it was (lists of at most 2^42 tokens whose print is of at most 2^47 bytes).
-/
import Derived.Test.YtilkkopgbdppjaaJ
import Derived.Test.YtilkkopgbdppjaaMathF
set_option linter.unusedVariables false
namespace Go.Proofs.Ytilkkopgbdppjaa
open Go.RowKit

namespace LexBack

theorem plain_sizes {l : List M.Tok} (h : ∀ x, x ∈ l → x.t.size ≤ maxLen) : ∀ x, x ∈ M.plain l → x.t.size ≤ maxLen := by
  intro x hx
  simp only [M.plain, List.mem_map] at hx
  obtain ⟨y, hy, rfl⟩ := hx
  exact h y hy

theorem two_cells {w w' : World} {x y : Value} {t : TypeId} (h : Below (w.heap.size + 1) (w.alloc (.cells #[x, y] t)) w') :
    w'.cell? ⟨w.heap.size, 0, none⟩ = some x ∧ w'.cell? ⟨w.heap.size, 1, none⟩ = some y := by
  have hn := heap_alloc_new w (.cells #[x, y] t)
  refine ⟨?_, ?_⟩
  · rw [h.cell (p := ⟨w.heap.size, 0, none⟩) (Nat.lt_succ_self _), Lib.cell_of_heap hn]; rfl
  · rw [h.cell (p := ⟨w.heap.size, 1, none⟩) (Nat.lt_succ_self _), Lib.cell_of_heap hn]; rfl

theorem TokAt.form {w : World} {v : Value} {ts : List M.Tok} (h : TokAt w v ts) : ∃ a cap, v = .slice a ts.length cap := by
  obtain ⟨_, _, a, cap, hv, _⟩ := h
  exact ⟨a, cap, hv⟩

/-- the three outcomes of a reading -/
theorem lex_cases (l : List UInt8) : (∃ c p, M.lex l = ([], c, p) ∧ (c != 0) = true) ∨ (∃ bs, M.lex l = (bs, 0, 0) ∧ M.may bs = true ∧ 65536 < (M.print bs).length) ∨
    (∃ bs cs, M.lex l = (bs, 0, 0) ∧ M.may bs = true ∧ (M.print bs).length ≤ 65536 ∧ M.lex (M.print bs) = (cs, 0, 0) ∧ M.plain cs = M.plain bs) := by
  have hm := M.lex_may l
  by_cases hl : 65536 < l.length
  · exact .inl ⟨11, 0, M.lex_long hl, by decide⟩
  · cases e : M.lexF 0 l with
    | error p => exact .inl ⟨10, p, M.lex_of_error (by omega) e, by decide⟩
    | ok bs =>
      have hx := M.lex_of_ok (by omega) e
      rw [hx] at hm
      by_cases hp : 65536 < (M.print bs).length
      · exact .inr (.inl ⟨bs, hx, hm, hp⟩)
      · obtain ⟨cs, h1, h2⟩ := M.lex_print bs hm (by omega)
        exact .inr (.inr ⟨bs, cs, hx, hm, by omega, h1, h2⟩)

set_option maxHeartbeats 2000000 in
theorem walk_no (v : Value) (ts : List M.Tok) (s : ByteArray) (w : World) (T : TokAt w v ts) (hl : ts.length ≤ 4398046511104) (hpr : (M.print ts).length ≤ 140737488355328) (hs : s.size ≤ maxLen) (hm : M.may ts = false) :
    Calls Try.prog 4 #[v, .string s] w fun e w' => e = .returned (.bool true) ∧ Below w.heap.size w w' := by
  have hs' := hs
  unfold maxLen at hs'
  obtain ⟨P, hP⟩ : ∃ P : ByteArray, M.print ts = P.data.toList := ⟨⟨(M.print ts).toArray⟩, by simp⟩
  have hPs : P.size = (M.print ts).length := by rw [hP, len_list]
  have HP := hid hP
  have hPm : P.size ≤ 140737488355328 := by omega
  obtain ⟨xs, c1, p1, hr1⟩ : ∃ ts c p, M.lex P.data.toList = (ts, c, p) := ⟨_, _, _, rfl⟩
  have HR1 := hid hr1
  have HM1 := hid hm
  clear hr1 hm hP hPs
  go_enter Try.func4, Try.ntmps4
  go_wp2_with fail
  refine (printAt _ ts P _ T HP.out hPm).mono ?_
  rintro e w1 ⟨rfl, hb1⟩
  go_wp2_with fail
  refine (lexAt _ _ _ _ ?hs rfl HR1.out).mono ?_
  case hs => unfold maxLen; omega
  rintro e w2 ⟨v2, rfl, hown2, hb2⟩
  go_wp2_with fail
  refine (fixed_any _).mono ?_
  rintro e w3 ⟨rfl, hb3⟩
  have z1 := hb1.size
  have z2 := hb2.size
  have z3 := hb3.size
  simp only [World.size_alloc] at z3 hb3
  have b23 : Below w2.heap.size w2 w3 := ((Below.refl _ _).alloc (Nat.le_refl _) _).trans (hb3.mono (Nat.le_succ _))
  have b03 : Below w.heap.size w w3 := (hb1.trans (hb2.mono z1)).trans (b23.mono (by omega))
  go_wp2_with fail
  refine (may_any _ ts _ (T.keep b03)).mono ?_
  rw [HM1.out]
  rintro e w4 ⟨rfl, hb4⟩
  have hX : Below w.heap.size w w4 := b03.trans (hb4.mono (by omega))
  rcases lex_cases s.data.toList with ⟨c2, p2, hr2, hc2⟩ | ⟨bs, hr2, hmb, hpl⟩ | ⟨bs, cs, hr2, hmb, hpl, hr3, hpc⟩
  · have HR2 := hid hr2
    clear hr2
    go_wp2_with fail
    refine (lexAt _ _ _ _ hs rfl HR2.out).mono ?_
    rintro e y1 ⟨v1, rfl, hown1, hc1⟩
    obtain ⟨a1, cap1, rfl⟩ := TokAt.form (tokAt_of_owns hown1 (by simp) (by intro x hx; simp at hx))
    go_wp2
    go_ret
    exact ⟨rfl, (hX.trans (hc1.mono hX.size)).alloc (Nat.le_trans hX.size hc1.size) _⟩
  · have HR2 := hid hr2
    have HM2 := hid hmb
    have hsm := M.lex_small s.data.toList
    rw [hr2] at hsm
    have nb : bs.length ≤ 65536 := hsm.1
    have HSb : Hid (∀ x, x ∈ bs → x.t.size ≤ maxLen) := fun x hx => by have := hsm.2 x hx; unfold maxLen; omega
    have hple := M.lex_print_le s.data.toList
    rw [hr2] at hple
    obtain ⟨u, hu⟩ : ∃ u : ByteArray, M.print bs = u.data.toList := ⟨⟨(M.print bs).toArray⟩, by simp⟩
    have hus : u.size = (M.print bs).length := by rw [hu, len_list]
    have hub : 65536 < u.size := by omega
    have hub2 : u.size ≤ 140737488355328 := by rw [hus]; exact hple
    have HU := hid hu
    have HR3 : Hid (M.lex u.data.toList = ([], 11, 0)) := M.lex_long (by rw [← hu]; exact hpl)
    clear hr2 hsm hple hu hus hpl
    go_wp2_with fail
    refine (lexAt _ _ _ _ hs rfl HR2.out).mono ?_
    rintro e y1 ⟨v1, rfl, hown1, hc1⟩
    have Tb : TokAt y1 v1 bs := tokAt_of_owns hown1 (by omega) HSb.out
    go_wp2_with fail
    refine (printAt _ bs u _ (Tb.alloc _) HU.out hub2).mono ?_
    rintro e y2 ⟨rfl, hc2⟩
    go_wp2_with fail
    refine (lexAt _ _ _ _ ?hs rfl HR3.out).mono ?_
    case hs => unfold maxLen; omega
    rintro e y3 ⟨v3, rfl, hown3, hc3⟩
    have x1 := hc1.size
    have x2 := hc2.size
    have x3 := hc3.size
    simp only [World.size_alloc] at x2 x3 hc2 hc3
    have b12 : Below y1.heap.size y1 y2 := ((Below.refl _ _).alloc (Nat.le_refl _) _).trans (hc2.mono (Nat.le_succ _))
    have b13 : Below y1.heap.size y1 y3 := b12.trans (hc3.mono (by omega))
    go_wp2_with fail
    refine (may_any _ bs _ ((Tb.keep b13).alloc _)).mono ?_
    rw [HM2.out]
    rintro e y4 ⟨rfl, hc4⟩
    have x4 := hc4.size
    simp only [World.size_alloc] at x4 hc4
    go_wp2
    go_ret
    exact ⟨rfl, (hX.trans (hc1.mono hX.size)).trans ((b13.mono (Nat.le_trans hX.size x1)).trans (((Below.refl _ _).alloc (by have := hX.size; omega) _).trans (hc4.mono (by have := hX.size; omega))))⟩
  · have HR2 := hid hr2
    have HM2 := hid hmb
    have HPC := hid hpc
    have hsm := M.lex_small s.data.toList
    rw [hr2] at hsm
    have nb : bs.length ≤ 65536 := hsm.1
    have HSb : Hid (∀ x, x ∈ bs → x.t.size ≤ maxLen) := fun x hx => by have := hsm.2 x hx; unfold maxLen; omega
    have hsm3 := M.lex_small (M.print bs)
    rw [hr3] at hsm3
    have nc : cs.length ≤ 65536 := hsm3.1
    have HSc : Hid (∀ x, x ∈ cs → x.t.size ≤ maxLen) := fun x hx => by have := hsm3.2 x hx; unfold maxLen; omega
    obtain ⟨u, hu⟩ : ∃ u : ByteArray, M.print bs = u.data.toList := ⟨⟨(M.print bs).toArray⟩, by simp⟩
    have hus : u.size = (M.print bs).length := by rw [hu, len_list]
    have hub : u.size ≤ 65536 := by omega
    have HU := hid hu
    have HR3 : Hid (M.lex u.data.toList = (cs, 0, 0)) := by unfold Hid; rw [← hu]; exact hr3
    clear hr2 hr3 hsm hsm3 hu hus hpl hpc
    go_wp2_with fail
    refine (lexAt _ _ _ _ hs rfl HR2.out).mono ?_
    rintro e y1 ⟨v1, rfl, hown1, hc1⟩
    have Tb : TokAt y1 v1 bs := tokAt_of_owns hown1 (by omega) HSb.out
    go_wp2_with fail
    refine (printAt _ bs u _ (Tb.alloc _) HU.out (by omega)).mono ?_
    rintro e y2 ⟨rfl, hc2⟩
    go_wp2_with fail
    refine (lexAt _ _ _ _ ?hs rfl HR3.out).mono ?_
    case hs => unfold maxLen; omega
    rintro e y3 ⟨v3, rfl, hown3, hc3⟩
    have x1 := hc1.size
    have x2 := hc2.size
    have x3 := hc3.size
    simp only [World.size_alloc] at x2 x3 hc2 hc3
    have b12 : Below y1.heap.size y1 y2 := ((Below.refl _ _).alloc (Nat.le_refl _) _).trans (hc2.mono (Nat.le_succ _))
    have b13 : Below y1.heap.size y1 y3 := b12.trans (hc3.mono (by omega))
    have Tc : TokAt y3 v3 cs := tokAt_of_owns hown3 (by omega) HSc.out
    go_wp2_with fail
    refine (may_any _ bs _ ((Tb.keep b13).alloc _)).mono ?_
    rw [HM2.out]
    rintro e y4 ⟨rfl, hc4⟩
    have x4 := hc4.size
    simp only [World.size_alloc] at x4 hc4
    obtain ⟨g1, g2⟩ := two_cells hc4
    have b34 : Below y3.heap.size y3 y4 := ((Below.refl _ _).alloc (Nat.le_refl _) _).trans (hc4.mono (Nat.le_succ _))
    have b14 : Below y1.heap.size y1 y4 := b13.trans (b34.mono (by omega))
    go_wp2_with fail
    refine (plain_any _ cs _ (Tc.keep b34) (by omega)).mono ?_
    rintro e y5 ⟨v5, rfl, hown5, hc5⟩
    have x5 := hc5.size
    have b15 : Below y1.heap.size y1 y5 := b14.trans (hc5.mono (by omega))
    go_wp2_with fail
    refine (plain_any _ bs _ (Tb.keep b15) (by omega)).mono ?_
    rintro e y6 ⟨v6, rfl, hown6, hc6⟩
    have x6 := hc6.size
    have b16 : Below y1.heap.size y1 y6 := b15.trans (hc6.mono (by omega))
    have T5 : TokAt y6 v5 (M.plain cs) := (tokAt_of_owns hown5 (by rw [plain_length]; omega) (plain_sizes HSc.out)).keep hc6
    have T6 : TokAt y6 v6 (M.plain bs) := tokAt_of_owns hown6 (by rw [plain_length]; omega) (plain_sizes HSb.out)
    go_wp2_with fail
    refine (same_any _ _ _ _ _ T5 T6).mono ?_
    rw [(M.same_iff _ _).2 HPC.out]
    rintro e y7 ⟨rfl, n7, rfl⟩
    go_wp2
    go_ret
    exact ⟨rfl, below_drewN ((hX.trans (hc1.mono hX.size)).trans (b16.mono (Nat.le_trans hX.size x1))) n7⟩

set_option maxHeartbeats 2000000 in
theorem walk_long (v : Value) (ts : List M.Tok) (s : ByteArray) (w : World) (T : TokAt w v ts) (hl : ts.length ≤ 4398046511104) (hpr : (M.print ts).length ≤ 140737488355328) (hs : s.size ≤ maxLen) (hm : M.may ts = true) (hlong : 65536 < (M.print ts).length) :
    Calls Try.prog 4 #[v, .string s] w fun e w' => e = .returned (.bool true) ∧ Below w.heap.size w w' := by
  have hs' := hs
  unfold maxLen at hs'
  obtain ⟨P, hP⟩ : ∃ P : ByteArray, M.print ts = P.data.toList := ⟨⟨(M.print ts).toArray⟩, by simp⟩
  have hPs : P.size = (M.print ts).length := by rw [hP, len_list]
  have HP := hid hP
  have hPm : P.size ≤ 140737488355328 := by omega
  obtain ⟨xs, c1, p1, hr1⟩ : ∃ ts c p, M.lex P.data.toList = (ts, c, p) := ⟨_, _, _, rfl⟩
  have HR1 := hid hr1
  have HM1 := hid hm
  have hPl : 65536 < P.size := by omega
  clear hr1 hm hP hPs hlong
  go_enter Try.func4, Try.ntmps4
  go_wp2_with fail
  refine (printAt _ ts P _ T HP.out hPm).mono ?_
  rintro e w1 ⟨rfl, hb1⟩
  go_wp2_with fail
  refine (lexAt _ _ _ _ ?hs rfl HR1.out).mono ?_
  case hs => unfold maxLen; omega
  rintro e w2 ⟨v2, rfl, hown2, hb2⟩
  go_wp2_with fail
  refine (fixed_any _).mono ?_
  rintro e w3 ⟨rfl, hb3⟩
  have z1 := hb1.size
  have z2 := hb2.size
  have z3 := hb3.size
  simp only [World.size_alloc] at z3 hb3
  have b23 : Below w2.heap.size w2 w3 := ((Below.refl _ _).alloc (Nat.le_refl _) _).trans (hb3.mono (Nat.le_succ _))
  have b03 : Below w.heap.size w w3 := (hb1.trans (hb2.mono z1)).trans (b23.mono (by omega))
  go_wp2_with fail
  refine (may_any _ ts _ (T.keep b03)).mono ?_
  rw [HM1.out]
  rintro e w4 ⟨rfl, hb4⟩
  have hX : Below w.heap.size w w4 := b03.trans (hb4.mono (by omega))
  rcases lex_cases s.data.toList with ⟨c2, p2, hr2, hc2⟩ | ⟨bs, hr2, hmb, hpl⟩ | ⟨bs, cs, hr2, hmb, hpl, hr3, hpc⟩
  · have HR2 := hid hr2
    clear hr2
    go_wp2_with fail
    refine (lexAt _ _ _ _ hs rfl HR2.out).mono ?_
    rintro e y1 ⟨v1, rfl, hown1, hc1⟩
    obtain ⟨a1, cap1, rfl⟩ := TokAt.form (tokAt_of_owns hown1 (by simp) (by intro x hx; simp at hx))
    go_wp2
    go_ret
    exact ⟨rfl, (hX.trans (hc1.mono hX.size)).alloc (Nat.le_trans hX.size hc1.size) _⟩
  · have HR2 := hid hr2
    have HM2 := hid hmb
    have hsm := M.lex_small s.data.toList
    rw [hr2] at hsm
    have nb : bs.length ≤ 65536 := hsm.1
    have HSb : Hid (∀ x, x ∈ bs → x.t.size ≤ maxLen) := fun x hx => by have := hsm.2 x hx; unfold maxLen; omega
    have hple := M.lex_print_le s.data.toList
    rw [hr2] at hple
    obtain ⟨u, hu⟩ : ∃ u : ByteArray, M.print bs = u.data.toList := ⟨⟨(M.print bs).toArray⟩, by simp⟩
    have hus : u.size = (M.print bs).length := by rw [hu, len_list]
    have hub : 65536 < u.size := by omega
    have hub2 : u.size ≤ 140737488355328 := by rw [hus]; exact hple
    have HU := hid hu
    have HR3 : Hid (M.lex u.data.toList = ([], 11, 0)) := M.lex_long (by rw [← hu]; exact hpl)
    clear hr2 hsm hple hu hus hpl
    go_wp2_with fail
    refine (lexAt _ _ _ _ hs rfl HR2.out).mono ?_
    rintro e y1 ⟨v1, rfl, hown1, hc1⟩
    have Tb : TokAt y1 v1 bs := tokAt_of_owns hown1 (by omega) HSb.out
    go_wp2_with fail
    refine (printAt _ bs u _ (Tb.alloc _) HU.out hub2).mono ?_
    rintro e y2 ⟨rfl, hc2⟩
    go_wp2_with fail
    refine (lexAt _ _ _ _ ?hs rfl HR3.out).mono ?_
    case hs => unfold maxLen; omega
    rintro e y3 ⟨v3, rfl, hown3, hc3⟩
    have x1 := hc1.size
    have x2 := hc2.size
    have x3 := hc3.size
    simp only [World.size_alloc] at x2 x3 hc2 hc3
    have b12 : Below y1.heap.size y1 y2 := ((Below.refl _ _).alloc (Nat.le_refl _) _).trans (hc2.mono (Nat.le_succ _))
    have b13 : Below y1.heap.size y1 y3 := b12.trans (hc3.mono (by omega))
    go_wp2_with fail
    refine (may_any _ bs _ ((Tb.keep b13).alloc _)).mono ?_
    rw [HM2.out]
    rintro e y4 ⟨rfl, hc4⟩
    have x4 := hc4.size
    simp only [World.size_alloc] at x4 hc4
    go_wp2
    go_ret
    exact ⟨rfl, (hX.trans (hc1.mono hX.size)).trans ((b13.mono (Nat.le_trans hX.size x1)).trans (((Below.refl _ _).alloc (by have := hX.size; omega) _).trans (hc4.mono (by have := hX.size; omega))))⟩
  · have HR2 := hid hr2
    have HM2 := hid hmb
    have HPC := hid hpc
    have hsm := M.lex_small s.data.toList
    rw [hr2] at hsm
    have nb : bs.length ≤ 65536 := hsm.1
    have HSb : Hid (∀ x, x ∈ bs → x.t.size ≤ maxLen) := fun x hx => by have := hsm.2 x hx; unfold maxLen; omega
    have hsm3 := M.lex_small (M.print bs)
    rw [hr3] at hsm3
    have nc : cs.length ≤ 65536 := hsm3.1
    have HSc : Hid (∀ x, x ∈ cs → x.t.size ≤ maxLen) := fun x hx => by have := hsm3.2 x hx; unfold maxLen; omega
    obtain ⟨u, hu⟩ : ∃ u : ByteArray, M.print bs = u.data.toList := ⟨⟨(M.print bs).toArray⟩, by simp⟩
    have hus : u.size = (M.print bs).length := by rw [hu, len_list]
    have hub : u.size ≤ 65536 := by omega
    have HU := hid hu
    have HR3 : Hid (M.lex u.data.toList = (cs, 0, 0)) := by unfold Hid; rw [← hu]; exact hr3
    clear hr2 hr3 hsm hsm3 hu hus hpl hpc
    go_wp2_with fail
    refine (lexAt _ _ _ _ hs rfl HR2.out).mono ?_
    rintro e y1 ⟨v1, rfl, hown1, hc1⟩
    have Tb : TokAt y1 v1 bs := tokAt_of_owns hown1 (by omega) HSb.out
    go_wp2_with fail
    refine (printAt _ bs u _ (Tb.alloc _) HU.out (by omega)).mono ?_
    rintro e y2 ⟨rfl, hc2⟩
    go_wp2_with fail
    refine (lexAt _ _ _ _ ?hs rfl HR3.out).mono ?_
    case hs => unfold maxLen; omega
    rintro e y3 ⟨v3, rfl, hown3, hc3⟩
    have x1 := hc1.size
    have x2 := hc2.size
    have x3 := hc3.size
    simp only [World.size_alloc] at x2 x3 hc2 hc3
    have b12 : Below y1.heap.size y1 y2 := ((Below.refl _ _).alloc (Nat.le_refl _) _).trans (hc2.mono (Nat.le_succ _))
    have b13 : Below y1.heap.size y1 y3 := b12.trans (hc3.mono (by omega))
    have Tc : TokAt y3 v3 cs := tokAt_of_owns hown3 (by omega) HSc.out
    go_wp2_with fail
    refine (may_any _ bs _ ((Tb.keep b13).alloc _)).mono ?_
    rw [HM2.out]
    rintro e y4 ⟨rfl, hc4⟩
    have x4 := hc4.size
    simp only [World.size_alloc] at x4 hc4
    obtain ⟨g1, g2⟩ := two_cells hc4
    have b34 : Below y3.heap.size y3 y4 := ((Below.refl _ _).alloc (Nat.le_refl _) _).trans (hc4.mono (Nat.le_succ _))
    have b14 : Below y1.heap.size y1 y4 := b13.trans (b34.mono (by omega))
    go_wp2_with fail
    refine (plain_any _ cs _ (Tc.keep b34) (by omega)).mono ?_
    rintro e y5 ⟨v5, rfl, hown5, hc5⟩
    have x5 := hc5.size
    have b15 : Below y1.heap.size y1 y5 := b14.trans (hc5.mono (by omega))
    go_wp2_with fail
    refine (plain_any _ bs _ (Tb.keep b15) (by omega)).mono ?_
    rintro e y6 ⟨v6, rfl, hown6, hc6⟩
    have x6 := hc6.size
    have b16 : Below y1.heap.size y1 y6 := b15.trans (hc6.mono (by omega))
    have T5 : TokAt y6 v5 (M.plain cs) := (tokAt_of_owns hown5 (by rw [plain_length]; omega) (plain_sizes HSc.out)).keep hc6
    have T6 : TokAt y6 v6 (M.plain bs) := tokAt_of_owns hown6 (by rw [plain_length]; omega) (plain_sizes HSb.out)
    go_wp2_with fail
    refine (same_any _ _ _ _ _ T5 T6).mono ?_
    rw [(M.same_iff _ _).2 HPC.out]
    rintro e y7 ⟨rfl, n7, rfl⟩
    go_wp2
    go_ret
    exact ⟨rfl, below_drewN ((hX.trans (hc1.mono hX.size)).trans (b16.mono (Nat.le_trans hX.size x1))) n7⟩

set_option maxHeartbeats 2000000 in
theorem walk_yes (v : Value) (ts : List M.Tok) (s : ByteArray) (w : World) (T : TokAt w v ts) (hl : ts.length ≤ 4398046511104) (hpr : (M.print ts).length ≤ 140737488355328) (hs : s.size ≤ maxLen) (hm : M.may ts = true) (hshort : (M.print ts).length ≤ 65536) :
    Calls Try.prog 4 #[v, .string s] w fun e w' => e = .returned (.bool true) ∧ Below w.heap.size w w' := by
  have hs' := hs
  unfold maxLen at hs'
  obtain ⟨P, hP⟩ : ∃ P : ByteArray, M.print ts = P.data.toList := ⟨⟨(M.print ts).toArray⟩, by simp⟩
  have hPs : P.size = (M.print ts).length := by rw [hP, len_list]
  have HP := hid hP
  have hPm : P.size ≤ 140737488355328 := by omega
  obtain ⟨xs, hr1, hpx⟩ := M.lex_print ts hm hshort
  rw [hP] at hr1
  have hsm0 := M.lex_small P.data.toList
  rw [hr1] at hsm0
  have nx : xs.length ≤ 65536 := hsm0.1
  have HSx : Hid (∀ x, x ∈ xs → x.t.size ≤ maxLen) := fun x hx => by have := hsm0.2 x hx; unfold maxLen; omega
  have HSt : Hid (∀ x, x ∈ ts → x.t.size ≤ maxLen) := T.2.1
  have HPX := hid hpx
  have HR1 := hid hr1
  have HM1 := hid hm
  have hPl : P.size ≤ 65536 := by omega
  clear hr1 hm hP hPs hshort hpx hsm0
  go_enter Try.func4, Try.ntmps4
  go_wp2_with fail
  refine (printAt _ ts P _ T HP.out hPm).mono ?_
  rintro e w1 ⟨rfl, hb1⟩
  go_wp2_with fail
  refine (lexAt _ _ _ _ ?hs rfl HR1.out).mono ?_
  case hs => unfold maxLen; omega
  rintro e w2 ⟨v2, rfl, hown2, hb2⟩
  go_wp2_with fail
  refine (fixed_any _).mono ?_
  rintro e w3 ⟨rfl, hb3⟩
  have z1 := hb1.size
  have z2 := hb2.size
  have z3 := hb3.size
  simp only [World.size_alloc] at z3 hb3
  have b23 : Below w2.heap.size w2 w3 := ((Below.refl _ _).alloc (Nat.le_refl _) _).trans (hb3.mono (Nat.le_succ _))
  have b03 : Below w.heap.size w w3 := (hb1.trans (hb2.mono z1)).trans (b23.mono (by omega))
  go_wp2_with fail
  refine (may_any _ ts _ (T.keep b03)).mono ?_
  rw [HM1.out]
  rintro e w4 ⟨rfl, hb4⟩
  have z4 := hb4.size
  have hb24 : Below (w2.heap.size + 1) (w2.alloc (.cells #[.int .i64 0, .int .i64 0] 25)) w4 := hb3.trans (hb4.mono (by omega))
  obtain ⟨f1, f2⟩ := two_cells hb24
  have b24 : Below w2.heap.size w2 w4 := b23.trans (hb4.mono (by omega))
  have b04 : Below w.heap.size w w4 := b03.trans (hb4.mono (by omega))
  have Tx : TokAt w4 v2 xs := (tokAt_of_owns hown2 (by omega) HSx.out).keep b24
  go_wp2_with fail
  refine (plain_any _ xs _ Tx (by omega)).mono ?_
  rintro e w5 ⟨v5, rfl, hown5, hb5⟩
  have z5 := hb5.size
  have b05 : Below w.heap.size w w5 := b04.trans (hb5.mono (by omega))
  go_wp2_with fail
  refine (plain_any _ ts _ (T.keep b05) hl).mono ?_
  rintro e w6 ⟨v6, rfl, hown6, hb6⟩
  have z6 := hb6.size
  have b06 : Below w.heap.size w w6 := b05.trans (hb6.mono (by omega))
  have T5 : TokAt w6 v5 (M.plain xs) := (tokAt_of_owns hown5 (by rw [plain_length]; omega) (plain_sizes HSx.out)).keep hb6
  have T6 : TokAt w6 v6 (M.plain ts) := tokAt_of_owns hown6 (by rw [plain_length]; omega) (plain_sizes HSt.out)
  go_wp2_with fail
  refine (same_any _ _ _ _ _ T5 T6).mono ?_
  rw [(M.same_iff _ _).2 HPX.out]
  rintro e w7 ⟨rfl, n1, rfl⟩
  have hX : Below w.heap.size w (w6.drewN n1) := below_drewN b06 n1
  rcases lex_cases s.data.toList with ⟨c2, p2, hr2, hc2⟩ | ⟨bs, hr2, hmb, hpl⟩ | ⟨bs, cs, hr2, hmb, hpl, hr3, hpc⟩
  · have HR2 := hid hr2
    clear hr2
    go_wp2_with fail
    refine (lexAt _ _ _ _ hs rfl HR2.out).mono ?_
    rintro e y1 ⟨v1, rfl, hown1, hc1⟩
    obtain ⟨a1, cap1, rfl⟩ := TokAt.form (tokAt_of_owns hown1 (by simp) (by intro x hx; simp at hx))
    go_wp2
    go_ret
    exact ⟨rfl, (hX.trans (hc1.mono hX.size)).alloc (Nat.le_trans hX.size hc1.size) _⟩
  · have HR2 := hid hr2
    have HM2 := hid hmb
    have hsm := M.lex_small s.data.toList
    rw [hr2] at hsm
    have nb : bs.length ≤ 65536 := hsm.1
    have HSb : Hid (∀ x, x ∈ bs → x.t.size ≤ maxLen) := fun x hx => by have := hsm.2 x hx; unfold maxLen; omega
    have hple := M.lex_print_le s.data.toList
    rw [hr2] at hple
    obtain ⟨u, hu⟩ : ∃ u : ByteArray, M.print bs = u.data.toList := ⟨⟨(M.print bs).toArray⟩, by simp⟩
    have hus : u.size = (M.print bs).length := by rw [hu, len_list]
    have hub : 65536 < u.size := by omega
    have hub2 : u.size ≤ 140737488355328 := by rw [hus]; exact hple
    have HU := hid hu
    have HR3 : Hid (M.lex u.data.toList = ([], 11, 0)) := M.lex_long (by rw [← hu]; exact hpl)
    clear hr2 hsm hple hu hus hpl
    go_wp2_with fail
    refine (lexAt _ _ _ _ hs rfl HR2.out).mono ?_
    rintro e y1 ⟨v1, rfl, hown1, hc1⟩
    have Tb : TokAt y1 v1 bs := tokAt_of_owns hown1 (by omega) HSb.out
    go_wp2_with fail
    refine (printAt _ bs u _ (Tb.alloc _) HU.out hub2).mono ?_
    rintro e y2 ⟨rfl, hc2⟩
    go_wp2_with fail
    refine (lexAt _ _ _ _ ?hs rfl HR3.out).mono ?_
    case hs => unfold maxLen; omega
    rintro e y3 ⟨v3, rfl, hown3, hc3⟩
    have x1 := hc1.size
    have x2 := hc2.size
    have x3 := hc3.size
    simp only [World.size_alloc] at x2 x3 hc2 hc3
    have b12 : Below y1.heap.size y1 y2 := ((Below.refl _ _).alloc (Nat.le_refl _) _).trans (hc2.mono (Nat.le_succ _))
    have b13 : Below y1.heap.size y1 y3 := b12.trans (hc3.mono (by omega))
    go_wp2_with fail
    refine (may_any _ bs _ ((Tb.keep b13).alloc _)).mono ?_
    rw [HM2.out]
    rintro e y4 ⟨rfl, hc4⟩
    have x4 := hc4.size
    simp only [World.size_alloc] at x4 hc4
    go_wp2
    go_ret
    exact ⟨rfl, (hX.trans (hc1.mono hX.size)).trans ((b13.mono (Nat.le_trans hX.size x1)).trans (((Below.refl _ _).alloc (by have := hX.size; omega) _).trans (hc4.mono (by have := hX.size; omega))))⟩
  · have HR2 := hid hr2
    have HM2 := hid hmb
    have HPC := hid hpc
    have hsm := M.lex_small s.data.toList
    rw [hr2] at hsm
    have nb : bs.length ≤ 65536 := hsm.1
    have HSb : Hid (∀ x, x ∈ bs → x.t.size ≤ maxLen) := fun x hx => by have := hsm.2 x hx; unfold maxLen; omega
    have hsm3 := M.lex_small (M.print bs)
    rw [hr3] at hsm3
    have nc : cs.length ≤ 65536 := hsm3.1
    have HSc : Hid (∀ x, x ∈ cs → x.t.size ≤ maxLen) := fun x hx => by have := hsm3.2 x hx; unfold maxLen; omega
    obtain ⟨u, hu⟩ : ∃ u : ByteArray, M.print bs = u.data.toList := ⟨⟨(M.print bs).toArray⟩, by simp⟩
    have hus : u.size = (M.print bs).length := by rw [hu, len_list]
    have hub : u.size ≤ 65536 := by omega
    have HU := hid hu
    have HR3 : Hid (M.lex u.data.toList = (cs, 0, 0)) := by unfold Hid; rw [← hu]; exact hr3
    clear hr2 hr3 hsm hsm3 hu hus hpl hpc
    go_wp2_with fail
    refine (lexAt _ _ _ _ hs rfl HR2.out).mono ?_
    rintro e y1 ⟨v1, rfl, hown1, hc1⟩
    have Tb : TokAt y1 v1 bs := tokAt_of_owns hown1 (by omega) HSb.out
    go_wp2_with fail
    refine (printAt _ bs u _ (Tb.alloc _) HU.out (by omega)).mono ?_
    rintro e y2 ⟨rfl, hc2⟩
    go_wp2_with fail
    refine (lexAt _ _ _ _ ?hs rfl HR3.out).mono ?_
    case hs => unfold maxLen; omega
    rintro e y3 ⟨v3, rfl, hown3, hc3⟩
    have x1 := hc1.size
    have x2 := hc2.size
    have x3 := hc3.size
    simp only [World.size_alloc] at x2 x3 hc2 hc3
    have b12 : Below y1.heap.size y1 y2 := ((Below.refl _ _).alloc (Nat.le_refl _) _).trans (hc2.mono (Nat.le_succ _))
    have b13 : Below y1.heap.size y1 y3 := b12.trans (hc3.mono (by omega))
    have Tc : TokAt y3 v3 cs := tokAt_of_owns hown3 (by omega) HSc.out
    go_wp2_with fail
    refine (may_any _ bs _ ((Tb.keep b13).alloc _)).mono ?_
    rw [HM2.out]
    rintro e y4 ⟨rfl, hc4⟩
    have x4 := hc4.size
    simp only [World.size_alloc] at x4 hc4
    obtain ⟨g1, g2⟩ := two_cells hc4
    have b34 : Below y3.heap.size y3 y4 := ((Below.refl _ _).alloc (Nat.le_refl _) _).trans (hc4.mono (Nat.le_succ _))
    have b14 : Below y1.heap.size y1 y4 := b13.trans (b34.mono (by omega))
    go_wp2_with fail
    refine (plain_any _ cs _ (Tc.keep b34) (by omega)).mono ?_
    rintro e y5 ⟨v5, rfl, hown5, hc5⟩
    have x5 := hc5.size
    have b15 : Below y1.heap.size y1 y5 := b14.trans (hc5.mono (by omega))
    go_wp2_with fail
    refine (plain_any _ bs _ (Tb.keep b15) (by omega)).mono ?_
    rintro e y6 ⟨v6, rfl, hown6, hc6⟩
    have x6 := hc6.size
    have b16 : Below y1.heap.size y1 y6 := b15.trans (hc6.mono (by omega))
    have T5 : TokAt y6 v5 (M.plain cs) := (tokAt_of_owns hown5 (by rw [plain_length]; omega) (plain_sizes HSc.out)).keep hc6
    have T6 : TokAt y6 v6 (M.plain bs) := tokAt_of_owns hown6 (by rw [plain_length]; omega) (plain_sizes HSb.out)
    go_wp2_with fail
    refine (same_any _ _ _ _ _ T5 T6).mono ?_
    rw [(M.same_iff _ _).2 HPC.out]
    rintro e y7 ⟨rfl, n7, rfl⟩
    go_wp2
    go_ret
    exact ⟨rfl, below_drewN ((hX.trans (hc1.mono hX.size)).trans (b16.mono (Nat.le_trans hX.size x1))) n7⟩


theorem walk (v : Value) (ts : List M.Tok) (s : ByteArray) (w : World) (T : TokAt w v ts) (hl : ts.length ≤ 4398046511104) (hpr : (M.print ts).length ≤ 140737488355328) (hs : s.size ≤ maxLen) :
    Calls Try.prog 4 #[v, .string s] w fun e w' => e = .returned (.bool true) ∧ Below w.heap.size w w' := by
  cases hm : M.may ts
  · exact walk_no v ts s w T hl hpr hs hm
  · by_cases hlong : 65536 < (M.print ts).length
    · exact walk_long v ts s w T hl hpr hs hm hlong
    · exact walk_yes v ts s w T hl hpr hs hm (by omega)

end LexBack
end Go.Proofs.Ytilkkopgbdppjaa
