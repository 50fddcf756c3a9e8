/-
  PROVED: the law LexGaps holds for every string and every two ints: a remark, or a blank, ahead of a token changes nothing but places (texts of at most 60000 bytes); the call returns true and leaves all that was there as it was. Conditions: none beyond the given statement's own.
-/
import Derived.Test.YtilkkopgbdppjaaJ
import Derived.Test.YtilkkopgbdppjaaMathG
import Derived.Deep.RegionHeld3
import Derived.ProofKit
import Derived.OpenShut
import Derived.ShutString
set_option linter.unusedVariables false
namespace Go.Proofs.Ytilkkopgbdppjaa
open Go.ChangeShapes Go.WideShapes Go.ChangeAt Go.RowKit
open Go.ChangeMaps (open_string shut_string)

namespace LexGaps

theorem two_cells {w w' : World} {x y : Value} {t : TypeId} (h : Below (w.heap.size + 1) (w.alloc (.cells #[x, y] t)) w') :
    w'.cell? ⟨w.heap.size, 0, none⟩ = some x ∧ w'.cell? ⟨w.heap.size, 1, none⟩ = some y := by
  have hn := heap_alloc_new w (.cells #[x, y] t)
  refine ⟨?_, ?_⟩
  · rw [h.cell (p := ⟨w.heap.size, 0, none⟩) (Nat.lt_succ_self _), Lib.cell_of_heap hn]; rfl
  · rw [h.cell (p := ⟨w.heap.size, 1, none⟩) (Nat.lt_succ_self _), Lib.cell_of_heap hn]; rfl

theorem plain_sizes {l : List M.Tok} (h : ∀ x, x ∈ l → x.t.size ≤ maxLen) : ∀ x, x ∈ M.plain l → x.t.size ≤ maxLen := by
  intro x hx
  simp only [M.plain, List.mem_map] at hx
  obtain ⟨y, hy, rfl⟩ := hx
  exact h y hy

theorem TokAt.form {w : World} {v : Value} {ts : List M.Tok} (h : TokAt w v ts) : ∃ a cap, v = .slice a ts.length cap := by
  obtain ⟨_, _, a, cap, hv, _⟩ := h
  exact ⟨a, cap, hv⟩

set_option maxHeartbeats 1000000 in
theorem walk_fault (a0 : ByteArray) (i k : Int) (w : World) (h0 : a0.size ≤ maxLen) (ts : List M.Tok) (c p : Int) (hr : M.lex a0.data.toList = (ts, c, p)) (hc : (c != 0) = true) :
    Calls Try.prog 5 #[.string a0, .int .i64 i, .int .i64 k] w fun e w' => e = .returned (.bool true) ∧ Below w.heap.size w w' := by
  have HR := hid hr
  have h0' := h0
  unfold maxLen at h0'
  clear hr
  go_enter Try.func5, Try.ntmps5
  go_wp2_with fail
  refine (lexAt _ _ _ _ h0 rfl HR.out).mono ?_
  rintro e w1 ⟨v1, rfl, hown1, hb1⟩
  go_wp2_with fail
  refine (fixed_any _).mono ?_
  rintro e w2 ⟨rfl, hb2⟩
  have z1 := hb1.size
  have z2 := hb2.size
  simp only [World.size_alloc] at z2 hb2
  obtain ⟨q1, q2⟩ := two_cells hb2
  go_wp2_with fail
  refine (fixed_any _).mono ?_
  rintro e w3 ⟨rfl, hb3⟩
  go_wp2
  go_ret
  exact ⟨rfl, (hb1.trans (((Below.refl _ _).alloc z1 _).trans (hb2.mono (by omega)))).trans (hb3.mono (by omega))⟩

set_option maxHeartbeats 1000000 in
theorem walk_out (a0 : ByteArray) (i k : Int) (w : World) (h0 : a0.size ≤ maxLen) (ts : List M.Tok) (hr : M.lex a0.data.toList = (ts, 0, 0)) (hc : i < 0 ∨ (ts.length : Int) ≤ i ∨ 60000 < a0.size) :
    Calls Try.prog 5 #[.string a0, .int .i64 i, .int .i64 k] w fun e w' => e = .returned (.bool true) ∧ Below w.heap.size w w' := by
  have HR := hid hr
  have h0' := h0
  unfold maxLen at h0'
  have hsm := M.lex_small a0.data.toList
  rw [hr] at hsm
  have n1 : ts.length ≤ 65536 := hsm.1
  have HS : Hid (∀ x, x ∈ ts → x.t.size ≤ maxLen) := fun x hx => by have := hsm.2 x hx; unfold maxLen; omega
  clear hr hsm
  by_cases c1 : i < 0
  · clear hc
    go_enter Try.func5, Try.ntmps5
    go_wp2_with fail
    refine (lexAt _ _ _ _ h0 rfl HR.out).mono ?_
    rintro e w1 ⟨v1, rfl, hown1, hb1⟩
    go_wp2_with fail
    refine (fixed_any _).mono ?_
    rintro e w2 ⟨rfl, hb2⟩
    have z1 := hb1.size
    have z2 := hb2.size
    simp only [World.size_alloc] at z2 hb2
    obtain ⟨q1, q2⟩ := two_cells hb2
    go_wp2_with fail
    refine (fixed_any _).mono ?_
    rintro e w3 ⟨rfl, hb3⟩
    go_wp2
    go_ret
    exact ⟨rfl, (hb1.trans (((Below.refl _ _).alloc z1 _).trans (hb2.mono (by omega)))).trans (hb3.mono (by omega))⟩
  · by_cases c2 : (ts.length : Int) ≤ i
    · clear hc
      go_enter Try.func5, Try.ntmps5
      go_wp2_with fail
      refine (lexAt _ _ _ _ h0 rfl HR.out).mono ?_
      rintro e w1 ⟨v1, rfl, hown1, hb1⟩
      obtain ⟨a1, cap1, rfl⟩ := TokAt.form (tokAt_of_owns (ts := ts) hown1 (by omega) HS.out)
      go_wp2_with fail
      refine (fixed_any _).mono ?_
      rintro e w2 ⟨rfl, hb2⟩
      have z1 := hb1.size
      have z2 := hb2.size
      simp only [World.size_alloc] at z2 hb2
      obtain ⟨q1, q2⟩ := two_cells hb2
      go_wp2_with fail
      refine (fixed_any _).mono ?_
      rintro e w3 ⟨rfl, hb3⟩
      go_wp2
      go_ret
      exact ⟨rfl, (hb1.trans (((Below.refl _ _).alloc z1 _).trans (hb2.mono (by omega)))).trans (hb3.mono (by omega))⟩
    · have c3 : 60000 < a0.size := by omega
      clear hc
      go_enter Try.func5, Try.ntmps5
      go_wp2_with fail
      refine (lexAt _ _ _ _ h0 rfl HR.out).mono ?_
      rintro e w1 ⟨v1, rfl, hown1, hb1⟩
      obtain ⟨a1, cap1, rfl⟩ := TokAt.form (tokAt_of_owns (ts := ts) hown1 (by omega) HS.out)
      go_wp2_with fail
      refine (fixed_any _).mono ?_
      rintro e w2 ⟨rfl, hb2⟩
      have z1 := hb1.size
      have z2 := hb2.size
      simp only [World.size_alloc] at z2 hb2
      obtain ⟨q1, q2⟩ := two_cells hb2
      go_wp2_with fail
      refine (fixed_any _).mono ?_
      rintro e w3 ⟨rfl, hb3⟩
      go_wp2
      go_ret
      exact ⟨rfl, (hb1.trans (((Below.refl _ _).alloc z1 _).trans (hb2.mono (by omega)))).trans (hb3.mono (by omega))⟩

set_option maxHeartbeats 4000000 in
set_option maxRecDepth 100000 in
theorem walk_full (a0 : ByteArray) (i : Nat) (k : Int) (w : World) (h0 : a0.size ≤ maxLen) (ts us : List M.Tok) (hr : M.lex a0.data.toList = (ts, 0, 0)) (hi : i < ts.length) (hz : a0.size ≤ 60000) (p : Nat) (hp : ts[i].p = (p : Int)) (hpz : p ≤ a0.size)
    (r : Int) (j : Nat) (G : ByteArray) (hk : k.tmod 4 = r) (hw4 : IntKind.i64.wrap (r + 4) = r + 4) (hq : (r + 4).tmod 4 = (j : Int)) (hj : j < 4)
    (hG : (#[.string ⟨#[32]⟩, .string ⟨#[10, 9]⟩, .string ⟨#[35, 32, 97, 32, 123, 114, 101, 109, 97, 114, 107, 32, 63, 10]⟩, .string ⟨#[13, 10, 35, 32, 49, 97, 10, 32]⟩] : Array Value)[j]? = some (.string G)) (hGs : G.size ≤ 14)
    (hx : M.lex (a0.extract 0 p ++ G ++ a0.extract p a0.size).data.toList = (us, 0, 0)) (hpl : M.plain us = M.plain ts) :
    Calls Try.prog 5 #[.string a0, .int .i64 i, .int .i64 k] w fun e w' => e = .returned (.bool true) ∧ Below w.heap.size w w' := by
  have HR := hid hr
  have HX := hid hx
  have HPL := hid hpl
  have hsm := M.lex_small a0.data.toList
  rw [hr] at hsm
  have n1 : ts.length ≤ 65536 := hsm.1
  have HS : Hid (∀ x, x ∈ ts → x.t.size ≤ maxLen) := fun x hx => by have := hsm.2 x hx; unfold maxLen; omega
  have hsm2 := M.lex_small (a0.extract 0 p ++ G ++ a0.extract p a0.size).data.toList
  rw [hx] at hsm2
  have n2 : us.length ≤ 65536 := hsm2.1
  have HS2 : Hid (∀ x, x ∈ us → x.t.size ≤ maxLen) := fun x hx => by have := hsm2.2 x hx; unfold maxLen; omega
  have hi0 : (0 : Int) ≤ (i : Int) := Int.natCast_nonneg _
  have hi1 : (i : Int) < (ts.length : Int) := by omega
  have hj0 : (0 : Int) ≤ (j : Int) := Int.natCast_nonneg _
  have hj1 : (j : Int) < 4 := by omega
  have hl1 : ¬ 9223372036854775807 < p + G.size := by omega
  have hl2 : ¬ 9223372036854775807 < p + G.size + (a0.size - p) := by omega
  have HJ : Hid ((a0.extract 0 p ++ G ++ a0.extract p a0.size).size ≤ maxLen) := by
    unfold Hid maxLen
    rw [← len_list]
    simp only [ByteArray.data_append, Array.toList_append, Lib.extract_data, List.length_append, List.length_take, List.length_drop, len_list]
    omega
  clear hr hsm hx hsm2 hpl
  go_enter Try.func5, Try.ntmps5
  go_wp2_with fail
  refine (lexAt _ _ _ _ h0 rfl HR.out).mono ?_
  rintro e w1 ⟨v1, rfl, hown1, hb1⟩
  have T1 : TokAt w1 v1 ts := tokAt_of_owns hown1 (by omega) HS.out
  have T1' := T1
  obtain ⟨_, _, a1, cap1, rfl, h3⟩ := T1'
  obtain ⟨b, o, rfl, hlt, _, _, e3⟩ := tok_cells h3 i hi
  clear h3
  rw [hp] at e3
  go_wp2_with fail
  refine (fixed_any _).mono ?_
  rintro e w2 ⟨rfl, hb2⟩
  have z1 := hb1.size
  have z2 := hb2.size
  simp only [World.size_alloc] at z2 hb2
  obtain ⟨q1, q2⟩ := two_cells hb2
  have b12 : Below w1.heap.size w1 w2 := ((Below.refl _ _).alloc (Nat.le_refl _) _).trans (hb2.mono (Nat.le_succ _))
  rw [← b12.cell (p := ⟨b, o + i * 3 + 2, none⟩) hlt] at e3
  have hlt2 : b < w2.heap.size := by omega
  have keepS : ∀ w', Below (w2.heap.size + 1) (w2.alloc (.cells #[.string ⟨#[32]⟩, .string ⟨#[10, 9]⟩, .string ⟨#[35, 32, 97, 32, 123, 114, 101, 109, 97, 114, 107, 32, 63, 10]⟩, .string ⟨#[13, 10, 35, 32, 49, 97, 10, 32]⟩] 9)) w' →
      w'.cell? ⟨b, o + i * 3 + 2, none⟩ = some (.int .i64 p) ∧ w'.cell? ⟨w2.heap.size, j, none⟩ = some (.string G) := by
    intro w' hb'
    refine ⟨?_, ?_⟩
    · rw [hb'.cell (p := ⟨b, o + i * 3 + 2, none⟩) (by simp only; omega), World.cell?_alloc_past _ _ _ hlt2]; exact e3
    · rw [hb'.cell (p := ⟨w2.heap.size, j, none⟩) (Nat.lt_succ_self _), Lib.cell_of_heap (heap_alloc_new w2 _)]; exact hG
  have KS := hid keepS
  clear keepS
  go_wp2_with fail
  go_region_held3 (fun w' => w'.cell? ⟨b, o + i * 3 + 2, none⟩ = some (.int .i64 p) ∧ w'.cell? ⟨w2.heap.size, j, none⟩ = some (.string G))
    (first
      | exact KS.out _ (Below.refl _ _).drew
      | exact KS.out _ ((Below.refl _ _).alloc (by simp) _).drew
      | exact KS.out _ ((Below.refl _ _).drew.trans (hb3.mono (by simp)))
      | exact KS.out _ (((Below.refl _ _).drew.trans (hb3.mono (by simp))).alloc (by have := hb3.size; simp at this; omega) _)
      | exact KS.out _ ((((Below.refl _ _).alloc (by simp) _).drew).trans (hb3.mono (by simp)))
      | exact KS.out _ ((((((Below.refl _ _).alloc (by simp) _).drew).trans (hb3.mono (by simp))).setCell (p := ⟨w2.heap.size + 1, 0, none⟩) (Nat.le_refl _) _).setCell (p := ⟨w2.heap.size + 1, 1, none⟩) (Nat.le_refl _) _)
      | go_keep)
    (first | (go_at_call 8; refine (lexAt _ _ _ _ HJ.out rfl HX.out).mono ?_; rintro e w3 ⟨v3, rfl, hown3, hb3⟩; obtain ⟨hcA, hfA⟩ := bcell hb3))
  have z2a : w1.heap.size ≤ w2.heap.size := by omega
  · have b23 : Below w2.heap.size w2 w3 := (((Below.refl _ _).alloc (Nat.le_refl _) _).drew).trans (hb3.mono (by simp))
    have b2X : Below w2.heap.size w2 (w3.alloc (.cells #[.int .i64 0, .int .i64 0] 25)) := b23.alloc b23.size _
    have T3X : TokAt (w3.alloc (.cells #[.int .i64 0, .int .i64 0] 25)) v3 us := (tokAt_of_owns hown3 (by omega) HS2.out).alloc _
    have b1X := b12.trans (b2X.mono z2a)
    have bwX : Below w.heap.size w _ := (hb1.trans (b1X.mono z1))
    go_wp2_with fail
    clear hcA hfA
    refine (plain_any _ us _ T3X (by omega)).mono ?_
    rintro e w4 ⟨v4, rfl, hown4, hb4⟩
    have b14 := b1X.trans (hb4.mono b1X.size)
    go_wp2_with fail
    refine (plain_any _ ts _ (T1.keep b14) (by omega)).mono ?_
    rintro e w5 ⟨v5, rfl, hown5, hb5⟩
    have T4 : TokAt w5 v4 (M.plain us) := (tokAt_of_owns hown4 (by rw [plain_length]; omega) (plain_sizes HS2.out)).keep hb5
    have T5 : TokAt w5 v5 (M.plain ts) := tokAt_of_owns hown5 (by rw [plain_length]; omega) (plain_sizes HS.out)
    go_wp2_with fail
    refine (same_any _ _ _ _ _ T4 T5).mono ?_
    rw [(M.same_iff _ _).2 HPL.out]
    rintro e w6 ⟨rfl, n6, rfl⟩
    go_wp2
    go_ret
    exact ⟨rfl, below_drewN ((bwX.trans (hb4.mono bwX.size)).trans (hb5.mono (Nat.le_trans bwX.size hb4.size))) n6⟩
  · have z2a : w1.heap.size ≤ w2.heap.size := by omega
    have b23 : Below w2.heap.size w2 w3 := ((((Below.refl _ _).alloc (Nat.le_refl _) _).alloc (by simp) _).drew).trans (hb3.mono (by simp; omega))
    have b2X : Below w2.heap.size w2 ((w3.setCell ⟨w2.heap.size + 1, 0, none⟩ (.int .i64 0)).setCell ⟨w2.heap.size + 1, 1, none⟩ (.int .i64 0)) := (b23.setCell (p := ⟨w2.heap.size + 1, 0, none⟩) (Nat.le_succ _) _).setCell (p := ⟨w2.heap.size + 1, 1, none⟩) (Nat.le_succ _) _
    have T3X : TokAt ((w3.setCell ⟨w2.heap.size + 1, 0, none⟩ (.int .i64 0)).setCell ⟨w2.heap.size + 1, 1, none⟩ (.int .i64 0)) v3 us :=
      tokAt_of_owns (ownsRow_setCell_below (ownsRow_setCell_below hown3 (a := ⟨w2.heap.size + 1, 0, none⟩) (by simp) _) (a := ⟨w2.heap.size + 1, 1, none⟩) (by simp) _) (by omega) HS2.out
    have b1X := b12.trans (b2X.mono z2a)
    have bwX : Below w.heap.size w _ := (hb1.trans (b1X.mono z1))
    go_wp2_with fail
    clear hcA hfA
    refine (plain_any _ us _ T3X (by omega)).mono ?_
    rintro e w4 ⟨v4, rfl, hown4, hb4⟩
    have b14 := b1X.trans (hb4.mono b1X.size)
    go_wp2_with fail
    refine (plain_any _ ts _ (T1.keep b14) (by omega)).mono ?_
    rintro e w5 ⟨v5, rfl, hown5, hb5⟩
    have T4 : TokAt w5 v4 (M.plain us) := (tokAt_of_owns hown4 (by rw [plain_length]; omega) (plain_sizes HS2.out)).keep hb5
    have T5 : TokAt w5 v5 (M.plain ts) := tokAt_of_owns hown5 (by rw [plain_length]; omega) (plain_sizes HS.out)
    go_wp2_with fail
    refine (same_any _ _ _ _ _ T4 T5).mono ?_
    rw [(M.same_iff _ _).2 HPL.out]
    rintro e w6 ⟨rfl, n6, rfl⟩
    go_wp2
    go_ret
    exact ⟨rfl, below_drewN ((bwX.trans (hb4.mono bwX.size)).trans (hb5.mono (Nat.le_trans bwX.size hb4.size))) n6⟩

theorem tmod4 (k : Int) : k.tmod 4 = -3 ∨ k.tmod 4 = -2 ∨ k.tmod 4 = -1 ∨ k.tmod 4 = 0 ∨ k.tmod 4 = 1 ∨ k.tmod 4 = 2 ∨ k.tmod 4 = 3 := by
  have h1 := Int.tmod_lt_of_pos k (show (0 : Int) < 4 by decide)
  have h2 := Int.lt_tmod_of_pos k (show (0 : Int) < 4 by decide)
  omega

/-- the gap that is chosen -/
theorem gap_at (j : Nat) (hj : j < 4) : ∃ G : ByteArray, (#[.string ⟨#[32]⟩, .string ⟨#[10, 9]⟩, .string ⟨#[35, 32, 97, 32, 123, 114, 101, 109, 97, 114, 107, 32, 63, 10]⟩, .string ⟨#[13, 10, 35, 32, 49, 97, 10, 32]⟩] : Array Value)[j]? = some (.string G) ∧ G.size ≤ 14 ∧ G.data.toList = M.gap j := by
  match j, hj with
  | 0, _ => exact ⟨_, rfl, by decide, rfl⟩
  | 1, _ => exact ⟨_, rfl, by decide, rfl⟩
  | 2, _ => exact ⟨_, rfl, by decide, rfl⟩
  | 3, _ => exact ⟨_, rfl, by decide, rfl⟩

theorem walk (a0 : ByteArray) (i k : Int) (h0 : a0.size ≤ maxLen) (w : World) :
    Calls Try.prog 5 #[.string a0, .int .i64 i, .int .i64 k] w fun e w' => e = .returned (.bool true) ∧ Below w.heap.size w w' := by
  by_cases hlong : 65536 < a0.size
  · exact walk_fault a0 i k w h0 [] 11 0 (M.lex_long (by rw [len_list]; exact hlong)) (by decide)
  · cases hx : M.lexF 0 a0.data.toList with
    | error p => exact walk_fault a0 i k w h0 [] 10 p (M.lex_of_error (by rw [len_list]; omega) hx) (by decide)
    | ok ts =>
      have hr := M.lex_of_ok (by rw [len_list]; omega) hx
      by_cases hc : i < 0 ∨ (ts.length : Int) ≤ i ∨ 60000 < a0.size
      · exact walk_out a0 i k w h0 ts hr hc
      · obtain ⟨n, rfl⟩ : ∃ n : Nat, i = n := ⟨i.toNat, by omega⟩
        have hn : n < ts.length := by omega
        obtain ⟨j, r, hj, hk, hw4, hq⟩ : ∃ (j : Nat) (r : Int), j < 4 ∧ k.tmod 4 = r ∧ IntKind.i64.wrap (r + 4) = r + 4 ∧ (r + 4).tmod 4 = (j : Int) := by
          rcases tmod4 k with h | h | h | h | h | h | h
          · exact ⟨1, -3, by decide, h, by decide, by decide⟩
          · exact ⟨2, -2, by decide, h, by decide, by decide⟩
          · exact ⟨3, -1, by decide, h, by decide, by decide⟩
          · exact ⟨0, 0, by decide, h, by decide, by decide⟩
          · exact ⟨1, 1, by decide, h, by decide, by decide⟩
          · exact ⟨2, 2, by decide, h, by decide, by decide⟩
          · exact ⟨3, 3, by decide, h, by decide, by decide⟩
        obtain ⟨G, hG, hGs, hGl⟩ := gap_at j hj
        obtain ⟨p, us, hp, hpz, hl, hpl⟩ := M.lex_gap a0.data.toList ts n j (by rw [len_list]; omega) hx hn
        rw [len_list] at hpz
        refine walk_full a0 n k w h0 ts us hr hn (by omega) p hp hpz r j G hk hw4 hq hj hG hGs ?_ hpl
        rw [← hl, ← hGl]
        congr 1
        simp only [ByteArray.data_append, Array.toList_append, Lib.extract_data, List.drop_zero, Nat.sub_zero, List.append_assoc]
        congr 2
        exact List.take_of_length_le (by rw [List.length_drop, len_list]; omega)

theorem own : ownKnob Try.prog.godebug = none := by kernel_rfl

set_option maxRecDepth 100000 in
theorem lifted (os : Os) (started : os.Started) (H : Type) (enc : TypeId × Value → H) :
    ReturnsInHanded {} Try.checked os 5 .any (Rows.lexGapsSpec.pre6 enc Try.prog Try.f5 Rows.lexGapsRow.domain false) (Rows.lexGapsSpec.post enc Try.prog Try.f5 false true false false) := by
  refine returnsInHanded_of_change (C := Try.checked) own started (by kernel_rfl) Try.func5
    (ChangeSpec.witness6 (enc := enc) (C := Try.checked) false ⟨#[], #[.string ByteArray.empty, .int .i64 0, .int .i64 0], []⟩ 8 (by kernel_rfl) (by kernel_rfl) (by kernel_rfl) (by kernel_rfl)) ?_
  intro W base args ds gs before hval0 hW _ _
  have hval : ∀ (j : Nat) t v, Try.f5.params[j]? = some t → args[j]? = some v → Value.okWide Try.prog W .any base t v := hval0
  have hW' := hW
  obtain ⟨p, q, hA0, hV, rfl, hfz, hnd⟩ := hW
  have hA : DataW.TrodAll enc Try.prog W 0 (fun _ => true) true Try.f5.params.toList args.toList ds p := hA0
  rw [Try.params5] at hA hval
  obtain ⟨v0, vs0, d0, ds0, p0, q0, hargs, rfl, rfl, h0, r0⟩ := trodAll_cons hA
  obtain ⟨v1, vs1, d1, ds1, p1, q1, rfl, rfl, rfl, h1, r1⟩ := trodAll_cons r0
  obtain ⟨v2, vs2, d2, ds2, p2, q2, rfl, rfl, rfl, h2, r2⟩ := trodAll_cons r1
  obtain ⟨rfl, rfl, rfl⟩ := trodAll_nil r2
  obtain rfl : args = #[v0, v1, v2] := by cases args; simp_all
  obtain ⟨rfl, rfl⟩ := trodVars_none hV
  obtain ⟨a0, rfl, rfl, rfl, w0⟩ := open_string Try.underlying9 (hval 0 9 v0 rfl rfl) h0
  obtain ⟨a1, rfl, rfl, rfl, w1⟩ := open_int Try.underlying3 (hval 1 3 v1 rfl rfl) h1
  obtain ⟨a2, rfl, rfl, rfl, w2⟩ := open_int Try.underlying3 (hval 2 3 v2 rfl rfl) h2
  clear hA0 hval0
  simp only [List.append_nil] at hW'
  refine (walk a0 a1 a2 w0 W).mono fun e W' ⟨he, hb⟩ => ?_
  subst he
  exact ⟨_, rfl, _, _, _, [], [], [], hW', trodAll_cons_mk (shut_bool Try.underlying4 _) trodAll_mk0, trodAll_cons_mk (shut_string Try.underlying9 w0) (trodAll_cons_mk (shut_int Try.underlying3 w1) (trodAll_cons_mk (shut_int Try.underlying3 w2) trodAll_mk0)), rfl, hb.frame _, fun h => by cases h⟩

theorem proved : Rows.LexGapsSaid :=
  OpenClaim.holds_of_wide 5 Try.f5 rfl rfl rfl rfl rfl rfl rfl ⟨rfl, rfl, rfl, rfl, rfl⟩ rfl rfl rfl rfl rfl (by kernel_rfl) Try.func5 (by kernel_rfl)
    (of_decide_eq_true (by kernel_rfl)) (by unfold Func.isWrapper; first | (rw [if_pos (by decide +kernel)]; kernel_rfl) | (rw [if_neg (by decide +kernel)]; exact ⟨rfl, rfl⟩))
    (fun os started H enc _ => lifted os started H enc)
end LexGaps

theorem lexGaps_holds : Rows.LexGapsSaid := LexGaps.proved
end Go.Proofs.Ytilkkopgbdppjaa
