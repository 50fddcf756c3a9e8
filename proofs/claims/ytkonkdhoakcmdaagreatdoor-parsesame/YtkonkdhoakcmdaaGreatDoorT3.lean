/-
  The walks of the document's reader's need, Name, isName and name (proteanref02). Conditions: the state's.
-/
import Derived.Test.YtkonkdhoakcmdaaGreatDoorT2
set_option linter.unusedVariables false
set_option linter.unusedSimpArgs false
namespace Go.Proofs.YtkonkdhoakcmdaaGreatDoor
open Go.RowKit

theorem needR_no {r : RSt} {t : ByteArray} (h : isR r t = false) : needR r t = failR r 20 := by
  cases r with
  | error f => rfl
  | ok S =>
    have h' : ¬ S.at t = true := by simpa [isR] using h
    simp only [needR, bindR, M.take, if_neg h']; rfl
theorem needR_yes {S : M.St} {t : ByteArray} (h : isR (.ok S) t = true) : needR (.ok S) t = .ok S.adv := by
  have h' : S.at t = true := h
  simp only [needR, bindR, M.take, if_pos h']; rfl
theorem isR_ok {r : RSt} {t : ByteArray} (h : isR r t = true) : ∃ S, r = .ok S := by
  cases r with
  | error f => cases h
  | ok S => exact ⟨S, rfl⟩
theorem isNameR_ok {r : RSt} (h : isNameR r = true) : ∃ S, r = .ok S := by
  cases r with
  | error f => cases h
  | ok S => exact ⟨S, rfl⟩
theorem adv_mk (ts : List M.Tok) (fin : Int) (i n d : Nat) : (M.St.mk (ts.drop i) fin n d).adv = ⟨ts.drop (i + 1), fin, n, d⟩ := by
  simp [M.St.adv, List.tail_drop]
theorem rest_lt {ts : List M.Tok} {fin : Int} {i n d : Nat} (h : (M.St.mk (ts.drop i) fin n d).rest ≠ []) : i < ts.length := by
  rcases Nat.lt_or_ge i ts.length with h1 | h1
  · exact h1
  · exact absurd (List.drop_eq_nil_of_le h1) h
theorem RS.step {ts : List M.Tok} {fin : Int} {d : Nat} {i n : Nat} {c y : Int} {S : M.St} (h : RS ts fin d (.ok S) i n c y) (hne : S.rest ≠ []) : c = 0 ∧ y = 0 ∧ i < ts.length ∧ RS ts fin d (.ok S.adv) (i + 1) n 0 0 := by
  obtain ⟨rfl, rfl, rfl⟩ := h.good S rfl
  have hlt := rest_lt hne
  exact ⟨rfl, rfl, hlt, hlt, h.lim, fun S e => ⟨rfl, rfl, by cases e; exact adv_mk _ _ _ _ _⟩, fun f e => by cases e⟩

set_option maxHeartbeats 800000 in
theorem rneed_any (a : Option Addr) (cap : Nat) (ts : List M.Tok) (fin : Int) (d : Nat) (r : RSt) (i n : Nat) (c y : Int) (w : World) (h : RS ts fin d r i n c y) (hT : TokAt w (.slice a ts.length cap) ts) (t : ByteArray) (ht : t ≠ M.em) (hn : M.numB t.data.toList = false) :
    Calls Tryz.prog 20 #[.agg #[.slice a ts.length cap, .int .i64 i, .int .i64 fin, .int .i64 n, .int .i64 c, .int .i64 y], .string t] w fun e w' => Below w.heap.size w w' ∧ ∃ (i' : Nat) (c' y' : Int), e = .returned (.agg #[.slice a ts.length cap, .int .i64 i', .int .i64 fin, .int .i64 n, .int .i64 c', .int .i64 y']) ∧ RS ts fin d (needR r t) i' n c' y' := by
  have hlen := hT.1
  have hi := h.lt
  cases hr : isR r t
  · have HN := hid (needR_no hr)
    go_enter Tryz.func20, Tryz.ntmps20
    go_wp2_with fail
    refine (ris_any _ _ _ _ _ _ _ _ _ _ _ h (hT.keep (below_two _ _)) t ht hn).mono ?_
    rintro e w1 ⟨rfl, hb⟩
    obtain ⟨hP, hQ, hz, hb1⟩ := two_new hb
    obtain ⟨x0, x1, x2, x3, x4, x5, xf⟩ := cells6 hP
    go_wp2_with fail
    refine (rfail_any _ _ _ _ _ _ _ _ _ _ _ h (hT.keep hb1) 20 (by decide)).mono ?_
    rintro e w2 ⟨hb2, c', y', rfl, hF⟩
    have hQ2 := (hb2.block _ hz).trans hQ
    obtain ⟨y0, y1, y2, y3, y4, y5, yf⟩ := cells6 hQ2
    have hb3 := hb1.trans (hb2.mono hb1.size)
    go_wp2_with fail
    refine bodyPost_ret (v := .agg #[.slice a ts.length cap, .int .i64 i, .int .i64 fin, .int .i64 n, .int .i64 c', .int .i64 y']) (by simp [results, Tryz.results20, go_sem, y0, y1, y2, y3, y4, y5]) rfl ⟨?_, _, _, _, rfl, by rw [HN.out]; exact hF⟩
    refine Below.setCell (Below.setCell (Below.setCell (Below.setCell (Below.setCell (Below.setCell hb3 ?_ _) ?_ _) ?_ _) ?_ _) ?_ _) ?_ _
    all_goals simp
  · obtain ⟨S, rfl⟩ := isR_ok hr
    have HN := hid (needR_yes hr)
    obtain ⟨rfl, rfl, hlt, hS⟩ := h.step (M.at_ne (show S.at t = true from hr) ht)
    have HS : Hid (RS ts fin d (.ok S.adv) (i + 1) n 0 0) := hS
    clear hS
    go_enter Tryz.func20, Tryz.ntmps20
    go_wp2_with fail
    refine (ris_any _ _ _ _ _ _ _ _ _ _ _ h (hT.keep (below_two _ _)) t ht hn).mono ?_
    rintro e w1 ⟨rfl, hb⟩
    obtain ⟨hP, hQ, hz, hb1⟩ := two_new hb
    obtain ⟨x0, x1, x2, x3, x4, x5, xf⟩ := cells6 hP
    obtain ⟨y0, y1, y2, y3, y4, y5, yf⟩ := cells6 hQ
    rw [hr]
    go_wp2_with fail
    refine bodyPost_ret (v := .agg #[.slice a ts.length cap, .int .i64 ((i + 1 : Nat) : Int), .int .i64 fin, .int .i64 n, .int .i64 0, .int .i64 0]) (by simp [results, Tryz.results20, go_sem, y0, y1, y2, y3, y4, y5]) rfl ⟨?_, _, _, _, rfl, by rw [HN.out]; exact HS.out⟩
    refine Below.setCell (Below.setCell (Below.setCell (Below.setCell (Below.setCell (Below.setCell (Below.setCell hb1 ?_ _) ?_ _) ?_ _) ?_ _) ?_ _) ?_ _) ?_ _
    all_goals simp

set_option maxHeartbeats 400000 in
theorem rName_any (s : ByteArray) (w : World) (hs : s.size ≤ maxLen) :
    Calls Tryz.prog 54 #[.string s] w fun e w' => e = .returned (.bool (M.may1 ⟨0, s, 0⟩ && !M.kw s)) ∧ Below w.heap.size w w' := by
  have RA : ∀ W, Calls Tryz.prog 55 #[.agg #[.int .i64 0, .string s, .int .i64 0]] W fun e w' => e = .returned (.bool (M.may1 ⟨0, s, 0⟩)) ∧ Below W.heap.size W w' := fun W => right_any ⟨0, s, 0⟩ W hs
  cases hm : M.may1 ⟨0, s, 0⟩
  · go_enter Tryz.func54, Tryz.ntmps54
    go_wp2_with fail
    refine (RA _).mono ?_
    rintro e w1 ⟨rfl, hb⟩
    rw [hm]
    go_wp2_with fail
    go_ret
    exact ⟨rfl, hb⟩
  · go_enter Tryz.func54, Tryz.ntmps54
    go_wp2_with fail
    refine (RA _).mono ?_
    rintro e w1 ⟨rfl, hb⟩
    rw [hm]
    go_wp2_with fail
    refine (rKeyword_any _ _).mono ?_
    rintro e w2 ⟨rfl, hb2⟩
    go_wp2_with fail
    go_ret
    exact ⟨rfl, hb.trans (hb2.mono hb.size)⟩
end Go.Proofs.YtkonkdhoakcmdaaGreatDoor
