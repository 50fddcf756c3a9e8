/-
  The walk of the document's reader's stmt (proteanref02): if and while. Conditions: the state's; how many tokens there are; what block answers.
-/
import Derived.Test.YtkpmpnebmkeocaaGreatDoorTD
set_option linter.unusedSimpArgs false
set_option linter.unusedVariables false
section
namespace Go.Proofs.YtkpmpnebmkeocaaGreatDoor
open Go.RowKit

theorem op_short {S S1 : M.St} {m : Nat} (h : stR (operandR (.ok S)) = .ok S1) (hm : S.rest.length < m) : S1.rest.length < m := Nat.lt_trans (args_short h) hm
theorem blk_short {N m : Nat} {q : RSt} {S1 : M.St} (h : stR (blockR N q) = .ok S1) (hm : ∀ S, q = .ok S → S.rest.length < m) : S1.rest.length < m := by
  cases q with
  | error f => cases h
  | ok S =>
    have e : blockR N (.ok S) = M.blk N S := rfl
    rw [e] at h
    cases hb : M.blk N S with
    | error f => rw [hb] at h; cases h
    | ok p => rw [hb] at h; cases h; exact Nat.lt_of_le_of_lt (M.blk_le N hb).rest (hm S rfl)
theorem need_short {m : Nat} {q : RSt} {t : ByteArray} {S1 : M.St} (h : needR q t = .ok S1) (hm : ∀ S, q = .ok S → S.rest.length < m) : S1.rest.length < m := by
  cases q with
  | error f => cases h
  | ok S =>
    cases hc : S.at t
    · rw [needR_no (show isR (.ok S) t = false from hc)] at h; cases h
    · rw [needR_yes (show isR (.ok S) t = true from hc)] at h; cases h
      exact Nat.lt_of_le_of_lt (M.adv_le S).rest (hm S rfl)

set_option maxRecDepth 40000 in
set_option maxHeartbeats 3200000 in
theorem rstmt_if (N : Nat) (a : Option Addr) (cap : Nat) (ts : List M.Tok) (fin : Int) (d : Nat) (r : RSt) (i n : Nat) (c y : Int) (w : World) (h : RS ts fin d r i n c y) (hT : TokAt w (.slice a ts.length cap) ts) (hfew : ts.length ≤ 4398046511000) (hB : RBlockC N) (hd : d ≤ 32) (hN : ∀ S, r = .ok S → S.rest.length ≤ N) (kN : isNameR r = false) (kO : isR r M.kOut = false) (kR : isR r M.kReturn = false) (kI : isR r M.kIf = true) (kW : isR r M.kWhile = false) :
    Calls Tryz.prog 73 #[.agg #[.slice a ts.length cap, .int .i64 (i : Nat), .int .i64 fin, .int .i64 (n : Nat), .int .i64 c, .int .i64 y], .int .i64 (d : Nat)] w fun e w' => Below w.heap.size w w' ∧ ∃ (i' n' : Nat) (c' y' : Int) (v : Value) (t : M.Tr), e = .returned (.tuple #[.agg #[.slice a ts.length cap, .int .i64 (i' : Nat), .int .i64 fin, .int .i64 (n' : Nat), .int .i64 c', .int .i64 y'], v]) ∧ RS ts fin d (stR (stmtR N r)) i' n' c' y' ∧ stmEnc w t v w' ∧ ∀ S' t', stmtR N r = .ok (S', t') → t = t' := by
  have hi := h.lt
  have hn2 := h.lim
  obtain ⟨S, rfl⟩ := isR_ok kI
  have hc0 := (h.good S rfl).1
  have hy0 := (h.good S rfl).2.1
  subst hc0 hy0
  have HSn := hid h.idx.2.2
  have HSr := hid h.idx.1
  have hbw0 := Below.refl w.heap.size w
  go_enter Tryz.func73, Tryz.ntmps73
  go_wp2_with fail
  refine (risName_any _ _ _ _ _ _ _ _ _ _ _ h (hT.keep (below_four _ _ _ _))).mono ?_
  rintro e w1 ⟨rfl, hb⟩
  obtain ⟨hP1, hQ1, hR1, hN1, hbn⟩ := four_new hb
  clear hb
  have hbw1 := hbw0.trans (hbn.mono hbw0.size)
  clear hbn 
  obtain ⟨x0, x1, x2, x3, x4, x5, xf⟩ := cells6 hP1
  rw [kN]
  go_wp2_with fail
  clear x0 x1 x2 x3 x4 x5 xf
  refine (ris_any _ _ _ _ _ _ _ _ _ _ _ h (hT.keep hbw1) M.kOut (by decide) (by decide)).mono ?_
  rintro e w2 ⟨rfl, hb⟩
  have hP2 := kept hb hP1
  have hQ2 := kept hb hQ1
  have hR2 := kept hb hR1
  have hN2 := kept hb hN1
  have hbw2 := hbw1.trans (hb.mono hbw1.size)
  clear hb hP1 hQ1 hR1 hN1
  obtain ⟨x0, x1, x2, x3, x4, x5, xf⟩ := cells6 hP2
  rw [kO]
  go_wp2_with fail
  clear x0 x1 x2 x3 x4 x5 xf
  refine (ris_any _ _ _ _ _ _ _ _ _ _ _ h (hT.keep hbw2) M.kReturn (by decide) (by decide)).mono ?_
  rintro e w3 ⟨rfl, hb⟩
  have hP3 := kept hb hP2
  have hQ3 := kept hb hQ2
  have hR3 := kept hb hR2
  have hN3 := kept hb hN2
  have hbw3 := hbw2.trans (hb.mono hbw2.size)
  clear hb hP2 hQ2 hR2 hN2
  obtain ⟨x0, x1, x2, x3, x4, x5, xf⟩ := cells6 hP3
  rw [kR]
  go_wp2_with fail
  clear x0 x1 x2 x3 x4 x5 xf
  refine (ris_any _ _ _ _ _ _ _ _ _ _ _ h (hT.keep hbw3) M.kIf (by decide) (by decide)).mono ?_
  rintro e w4 ⟨rfl, hb⟩
  have hP4 := kept hb hP3
  have hQ4 := kept hb hQ3
  have hR4 := kept hb hR3
  have hN4 := kept hb hN3
  have hbw4 := hbw3.trans (hb.mono hbw3.size)
  clear hb hP3 hQ3 hR3 hN3
  obtain ⟨x0, x1, x2, x3, x4, x5, xf⟩ := cells6 hP4
  rw [kI]
  by_cases hn : n = 2000
  · have hge : (2000 : Int) ≤ (n : Int) := by omega
    have HSn2 : Hid (S.n = 2000) := HSn.out.trans hn
    clear hn
    go_wp2_with fail
    obtain ⟨n0, n1, n2, n3, n4, n5, n6, n7, nf, nz⟩ := cells8 hN4
    obtain ⟨q0, q1, q2, q3, q4, q5, qf⟩ := cells6 hQ4
    obtain ⟨z0, z1, z2, z3, z4, z5, z6, z7, zf, zz⟩ := cells8 hR4
    have hl := hlt_ hN4
    have e0 : w.heap.size < w4.heap.size := by omega
    have e1 : w.heap.size + 1 < w4.heap.size := by omega
    have KH : Hid (∀ W, Keep (fun b => b = w.heap.size + 1 ∨ b = w.heap.size + 1 + 1) w4 W → W.cell? ⟨w.heap.size, 0, none⟩ = some (.slice a ts.length cap) ∧ W.cell? ⟨w.heap.size, 1, none⟩ = some (.int .i64 (i : Nat)) ∧ W.cell? ⟨w.heap.size, 2, none⟩ = some (.int .i64 fin) ∧ W.cell? ⟨w.heap.size, 3, none⟩ = some (.int .i64 (n : Nat)) ∧ W.cell? ⟨w.heap.size, 4, none⟩ = some (.int .i64 0) ∧ W.cell? ⟨w.heap.size, 5, none⟩ = some (.int .i64 0) ∧ W.cell? ⟨w.heap.size + 1 + 1 + 1, 0, none⟩ = some (.int .i64 0) ∧ W.cell? ⟨w.heap.size + 1 + 1 + 1, 1, none⟩ = some (.string ⟨#[]⟩) ∧ W.cell? ⟨w.heap.size + 1 + 1 + 1, 2, none⟩ = some (.string ⟨#[]⟩) ∧ W.cell? ⟨w.heap.size + 1 + 1 + 1, 3, none⟩ = some (.string ⟨#[]⟩) ∧ W.cell? ⟨w.heap.size + 1 + 1 + 1, 4, none⟩ = some (.slice none 0 0) ∧ W.cell? ⟨w.heap.size + 1 + 1 + 1, 5, none⟩ = some (.slice none 0 0) ∧ W.cell? ⟨w.heap.size + 1 + 1 + 1, 6, none⟩ = some (.slice none 0 0) ∧ W.cell? ⟨w.heap.size + 1 + 1 + 1, 7, none⟩ = some (.slice none 0 0)) := fun W hk => by
      have e := fun (b i : Nat) (h1 : b < w4.heap.size) (h2 : ¬ (fun b => b = w.heap.size + 1 ∨ b = w.heap.size + 1 + 1) b) => World.cell?_of_block (w := w4) (a := ⟨b, i, none⟩) (hk.block b h1 h2)
      exact ⟨(e _ _ e0 (by simp <;> omega)).trans x0, (e _ _ e0 (by simp <;> omega)).trans x1, (e _ _ e0 (by simp <;> omega)).trans x2, (e _ _ e0 (by simp <;> omega)).trans x3, (e _ _ e0 (by simp <;> omega)).trans x4, (e _ _ e0 (by simp <;> omega)).trans x5, (e _ _ hl (by simp <;> omega)).trans n0, (e _ _ hl (by simp <;> omega)).trans n1, (e _ _ hl (by simp <;> omega)).trans n2, (e _ _ hl (by simp <;> omega)).trans n3, (e _ _ hl (by simp <;> omega)).trans n4, (e _ _ hl (by simp <;> omega)).trans n5, (e _ _ hl (by simp <;> omega)).trans n6, (e _ _ hl (by simp <;> omega)).trans n7⟩
    have FAIL : Hid (∀ W, Below w4.heap.size w4 W → Calls Tryz.prog 71 #[.agg #[.slice a ts.length cap, .int .i64 (i : Nat), .int .i64 fin, .int .i64 (n : Nat), .int .i64 0, .int .i64 0], .int .i64 22] W fun e w' => Below w4.heap.size w4 w' ∧ ∃ (c' y' : Int), e = .returned (.agg #[.slice a ts.length cap, .int .i64 (i : Nat), .int .i64 fin, .int .i64 (n : Nat), .int .i64 c', .int .i64 y']) ∧ RS ts fin d (failR (.ok S) 22) i n c' y') := fun W hb => (rfail_any _ _ _ _ _ _ _ _ _ _ _ h (hT.keep (hbw4.trans (hb.mono hbw4.size))) 22 (by decide)).mono fun e w' ⟨g1, g2⟩ => ⟨hb.trans (g1.mono hb.size), g2⟩
    have HF := hid (st_full (N := N) (S := S) (by simp [atStmtR, kN, kO, kR, kI, kW]) HSn2.out)
    go_region_held3 (fun w' => w'.cell? ⟨w.heap.size, 0, none⟩ = some (.slice a ts.length cap) ∧ w'.cell? ⟨w.heap.size, 1, none⟩ = some (.int .i64 (i : Nat)) ∧ w'.cell? ⟨w.heap.size, 2, none⟩ = some (.int .i64 fin) ∧ w'.cell? ⟨w.heap.size, 3, none⟩ = some (.int .i64 (n : Nat)) ∧ w'.cell? ⟨w.heap.size, 4, none⟩ = some (.int .i64 0) ∧ w'.cell? ⟨w.heap.size, 5, none⟩ = some (.int .i64 0) ∧ w'.cell? ⟨w.heap.size + 1 + 1 + 1, 0, none⟩ = some (.int .i64 0) ∧ w'.cell? ⟨w.heap.size + 1 + 1 + 1, 1, none⟩ = some (.string ⟨#[]⟩) ∧ w'.cell? ⟨w.heap.size + 1 + 1 + 1, 2, none⟩ = some (.string ⟨#[]⟩) ∧ w'.cell? ⟨w.heap.size + 1 + 1 + 1, 3, none⟩ = some (.string ⟨#[]⟩) ∧ w'.cell? ⟨w.heap.size + 1 + 1 + 1, 4, none⟩ = some (.slice none 0 0) ∧ w'.cell? ⟨w.heap.size + 1 + 1 + 1, 5, none⟩ = some (.slice none 0 0) ∧ w'.cell? ⟨w.heap.size + 1 + 1 + 1, 6, none⟩ = some (.slice none 0 0) ∧ w'.cell? ⟨w.heap.size + 1 + 1 + 1, 7, none⟩ = some (.slice none 0 0)) (first | exact KH.out _ (by repeat (first | with_reducible exact keep_self | with_reducible exact KB | with_reducible refine keep_drew ?_ | with_reducible refine keep_alloc ?_ | with_reducible refine keep_setc ?_ (by first | omega | (simp; done) | (simp; omega)))) | go_keep) (first | (go_at_call 71; refine (FAIL.out _ (by repeat (first | with_reducible exact Below.refl _ _ | with_reducible exact BB | with_reducible refine Below.drew ?_ | with_reducible refine Below.alloc ?_ (by first | omega | (simp; done) | (simp; omega)) _))).mono ?_; rintro e w9 ⟨BB, c9, y9, rfl, h9⟩; have KB := Below.keepX (X := (fun b => b = w.heap.size + 1 ∨ b = w.heap.size + 1 + 1)) BB; obtain ⟨cc9, cf9⟩ := bcell BB; have lt9 := blt BB))
    all_goals
      have hbw9 := hbw4.trans (BB.mono hbw4.size)
      clear q0 q1 q2 q3 q4 q5 qf z0 z1 z2 z3 z4 z5 z6 z7 zf zz
      obtain ⟨q0, q1, q2, q3, q4, q5, qf⟩ := cells6 (kept BB hQ4)
      obtain ⟨z0, z1, z2, z3, z4, z5, z6, z7, zf, zz⟩ := cells8 (kept BB hR4)
      have e5 : w.heap.size < w9.heap.size := by omega
      have e6 : w.heap.size + 1 < w9.heap.size := by omega
      go_wp2_with fail
      refine bodyPost_ret (v := .tuple #[.agg #[.slice a ts.length cap, .int .i64 (i : Nat), .int .i64 fin, .int .i64 (n : Nat), .int .i64 c9, .int .i64 y9], .agg #[.int .i64 0, .string ⟨#[]⟩, .string ⟨#[]⟩, .string ⟨#[]⟩, .slice none 0 0, .slice none 0 0, .slice none 0 0, .slice none 0 0]]) (by simp [results, Tryz.results73, go_sem, q0, q1, q2, q3, q4, q5, z0, z1, z2, z3, z4, z5, z6, z7, e5, e6, zz]) rfl ⟨?_, i, n, c9, y9, _, M.one 0 M.em M.em M.em [] [] .nil .nil, rfl, by rw [HF.out.1]; exact h9, stmEnc_mk (OpsAt.nil _ _) (StrsAt.nil _ _), fun S' x e => absurd e (HF.out.2 _ _)⟩
      repeat (first | with_reducible exact hbw9 | with_reducible refine Below.setCell ?_ (by first | omega | (simp; done) | (simp; omega)) _ | with_reducible refine Below.drew ?_ | with_reducible refine Below.alloc ?_ (by first | omega | (simp; done) | (simp; omega)) _)
  · have hlt : n < 2000 := by omega
    have hlti : (n : Int) < 2000 := by omega
    have HSn2 : Hid (¬ S.n = 2000) := fun e => hn (HSn.out.symm.trans e)
    clear hn
    obtain ⟨n1, hn1⟩ : ∃ n1, n1 = n + 1 := ⟨_, rfl⟩
    have hm : RS ts fin d (.ok S.more) i n1 0 0 := by rw [hn1]; exact (h.more hlt).2.2.2
    have HN1 := hid hn1
    clear hn1
    go_wp2_with fail
    rw [show ((n : Int) + 1) = (n1 : Int) by have := HN1.out; omega]
    clear x0 x1 x2 x3 x4 x5 xf
    have hl4 := hlt_ hN4
    have hP5 := (st_set3 hP4 (.int .i64 (n1 : Nat))).1
    have hQ5 := kset hQ4 (p := ⟨w.heap.size, 3, none⟩) (show w.heap.size + 1 ≠ w.heap.size by omega) (.int .i64 (n1 : Nat))
    have hR5 := kset hR4 (p := ⟨w.heap.size, 3, none⟩) (show w.heap.size + 1 + 1 ≠ w.heap.size by omega) (.int .i64 (n1 : Nat))
    have hN5 := kset hN4 (p := ⟨w.heap.size, 3, none⟩) (show w.heap.size + 1 + 1 + 1 ≠ w.heap.size by omega) (.int .i64 (n1 : Nat))
    have hbw5 := hbw4.setCell (p := ⟨w.heap.size, 3, none⟩) (show w.heap.size ≤ w.heap.size by omega) (.int .i64 (n1 : Nat))
    generalize hW : (w4.setCell ⟨w.heap.size, 3, none⟩ (.int .i64 (n1 : Nat))) = w5 at hP5 hQ5 hR5 hN5 hbw5 ⊢
    clear hW hP4 hQ4 hR4 hN4
    refine (ris_any _ _ _ _ _ _ _ _ _ _ _ hm (hT.keep hbw5) M.kIf (by decide) (by decide)).mono ?_
    rintro e w6 ⟨rfl, hb⟩
    have hP6 := kept hb hP5
    have hQ6 := kept hb hQ5
    have hR6 := kept hb hR5
    have hN6 := kept hb hN5
    have hbw6 := hbw5.trans (hb.mono hbw5.size)
    clear hb hP5 hQ5 hR5 hN5
    obtain ⟨x0, x1, x2, x3, x4, x5, xf⟩ := cells6 hP6
    rw [show isR (.ok S.more) M.kIf = true from kI]
    have hl6 : w.heap.size + 1 + 1 + 1 < w6.heap.size := hlt_ hN6
    have hp6 : w.heap.size < w6.heap.size := by omega
    go_wp2_with fail
    clear x0 x1 x2 x3 x4 x5 xf
    refine (ris_any _ _ _ _ _ _ _ _ _ _ _ hm (hT.keep (hbw6.trans ((below_box _).mono hbw6.size))) M.kWhile (by decide) (by decide)).mono ?_
    rintro e w7 ⟨rfl, hb⟩
    obtain ⟨hD7, _, hbn⟩ := one_new hb
    clear hb
    have hP7 := kept hbn hP6
    have hQ7 := kept hbn hQ6
    have hR7 := kept hbn hR6
    have hN7 := kept hbn hN6
    have hbw7 := hbw6.trans (hbn.mono hbw6.size)
    clear hbn hP6 hQ6 hR6 hN6
    obtain ⟨x0, x1, x2, x3, x4, x5, xf⟩ := cells6 hP7
    rw [show isR (.ok S.more) M.kWhile = false from kW]
    have hd7 : w6.heap.size < w7.heap.size := hlt_ hD7
    go_wp2_with fail
    clear x0 x1 x2 x3 x4 x5 xf
    obtain ⟨_, _, hilt, hm2⟩ := hm.step (M.at_ne (show S.more.at M.kIf = true from kI) (by decide))
    obtain ⟨i1, hi1⟩ : ∃ i1, i1 = i + 1 := ⟨_, rfl⟩
    rw [← hi1] at hm2
    rw [show ((i : Int) + 1) = (i1 : Int) by omega]
    clear hi1
    have hP8 := (st_set3 hP7 (.int .i64 (i1 : Nat))).2
    have hQ8 := kset hQ7 (p := ⟨w.heap.size, 1, none⟩) (show w.heap.size + 1 ≠ w.heap.size by omega) (.int .i64 (i1 : Nat))
    have hR8 := kset hR7 (p := ⟨w.heap.size, 1, none⟩) (show w.heap.size + 1 + 1 ≠ w.heap.size by omega) (.int .i64 (i1 : Nat))
    have hN8 := kset hN7 (p := ⟨w.heap.size, 1, none⟩) (show w.heap.size + 1 + 1 + 1 ≠ w.heap.size by omega) (.int .i64 (i1 : Nat))
    have hD8 := kset hD7 (p := ⟨w.heap.size, 1, none⟩) (show w6.heap.size ≠ w.heap.size by omega) (.int .i64 (i1 : Nat))
    have hbw8 := hbw7.setCell (p := ⟨w.heap.size, 1, none⟩) (show w.heap.size ≤ w.heap.size by omega) (.int .i64 (i1 : Nat))
    generalize hW : (w7.setCell ⟨w.heap.size, 1, none⟩ (.int .i64 (i1 : Nat))) = w8 at hP8 hQ8 hR8 hN8 hD8 hbw8 ⊢
    clear hW hP7 hQ7 hR7 hN7 hD7
    refine (roperand_any _ _ _ _ _ _ _ _ _ _ _ hm2 (hT.keep hbw8)).mono ?_
    rintro e w9 ⟨hb, ia, ca, ya, o, rfl, hqa, ho⟩
    have hQ9 := kept hb hQ8
    have hR9 := kept hb hR8
    have hN9 := kept hb hN8
    have hD9 := kept hb hD8
    have hbw9 := hbw8.trans (hb.mono hbw8.size)
    clear hb hQ8 hR8 hN8 hD8
    have hshort : ∀ S1, stR (operandR (.ok S.more.adv)) = .ok S1 → S1.rest.length < N := fun S1 e => op_short e (Nat.lt_of_lt_of_le (M.adv_short (M.at_ne (show S.more.at M.kIf = true from kI) (by decide))) (hN S rfl))
    have hlN9 := hlt_ hN9
    have hlD9 := hlt_ hD9
    have hbs := hbw9.setCell (p := ⟨w6.heap.size, 4, none⟩) (show w.heap.size ≤ w6.heap.size by omega) (.slice (some ⟨w9.heap.size + 1 + 1, 0, none⟩) 1 1)
    obtain ⟨d0, d1, d2, d3, d4, d5, d6, d7, df, dz⟩ := cells8 hD9
    have ea : w6.heap.size < w9.heap.size + 1 := by omega
    have eb : w6.heap.size < w9.heap.size + 1 + 1 := by omega
    have ec : w6.heap.size ≤ w9.heap.size := by omega
    have ed : w6.heap.size ≤ w9.heap.size + 1 := by omega
    go_wp2_with fail
    clear ea eb ec ed
    have hW10 : w9.heap.size ≤ ((((w9.setCell ⟨w6.heap.size, 4, none⟩ (.slice (some ⟨w9.heap.size + 1 + 1, 0, none⟩) 1 1)).alloc (.cells #[.slice a ts.length cap, .int .i64 (ia : Nat), .int .i64 fin, .int .i64 (n1 : Nat), .int .i64 ca, .int .i64 ya] 81)).alloc (.cells #[.int .i64 o.k, .int .i64 o.n, .string o.s] 47)).alloc (.cells #[.int .i64 o.k, .int .i64 o.n, .string o.s] 47)).heap.size := by simp only [World.size_alloc, zset]; omega
    refine (hB _ _ _ _ _ _ _ _ _ _ _ hqa (hT.keep (hbs.trans ((below_three _ _ _).mono hbs.size))) hfew hd hshort).mono ?_
    rintro e w10 ⟨hb, ib, nb, cb, yb, v, th, rfl, hqb, hv, ht⟩
    obtain ⟨_, _, hL10, hbn⟩ := three_newp hb
    simp only [zset] at hL10
    clear hb
    clear d0 d1 d2 d3 d4 d5 d6 d7 df dz
    have hQ10 := kept hbn (kset hQ9 (p := ⟨w6.heap.size, 4, none⟩) (show w.heap.size + 1 ≠ w6.heap.size by omega) (.slice (some ⟨w9.heap.size + 1 + 1, 0, none⟩) 1 1))
    have hR10 := kept hbn (kset hR9 (p := ⟨w6.heap.size, 4, none⟩) (show w.heap.size + 1 + 1 ≠ w6.heap.size by omega) (.slice (some ⟨w9.heap.size + 1 + 1, 0, none⟩) 1 1))
    have hN10 := kept hbn (kset hN9 (p := ⟨w6.heap.size, 4, none⟩) (show w.heap.size + 1 + 1 + 1 ≠ w6.heap.size by omega) (.slice (some ⟨w9.heap.size + 1 + 1, 0, none⟩) 1 1))
    have hD10 := kept hbn (stm_set hD9 (.slice (some ⟨w9.heap.size + 1 + 1, 0, none⟩) 1 1)).2
    have hbw10 := hbs.trans (hbn.mono hbs.size)
    have hv1 : StmAt w10 (fun b => b < w9.heap.size ∨ w10.heap.size ≤ b) v th := hv.weak fun b hb1 hx hy => by
      rcases hy with hy | hy
      · exact hx (Nat.lt_of_lt_of_le hy hW10)
      · omega
    have hb1 : w9.heap.size + 1 + 1 < w10.heap.size := hlt_ hL10
    obtain ⟨av, cv, rfl⟩ := StmAt.form hv
    clear hv hbn hW10 hbs hQ9 hR9 hN9 hD9
    have HV := hid ((st_if (N := N) (show S.at M.kIf = true from kI) HSn2.out).trans (st_branch ho ht).1)
    have hshort2 : ∀ S1, stR (blockR N (stR (operandR (.ok S.more.adv)))) = .ok S1 → S1.rest.length < N := fun S1 e => blk_short e hshort
    clear ho ht hshort
    generalize stR (blockR N (stR (operandR (.ok S.more.adv)))) = q at hqb HV hshort2
    obtain ⟨d0, d1, d2, d3, d4, d5, d6, d7, df, dz⟩ := cells8 hD10
    go_wp2_with fail
    clear d0 d1 d2 d3 d4 d5 d6 d7 df dz
    have hbs := hbw10.setCell (p := ⟨w6.heap.size, 6, none⟩) (show w.heap.size ≤ w6.heap.size by omega) (.slice av th.len cv)
    have hv2 : StmAt (w10.setCell ⟨w6.heap.size, 6, none⟩ (.slice av th.len cv)) (fun b => b < w9.heap.size ∨ w10.heap.size ≤ b) (.slice av th.len cv) th := hv1.keep (keep_setc keep_self (Or.inl (show w6.heap.size < w9.heap.size by omega)))
    refine (ris_any _ _ _ _ _ _ _ _ _ _ _ hqb (hT.keep (hbs.trans ((below_box _).mono hbs.size))) M.kElse (by decide) (by decide)).mono ?_
    rintro e w11 ⟨rfl, hb⟩
    obtain ⟨hB11, _, hbn⟩ := one_new hb
    simp only [zset] at hB11
    clear hb
    have hQ11 := kept hbn (kset hQ10 (p := ⟨w6.heap.size, 6, none⟩) (show w.heap.size + 1 ≠ w6.heap.size by omega) (.slice av th.len cv))
    have hR11 := kept hbn (kset hR10 (p := ⟨w6.heap.size, 6, none⟩) (show w.heap.size + 1 + 1 ≠ w6.heap.size by omega) (.slice av th.len cv))
    have hN11 := kept hbn (kset hN10 (p := ⟨w6.heap.size, 6, none⟩) (show w.heap.size + 1 + 1 + 1 ≠ w6.heap.size by omega) (.slice av th.len cv))
    have hL11 := kept hbn (kset hL10 (p := ⟨w6.heap.size, 6, none⟩) (show w9.heap.size + 1 + 1 ≠ w6.heap.size by omega) (.slice av th.len cv))
    have hD11 := kept hbn (stm_set0 hD10 (.slice av th.len cv)).2.2.1
    have hbw11 := hbs.trans (hbn.mono hbs.size)
    have hv3 := hv2.bel hbn
    clear hv1 hv2 hbn hbs hQ10 hR10 hN10 hD10 hL10
    have hlB : w10.heap.size < w11.heap.size := hlt_ hB11
    cases hel : isR q M.kElse
    · have hqf := hqb
      have HE : Hid (stR (stmtR N (.ok S)) = q ∧ ∀ S' t', stmtR N (.ok S) = .ok (S', t') → (M.one 9 M.em M.em M.em [o] [] th .nil) = t') := by unfold Hid; rw [HV.out, st_noelse hel]; exact mv_end q _
      go_wp2_with fail
      obtain ⟨b0, b1, b2, b3, b4, b5, bf⟩ := cells6 hB11
      obtain ⟨d0, d1, d2, d3, d4, d5, d6, d7, df, dz⟩ := cells8 hD11
      obtain ⟨q0, q1, q2, q3, q4, q5, qf⟩ := cells6 hQ11
      obtain ⟨z0, z1, z2, z3, z4, z5, z6, z7, zf, zz⟩ := cells8 hR11
      have e0 : w.heap.size < w11.heap.size := by omega
      have e1 : w.heap.size + 1 < w11.heap.size := by omega
      have m1 : ¬ w10.heap.size = w.heap.size + 1 := by omega
      have m2 : ¬ w10.heap.size = w.heap.size + 1 + 1 := by omega
      have m3 : ¬ w6.heap.size = w.heap.size + 1 := by omega
      have m4 : ¬ w6.heap.size = w.heap.size + 1 + 1 := by omega
      go_region
      all_goals
        go_wp2_with fail
        refine bodyPost_ret (v := .tuple #[.agg #[.slice a ts.length cap, .int .i64 (ib : Nat), .int .i64 fin, .int .i64 (nb : Nat), .int .i64 cb, .int .i64 yb], .agg #[.int .i64 9, .string ⟨#[]⟩, .string ⟨#[]⟩, .string ⟨#[]⟩, .slice (some ⟨w9.heap.size + 1 + 1, 0, none⟩) 1 1, .slice none 0 0, .slice av th.len cv, .slice none 0 0]]) (by simp [results, Tryz.results73, go_sem, q0, q1, q2, q3, q4, q5, z0, z1, z2, z3, z4, z5, z6, z7, e0, e1, zz]) rfl ⟨?_, ib, nb, cb, yb, _, M.one 9 M.em M.em M.em [o] [] th .nil, rfl, by rw [HE.out.1]; exact hqf, ⟨9, M.em, M.em, M.em, [o], [], th, .nil, _, _, _, _, rfl, rfl, ?_, StrsAt.nil _ _, ?_, ?_⟩, HE.out.2⟩
        · repeat (first | with_reducible exact hbw11 | with_reducible refine Below.setCell ?_ (by first | omega | (simp; done) | (simp; omega)) _ | with_reducible refine Below.drew ?_ | with_reducible refine Below.alloc ?_ (by first | omega | (simp; done) | (simp; omega)) _)
        · refine ((ops1_at (X := fun b => ¬ b = w9.heap.size + 1 + 1) hL11 (by simp)).keep ?_).weak fun b _ hx hy => hx (by have : b < w.heap.size := hy; omega)
          repeat (first | with_reducible exact keep_self | with_reducible refine keep_drew ?_ | with_reducible refine keep_alloc ?_ | with_reducible refine keep_setc ?_ (by first | omega | (simp; done) | (simp; omega)))
        · refine (hv3.keep ?_).weak fun b _ hx hy => hx (Or.inl (by have : b < w.heap.size := hy; omega))
          repeat (first | with_reducible exact keep_self | with_reducible refine keep_drew ?_ | with_reducible refine keep_alloc ?_ | with_reducible refine keep_setc ?_ (by first | omega | (simp; done) | (simp; omega)))
        · exact StmAt.nil _ _
    · obtain ⟨x0, x1, x2, x3, x4, x5, xf⟩ := cells6 hB11
      go_wp2_with fail
      clear x0 x1 x2 x3 x4 x5 xf
      refine (rneed_any _ _ _ _ _ _ _ _ _ _ _ hqb (hT.keep hbw11) M.kElse (by decide) (by decide)).mono ?_
      rintro e w12 ⟨hb, ic, cc, yc, rfl, hqc⟩
      have hv4 := hv3.bel hb
      clear hv3
      have hQ12 := kept hb hQ11
      have hR12 := kept hb hR11
      have hN12 := kept hb hN11
      have hD12 := kept hb hD11
      have hL12 := kept hb hL11
      have hB12 := kept hb hB11
      have hbw12 := hbw11.trans (hb.mono hbw11.size)
      clear hb hQ11 hR11 hN11 hD11 hL11 hB11
      have hshort3 : ∀ S1, needR q M.kElse = .ok S1 → S1.rest.length < N := fun S1 e => need_short e hshort2
      have hWe : w10.heap.size < w12.heap.size := hlt_ hB12
      go_wp2_with fail
      refine (hB _ _ _ _ _ _ _ _ _ _ _ hqc (hT.keep hbw12) hfew hd hshort3).mono ?_
      rintro e w13 ⟨hb, ie, ne, ce, ye, v2, el, rfl, hqf, hve, hte⟩
      have hv5 := hv4.bel hb
      clear hv4
      have hQ13 := kept hb hQ12
      have hR13 := kept hb hR12
      have hN13 := kept hb hN12
      have hD13 := kept hb hD12
      have hL13 := kept hb hL12
      have hB13 := kept hb hB12
      have hbw13 := hbw12.trans (hb.mono hbw12.size)
      clear hb hQ12 hR12 hN12 hD12 hL12 hB12
      have hve1 : StmAt w13 (fun b => b < w12.heap.size ∨ w13.heap.size ≤ b) v2 el := hve.weak fun b hb1 hx hy => by
        rcases hy with hy | hy
        · exact hx hy
        · omega
      obtain ⟨ae, ce', rfl⟩ := StmAt.form hve
      clear hve
      have HE : Hid (stR (stmtR N (.ok S)) = stR (blockR N (needR q M.kElse)) ∧ ∀ S' t', stmtR N (.ok S) = .ok (S', t') → (M.one 9 M.em M.em M.em [o] [] th el) = t') := by unfold Hid; rw [HV.out, st_else hel]; exact bind_end (needR q M.kElse) (M.blk N) (fun el => M.one 9 M.em M.em M.em [o] [] th el) el hte
      obtain ⟨b0, b1, b2, b3, b4, b5, bf⟩ := cells6 hB13
      obtain ⟨d0, d1, d2, d3, d4, d5, d6, d7, df, dz⟩ := cells8 hD13
      have hzB : w10.heap.size < w13.heap.size := hlt_ hB13
      go_wp2_with fail
      clear b0 b1 b2 b3 b4 b5 bf d0 d1 d2 d3 d4 d5 d6 d7 df dz
      have hbn : Below (((((((w13.setCell ⟨w6.heap.size, 7, none⟩ (.slice ae el.len ce')).setCell ⟨w10.heap.size, 0, none⟩ (.slice a ts.length cap)).setCell ⟨w10.heap.size, 1, none⟩ (.int .i64 (ie : Nat))).setCell ⟨w10.heap.size, 2, none⟩ (.int .i64 fin)).setCell ⟨w10.heap.size, 3, none⟩ (.int .i64 (ne : Nat))).setCell ⟨w10.heap.size, 4, none⟩ (.int .i64 ce)).setCell ⟨w10.heap.size, 5, none⟩ (.int .i64 ye)).heap.size (((((((w13.setCell ⟨w6.heap.size, 7, none⟩ (.slice ae el.len ce')).setCell ⟨w10.heap.size, 0, none⟩ (.slice a ts.length cap)).setCell ⟨w10.heap.size, 1, none⟩ (.int .i64 (ie : Nat))).setCell ⟨w10.heap.size, 2, none⟩ (.int .i64 fin)).setCell ⟨w10.heap.size, 3, none⟩ (.int .i64 (ne : Nat))).setCell ⟨w10.heap.size, 4, none⟩ (.int .i64 ce)).setCell ⟨w10.heap.size, 5, none⟩ (.int .i64 ye)) ((((((((w13.setCell ⟨w6.heap.size, 7, none⟩ (.slice ae el.len ce')).setCell ⟨w10.heap.size, 0, none⟩ (.slice a ts.length cap)).setCell ⟨w10.heap.size, 1, none⟩ (.int .i64 (ie : Nat))).setCell ⟨w10.heap.size, 2, none⟩ (.int .i64 fin)).setCell ⟨w10.heap.size, 3, none⟩ (.int .i64 (ne : Nat))).setCell ⟨w10.heap.size, 4, none⟩ (.int .i64 ce)).setCell ⟨w10.heap.size, 5, none⟩ (.int .i64 ye)).alloc (.cells #[.slice a ts.length cap, .int .i64 (ie : Nat), .int .i64 fin, .int .i64 (ne : Nat), .int .i64 ce, .int .i64 ye] 81)) := below_box _
      have hQ14 := kept hbn (kset6 (kset hQ13 (p := ⟨w6.heap.size, 7, none⟩) (show w.heap.size + 1 ≠ w6.heap.size by omega) (.slice ae el.len ce')) (show w.heap.size + 1 ≠ w10.heap.size by omega) (.slice a ts.length cap) (.int .i64 (ie : Nat)) (.int .i64 fin) (.int .i64 (ne : Nat)) (.int .i64 ce) (.int .i64 ye))
      have hR14 := kept hbn (kset6 (kset hR13 (p := ⟨w6.heap.size, 7, none⟩) (show w.heap.size + 1 + 1 ≠ w6.heap.size by omega) (.slice ae el.len ce')) (show w.heap.size + 1 + 1 ≠ w10.heap.size by omega) (.slice a ts.length cap) (.int .i64 (ie : Nat)) (.int .i64 fin) (.int .i64 (ne : Nat)) (.int .i64 ce) (.int .i64 ye))
      have hN14 := kept hbn (kset6 (kset hN13 (p := ⟨w6.heap.size, 7, none⟩) (show w.heap.size + 1 + 1 + 1 ≠ w6.heap.size by omega) (.slice ae el.len ce')) (show w.heap.size + 1 + 1 + 1 ≠ w10.heap.size by omega) (.slice a ts.length cap) (.int .i64 (ie : Nat)) (.int .i64 fin) (.int .i64 (ne : Nat)) (.int .i64 ce) (.int .i64 ye))
      have hL14 := kept hbn (kset6 (kset hL13 (p := ⟨w6.heap.size, 7, none⟩) (show w9.heap.size + 1 + 1 ≠ w6.heap.size by omega) (.slice ae el.len ce')) (show w9.heap.size + 1 + 1 ≠ w10.heap.size by omega) (.slice a ts.length cap) (.int .i64 (ie : Nat)) (.int .i64 fin) (.int .i64 (ne : Nat)) (.int .i64 ce) (.int .i64 ye))
      have hD14 := kept hbn (kset6 (stm_set0 hD13 (.slice ae el.len ce')).2.2.2 (show w6.heap.size ≠ w10.heap.size by omega) (.slice a ts.length cap) (.int .i64 (ie : Nat)) (.int .i64 fin) (.int .i64 (ne : Nat)) (.int .i64 ce) (.int .i64 ye))
      have hB14 := kept hbn (set6 (kset hB13 (p := ⟨w6.heap.size, 7, none⟩) (show w10.heap.size ≠ w6.heap.size by omega) (.slice ae el.len ce')) (.slice a ts.length cap) (.int .i64 (ie : Nat)) (.int .i64 fin) (.int .i64 (ne : Nat)) (.int .i64 ce) (.int .i64 ye))
      have hbs := bset6 (hbw13.setCell (p := ⟨w6.heap.size, 7, none⟩) (show w.heap.size ≤ w6.heap.size by omega) (.slice ae el.len ce')) (show w.heap.size ≤ w10.heap.size by omega) (.slice a ts.length cap) (.int .i64 (ie : Nat)) (.int .i64 fin) (.int .i64 (ne : Nat)) (.int .i64 ce) (.int .i64 ye)
      have hbw14 := hbs.trans (hbn.mono hbs.size)
      have HD1 : (fun b => b < w9.heap.size ∨ w10.heap.size ≤ b) w6.heap.size := Or.inl (show w6.heap.size < w9.heap.size by omega)
      have HB1 : (fun b => b < w9.heap.size ∨ w10.heap.size ≤ b) w10.heap.size := Or.inr (Nat.le_refl _)
      have HD2 : (fun b => b < w12.heap.size ∨ w13.heap.size ≤ b) w6.heap.size := Or.inl (show w6.heap.size < w12.heap.size by omega)
      have HB2 : (fun b => b < w12.heap.size ∨ w13.heap.size ≤ b) w10.heap.size := Or.inl (show w10.heap.size < w12.heap.size by omega)
      have hv3 := (hv5.keep (keep_setc (keep_setc (keep_setc (keep_setc (keep_setc (keep_setc (keep_setc keep_self HD1) HB1) HB1) HB1) HB1) HB1) HB1)).bel hbn
      have hve3 := (hve1.keep (keep_setc (keep_setc (keep_setc (keep_setc (keep_setc (keep_setc (keep_setc keep_self HD2) HB2) HB2) HB2) HB2) HB2) HB2)).bel hbn
      clear hv5 hve1 hbn hbs HD1 HB1 HD2 HB2
      generalize hW : ((((((((w13.setCell ⟨w6.heap.size, 7, none⟩ (.slice ae el.len ce')).setCell ⟨w10.heap.size, 0, none⟩ (.slice a ts.length cap)).setCell ⟨w10.heap.size, 1, none⟩ (.int .i64 (ie : Nat))).setCell ⟨w10.heap.size, 2, none⟩ (.int .i64 fin)).setCell ⟨w10.heap.size, 3, none⟩ (.int .i64 (ne : Nat))).setCell ⟨w10.heap.size, 4, none⟩ (.int .i64 ce)).setCell ⟨w10.heap.size, 5, none⟩ (.int .i64 ye)).alloc (.cells #[.slice a ts.length cap, .int .i64 (ie : Nat), .int .i64 fin, .int .i64 (ne : Nat), .int .i64 ce, .int .i64 ye] 81)) = w14 at hB14 hD14 hbw14 hv3 hve3 hQ14 hR14 hN14 hL14 ⊢
      clear hW hQ13 hR13 hN13 hD13 hL13 hB13
      have hzB2 : w10.heap.size < w14.heap.size := hlt_ hB14
      obtain ⟨b0, b1, b2, b3, b4, b5, bf⟩ := cells6 hB14
      obtain ⟨d0, d1, d2, d3, d4, d5, d6, d7, df, dz⟩ := cells8 hD14
      obtain ⟨q0, q1, q2, q3, q4, q5, qf⟩ := cells6 hQ14
      obtain ⟨z0, z1, z2, z3, z4, z5, z6, z7, zf, zz⟩ := cells8 hR14
      have e0 : w.heap.size < w14.heap.size := by omega
      have e1 : w.heap.size + 1 < w14.heap.size := by omega
      have m1 : ¬ w10.heap.size = w.heap.size + 1 := by omega
      have m2 : ¬ w10.heap.size = w.heap.size + 1 + 1 := by omega
      have m3 : ¬ w6.heap.size = w.heap.size + 1 := by omega
      have m4 : ¬ w6.heap.size = w.heap.size + 1 + 1 := by omega
      go_region
      all_goals
        go_wp2_with fail
        refine bodyPost_ret (v := .tuple #[.agg #[.slice a ts.length cap, .int .i64 (ie : Nat), .int .i64 fin, .int .i64 (ne : Nat), .int .i64 ce, .int .i64 ye], .agg #[.int .i64 9, .string ⟨#[]⟩, .string ⟨#[]⟩, .string ⟨#[]⟩, .slice (some ⟨w9.heap.size + 1 + 1, 0, none⟩) 1 1, .slice none 0 0, .slice av th.len cv, .slice ae el.len ce']]) (by simp [results, Tryz.results73, go_sem, q0, q1, q2, q3, q4, q5, z0, z1, z2, z3, z4, z5, z6, z7, e0, e1, zz]) rfl ⟨?_, ie, ne, ce, ye, _, M.one 9 M.em M.em M.em [o] [] th el, rfl, by rw [HE.out.1]; exact hqf, ⟨9, M.em, M.em, M.em, [o], [], th, el, _, _, _, _, rfl, rfl, ?_, StrsAt.nil _ _, ?_, ?_⟩, HE.out.2⟩
        · repeat (first | with_reducible exact hbw14 | with_reducible refine Below.setCell ?_ (by first | omega | (simp; done) | (simp; omega)) _ | with_reducible refine Below.drew ?_ | with_reducible refine Below.alloc ?_ (by first | omega | (simp; done) | (simp; omega)) _)
        · refine ((ops1_at (X := fun b => ¬ b = w9.heap.size + 1 + 1) hL14 (by simp)).keep ?_).weak fun b _ hx hy => hx (by have : b < w.heap.size := hy; omega)
          repeat (first | with_reducible exact keep_self | with_reducible refine keep_drew ?_ | with_reducible refine keep_alloc ?_ | with_reducible refine keep_setc ?_ (by first | omega | (simp; done) | (simp; omega)))
        · refine (hv3.keep ?_).weak fun b _ hx hy => hx (Or.inl (by have : b < w.heap.size := hy; omega))
          repeat (first | with_reducible exact keep_self | with_reducible refine keep_drew ?_ | with_reducible refine keep_alloc ?_ | with_reducible refine keep_setc ?_ (by first | omega | (simp; done) | (simp; omega)))
        · refine (hve3.keep ?_).weak fun b _ hx hy => hx (Or.inl (by have : b < w.heap.size := hy; omega))
          repeat (first | with_reducible exact keep_self | with_reducible refine keep_drew ?_ | with_reducible refine keep_alloc ?_ | with_reducible refine keep_setc ?_ (by first | omega | (simp; done) | (simp; omega)))

set_option maxRecDepth 40000 in
set_option maxHeartbeats 3200000 in
theorem rstmt_while (N : Nat) (a : Option Addr) (cap : Nat) (ts : List M.Tok) (fin : Int) (d : Nat) (r : RSt) (i n : Nat) (c y : Int) (w : World) (h : RS ts fin d r i n c y) (hT : TokAt w (.slice a ts.length cap) ts) (hfew : ts.length ≤ 4398046511000) (hB : RBlockC N) (hd : d ≤ 32) (hN : ∀ S, r = .ok S → S.rest.length ≤ N) (kN : isNameR r = false) (kO : isR r M.kOut = false) (kR : isR r M.kReturn = false) (kI : isR r M.kIf = false) (kW : isR r M.kWhile = true) :
    Calls Tryz.prog 73 #[.agg #[.slice a ts.length cap, .int .i64 (i : Nat), .int .i64 fin, .int .i64 (n : Nat), .int .i64 c, .int .i64 y], .int .i64 (d : Nat)] w fun e w' => Below w.heap.size w w' ∧ ∃ (i' n' : Nat) (c' y' : Int) (v : Value) (t : M.Tr), e = .returned (.tuple #[.agg #[.slice a ts.length cap, .int .i64 (i' : Nat), .int .i64 fin, .int .i64 (n' : Nat), .int .i64 c', .int .i64 y'], v]) ∧ RS ts fin d (stR (stmtR N r)) i' n' c' y' ∧ stmEnc w t v w' ∧ ∀ S' t', stmtR N r = .ok (S', t') → t = t' := by
  have hi := h.lt
  have hn2 := h.lim
  obtain ⟨S, rfl⟩ := isR_ok kW
  have hc0 := (h.good S rfl).1
  have hy0 := (h.good S rfl).2.1
  subst hc0 hy0
  have HSn := hid h.idx.2.2
  have HSr := hid h.idx.1
  have hbw0 := Below.refl w.heap.size w
  go_enter Tryz.func73, Tryz.ntmps73
  go_wp2_with fail
  refine (risName_any _ _ _ _ _ _ _ _ _ _ _ h (hT.keep (below_four _ _ _ _))).mono ?_
  rintro e w1 ⟨rfl, hb⟩
  obtain ⟨hP1, hQ1, hR1, hN1, hbn⟩ := four_new hb
  clear hb
  have hbw1 := hbw0.trans (hbn.mono hbw0.size)
  clear hbn 
  obtain ⟨x0, x1, x2, x3, x4, x5, xf⟩ := cells6 hP1
  rw [kN]
  go_wp2_with fail
  clear x0 x1 x2 x3 x4 x5 xf
  refine (ris_any _ _ _ _ _ _ _ _ _ _ _ h (hT.keep hbw1) M.kOut (by decide) (by decide)).mono ?_
  rintro e w2 ⟨rfl, hb⟩
  have hP2 := kept hb hP1
  have hQ2 := kept hb hQ1
  have hR2 := kept hb hR1
  have hN2 := kept hb hN1
  have hbw2 := hbw1.trans (hb.mono hbw1.size)
  clear hb hP1 hQ1 hR1 hN1
  obtain ⟨x0, x1, x2, x3, x4, x5, xf⟩ := cells6 hP2
  rw [kO]
  go_wp2_with fail
  clear x0 x1 x2 x3 x4 x5 xf
  refine (ris_any _ _ _ _ _ _ _ _ _ _ _ h (hT.keep hbw2) M.kReturn (by decide) (by decide)).mono ?_
  rintro e w3 ⟨rfl, hb⟩
  have hP3 := kept hb hP2
  have hQ3 := kept hb hQ2
  have hR3 := kept hb hR2
  have hN3 := kept hb hN2
  have hbw3 := hbw2.trans (hb.mono hbw2.size)
  clear hb hP2 hQ2 hR2 hN2
  obtain ⟨x0, x1, x2, x3, x4, x5, xf⟩ := cells6 hP3
  rw [kR]
  go_wp2_with fail
  clear x0 x1 x2 x3 x4 x5 xf
  refine (ris_any _ _ _ _ _ _ _ _ _ _ _ h (hT.keep hbw3) M.kIf (by decide) (by decide)).mono ?_
  rintro e w4 ⟨rfl, hb⟩
  have hP4 := kept hb hP3
  have hQ4 := kept hb hQ3
  have hR4 := kept hb hR3
  have hN4 := kept hb hN3
  have hbw4 := hbw3.trans (hb.mono hbw3.size)
  clear hb hP3 hQ3 hR3 hN3
  obtain ⟨x0, x1, x2, x3, x4, x5, xf⟩ := cells6 hP4
  rw [kI]
  go_wp2_with fail
  clear x0 x1 x2 x3 x4 x5 xf
  refine (ris_any _ _ _ _ _ _ _ _ _ _ _ h (hT.keep hbw4) M.kWhile (by decide) (by decide)).mono ?_
  rintro e w5 ⟨rfl, hb⟩
  have hP5 := kept hb hP4
  have hQ5 := kept hb hQ4
  have hR5 := kept hb hR4
  have hN5 := kept hb hN4
  have hbw5 := hbw4.trans (hb.mono hbw4.size)
  clear hb hP4 hQ4 hR4 hN4
  obtain ⟨x0, x1, x2, x3, x4, x5, xf⟩ := cells6 hP5
  rw [kW]
  by_cases hn : n = 2000
  · have hge : (2000 : Int) ≤ (n : Int) := by omega
    have HSn2 : Hid (S.n = 2000) := HSn.out.trans hn
    clear hn
    go_wp2_with fail
    obtain ⟨n0, n1, n2, n3, n4, n5, n6, n7, nf, nz⟩ := cells8 hN5
    obtain ⟨q0, q1, q2, q3, q4, q5, qf⟩ := cells6 hQ5
    obtain ⟨z0, z1, z2, z3, z4, z5, z6, z7, zf, zz⟩ := cells8 hR5
    have hl := hlt_ hN5
    have e0 : w.heap.size < w5.heap.size := by omega
    have e1 : w.heap.size + 1 < w5.heap.size := by omega
    have KH : Hid (∀ W, Keep (fun b => b = w.heap.size + 1 ∨ b = w.heap.size + 1 + 1) w5 W → W.cell? ⟨w.heap.size, 0, none⟩ = some (.slice a ts.length cap) ∧ W.cell? ⟨w.heap.size, 1, none⟩ = some (.int .i64 (i : Nat)) ∧ W.cell? ⟨w.heap.size, 2, none⟩ = some (.int .i64 fin) ∧ W.cell? ⟨w.heap.size, 3, none⟩ = some (.int .i64 (n : Nat)) ∧ W.cell? ⟨w.heap.size, 4, none⟩ = some (.int .i64 0) ∧ W.cell? ⟨w.heap.size, 5, none⟩ = some (.int .i64 0) ∧ W.cell? ⟨w.heap.size + 1 + 1 + 1, 0, none⟩ = some (.int .i64 0) ∧ W.cell? ⟨w.heap.size + 1 + 1 + 1, 1, none⟩ = some (.string ⟨#[]⟩) ∧ W.cell? ⟨w.heap.size + 1 + 1 + 1, 2, none⟩ = some (.string ⟨#[]⟩) ∧ W.cell? ⟨w.heap.size + 1 + 1 + 1, 3, none⟩ = some (.string ⟨#[]⟩) ∧ W.cell? ⟨w.heap.size + 1 + 1 + 1, 4, none⟩ = some (.slice none 0 0) ∧ W.cell? ⟨w.heap.size + 1 + 1 + 1, 5, none⟩ = some (.slice none 0 0) ∧ W.cell? ⟨w.heap.size + 1 + 1 + 1, 6, none⟩ = some (.slice none 0 0) ∧ W.cell? ⟨w.heap.size + 1 + 1 + 1, 7, none⟩ = some (.slice none 0 0)) := fun W hk => by
      have e := fun (b i : Nat) (h1 : b < w5.heap.size) (h2 : ¬ (fun b => b = w.heap.size + 1 ∨ b = w.heap.size + 1 + 1) b) => World.cell?_of_block (w := w5) (a := ⟨b, i, none⟩) (hk.block b h1 h2)
      exact ⟨(e _ _ e0 (by simp <;> omega)).trans x0, (e _ _ e0 (by simp <;> omega)).trans x1, (e _ _ e0 (by simp <;> omega)).trans x2, (e _ _ e0 (by simp <;> omega)).trans x3, (e _ _ e0 (by simp <;> omega)).trans x4, (e _ _ e0 (by simp <;> omega)).trans x5, (e _ _ hl (by simp <;> omega)).trans n0, (e _ _ hl (by simp <;> omega)).trans n1, (e _ _ hl (by simp <;> omega)).trans n2, (e _ _ hl (by simp <;> omega)).trans n3, (e _ _ hl (by simp <;> omega)).trans n4, (e _ _ hl (by simp <;> omega)).trans n5, (e _ _ hl (by simp <;> omega)).trans n6, (e _ _ hl (by simp <;> omega)).trans n7⟩
    have FAIL : Hid (∀ W, Below w5.heap.size w5 W → Calls Tryz.prog 71 #[.agg #[.slice a ts.length cap, .int .i64 (i : Nat), .int .i64 fin, .int .i64 (n : Nat), .int .i64 0, .int .i64 0], .int .i64 22] W fun e w' => Below w5.heap.size w5 w' ∧ ∃ (c' y' : Int), e = .returned (.agg #[.slice a ts.length cap, .int .i64 (i : Nat), .int .i64 fin, .int .i64 (n : Nat), .int .i64 c', .int .i64 y']) ∧ RS ts fin d (failR (.ok S) 22) i n c' y') := fun W hb => (rfail_any _ _ _ _ _ _ _ _ _ _ _ h (hT.keep (hbw5.trans (hb.mono hbw5.size))) 22 (by decide)).mono fun e w' ⟨g1, g2⟩ => ⟨hb.trans (g1.mono hb.size), g2⟩
    have HF := hid (st_full (N := N) (S := S) (by simp [atStmtR, kN, kO, kR, kI, kW]) HSn2.out)
    go_region_held3 (fun w' => w'.cell? ⟨w.heap.size, 0, none⟩ = some (.slice a ts.length cap) ∧ w'.cell? ⟨w.heap.size, 1, none⟩ = some (.int .i64 (i : Nat)) ∧ w'.cell? ⟨w.heap.size, 2, none⟩ = some (.int .i64 fin) ∧ w'.cell? ⟨w.heap.size, 3, none⟩ = some (.int .i64 (n : Nat)) ∧ w'.cell? ⟨w.heap.size, 4, none⟩ = some (.int .i64 0) ∧ w'.cell? ⟨w.heap.size, 5, none⟩ = some (.int .i64 0) ∧ w'.cell? ⟨w.heap.size + 1 + 1 + 1, 0, none⟩ = some (.int .i64 0) ∧ w'.cell? ⟨w.heap.size + 1 + 1 + 1, 1, none⟩ = some (.string ⟨#[]⟩) ∧ w'.cell? ⟨w.heap.size + 1 + 1 + 1, 2, none⟩ = some (.string ⟨#[]⟩) ∧ w'.cell? ⟨w.heap.size + 1 + 1 + 1, 3, none⟩ = some (.string ⟨#[]⟩) ∧ w'.cell? ⟨w.heap.size + 1 + 1 + 1, 4, none⟩ = some (.slice none 0 0) ∧ w'.cell? ⟨w.heap.size + 1 + 1 + 1, 5, none⟩ = some (.slice none 0 0) ∧ w'.cell? ⟨w.heap.size + 1 + 1 + 1, 6, none⟩ = some (.slice none 0 0) ∧ w'.cell? ⟨w.heap.size + 1 + 1 + 1, 7, none⟩ = some (.slice none 0 0)) (first | exact KH.out _ (by repeat (first | with_reducible exact keep_self | with_reducible exact KB | with_reducible refine keep_drew ?_ | with_reducible refine keep_alloc ?_ | with_reducible refine keep_setc ?_ (by first | omega | (simp; done) | (simp; omega)))) | go_keep) (first | (go_at_call 71; refine (FAIL.out _ (by repeat (first | with_reducible exact Below.refl _ _ | with_reducible exact BB | with_reducible refine Below.drew ?_ | with_reducible refine Below.alloc ?_ (by first | omega | (simp; done) | (simp; omega)) _))).mono ?_; rintro e w9 ⟨BB, c9, y9, rfl, h9⟩; have KB := Below.keepX (X := (fun b => b = w.heap.size + 1 ∨ b = w.heap.size + 1 + 1)) BB; obtain ⟨cc9, cf9⟩ := bcell BB; have lt9 := blt BB))
    all_goals
      have hbw9 := hbw5.trans (BB.mono hbw5.size)
      clear q0 q1 q2 q3 q4 q5 qf z0 z1 z2 z3 z4 z5 z6 z7 zf zz
      obtain ⟨q0, q1, q2, q3, q4, q5, qf⟩ := cells6 (kept BB hQ5)
      obtain ⟨z0, z1, z2, z3, z4, z5, z6, z7, zf, zz⟩ := cells8 (kept BB hR5)
      have e5 : w.heap.size < w9.heap.size := by omega
      have e6 : w.heap.size + 1 < w9.heap.size := by omega
      go_wp2_with fail
      refine bodyPost_ret (v := .tuple #[.agg #[.slice a ts.length cap, .int .i64 (i : Nat), .int .i64 fin, .int .i64 (n : Nat), .int .i64 c9, .int .i64 y9], .agg #[.int .i64 0, .string ⟨#[]⟩, .string ⟨#[]⟩, .string ⟨#[]⟩, .slice none 0 0, .slice none 0 0, .slice none 0 0, .slice none 0 0]]) (by simp [results, Tryz.results73, go_sem, q0, q1, q2, q3, q4, q5, z0, z1, z2, z3, z4, z5, z6, z7, e5, e6, zz]) rfl ⟨?_, i, n, c9, y9, _, M.one 0 M.em M.em M.em [] [] .nil .nil, rfl, by rw [HF.out.1]; exact h9, stmEnc_mk (OpsAt.nil _ _) (StrsAt.nil _ _), fun S' x e => absurd e (HF.out.2 _ _)⟩
      repeat (first | with_reducible exact hbw9 | with_reducible refine Below.setCell ?_ (by first | omega | (simp; done) | (simp; omega)) _ | with_reducible refine Below.drew ?_ | with_reducible refine Below.alloc ?_ (by first | omega | (simp; done) | (simp; omega)) _)
  · have hlt : n < 2000 := by omega
    have hlti : (n : Int) < 2000 := by omega
    have HSn2 : Hid (¬ S.n = 2000) := fun e => hn (HSn.out.symm.trans e)
    clear hn
    obtain ⟨n1, hn1⟩ : ∃ n1, n1 = n + 1 := ⟨_, rfl⟩
    have hm : RS ts fin d (.ok S.more) i n1 0 0 := by rw [hn1]; exact (h.more hlt).2.2.2
    have HN1 := hid hn1
    clear hn1
    go_wp2_with fail
    rw [show ((n : Int) + 1) = (n1 : Int) by have := HN1.out; omega]
    clear x0 x1 x2 x3 x4 x5 xf
    have hl5 := hlt_ hN5
    have hP6 := (st_set3 hP5 (.int .i64 (n1 : Nat))).1
    have hQ6 := kset hQ5 (p := ⟨w.heap.size, 3, none⟩) (show w.heap.size + 1 ≠ w.heap.size by omega) (.int .i64 (n1 : Nat))
    have hR6 := kset hR5 (p := ⟨w.heap.size, 3, none⟩) (show w.heap.size + 1 + 1 ≠ w.heap.size by omega) (.int .i64 (n1 : Nat))
    have hN6 := kset hN5 (p := ⟨w.heap.size, 3, none⟩) (show w.heap.size + 1 + 1 + 1 ≠ w.heap.size by omega) (.int .i64 (n1 : Nat))
    have hbw6 := hbw5.setCell (p := ⟨w.heap.size, 3, none⟩) (show w.heap.size ≤ w.heap.size by omega) (.int .i64 (n1 : Nat))
    generalize hW : (w5.setCell ⟨w.heap.size, 3, none⟩ (.int .i64 (n1 : Nat))) = w6 at hP6 hQ6 hR6 hN6 hbw6 ⊢
    clear hW hP5 hQ5 hR5 hN5
    refine (ris_any _ _ _ _ _ _ _ _ _ _ _ hm (hT.keep hbw6) M.kIf (by decide) (by decide)).mono ?_
    rintro e w7 ⟨rfl, hb⟩
    have hP7 := kept hb hP6
    have hQ7 := kept hb hQ6
    have hR7 := kept hb hR6
    have hN7 := kept hb hN6
    have hbw7 := hbw6.trans (hb.mono hbw6.size)
    clear hb hP6 hQ6 hR6 hN6
    obtain ⟨x0, x1, x2, x3, x4, x5, xf⟩ := cells6 hP7
    rw [show isR (.ok S.more) M.kIf = false from kI]
    go_wp2_with fail
    clear x0 x1 x2 x3 x4 x5 xf
    refine (ris_any _ _ _ _ _ _ _ _ _ _ _ hm (hT.keep hbw7) M.kWhile (by decide) (by decide)).mono ?_
    rintro e w8 ⟨rfl, hb⟩
    have hP8 := kept hb hP7
    have hQ8 := kept hb hQ7
    have hR8 := kept hb hR7
    have hN8 := kept hb hN7
    have hbw8 := hbw7.trans (hb.mono hbw7.size)
    clear hb hP7 hQ7 hR7 hN7
    obtain ⟨x0, x1, x2, x3, x4, x5, xf⟩ := cells6 hP8
    rw [show isR (.ok S.more) M.kWhile = true from kW]
    have hl8 : w.heap.size + 1 + 1 + 1 < w8.heap.size := hlt_ hN8
    have hp8 : w.heap.size < w8.heap.size := by omega
    go_wp2_with fail
    clear x0 x1 x2 x3 x4 x5 xf
    refine (ris_any _ _ _ _ _ _ _ _ _ _ _ hm (hT.keep (hbw8.trans ((below_box _).mono hbw8.size))) M.kWhile (by decide) (by decide)).mono ?_
    rintro e w9 ⟨rfl, hb⟩
    obtain ⟨hD9, _, hbn⟩ := one_new hb
    clear hb
    have hP9 := kept hbn hP8
    have hQ9 := kept hbn hQ8
    have hR9 := kept hbn hR8
    have hN9 := kept hbn hN8
    have hbw9 := hbw8.trans (hbn.mono hbw8.size)
    clear hbn hP8 hQ8 hR8 hN8
    obtain ⟨x0, x1, x2, x3, x4, x5, xf⟩ := cells6 hP9
    rw [show isR (.ok S.more) M.kWhile = true from kW]
    obtain ⟨d0, d1, d2, d3, d4, d5, d6, d7, df, dz⟩ := cells8 hD9
    have hd9 : w8.heap.size < w9.heap.size := hlt_ hD9
    go_wp2_with fail
    clear x0 x1 x2 x3 x4 x5 xf
    clear d0 d1 d2 d3 d4 d5 d6 d7 df dz
    obtain ⟨_, _, hilt, hm2⟩ := hm.step (M.at_ne (show S.more.at M.kWhile = true from kW) (by decide))
    obtain ⟨i1, hi1⟩ : ∃ i1, i1 = i + 1 := ⟨_, rfl⟩
    rw [← hi1] at hm2
    rw [show ((i : Int) + 1) = (i1 : Int) by omega]
    clear hi1
    have hD10 := (stm_set0 hD9 (.int .i64 10)).1
    have hP10 := kset hP9 (p := ⟨w8.heap.size, 0, none⟩) (show w.heap.size ≠ w8.heap.size by omega) (.int .i64 10)
    have hQ10 := kset hQ9 (p := ⟨w8.heap.size, 0, none⟩) (show w.heap.size + 1 ≠ w8.heap.size by omega) (.int .i64 10)
    have hR10 := kset hR9 (p := ⟨w8.heap.size, 0, none⟩) (show w.heap.size + 1 + 1 ≠ w8.heap.size by omega) (.int .i64 10)
    have hN10 := kset hN9 (p := ⟨w8.heap.size, 0, none⟩) (show w.heap.size + 1 + 1 + 1 ≠ w8.heap.size by omega) (.int .i64 10)
    have hbw10 := hbw9.setCell (p := ⟨w8.heap.size, 0, none⟩) (show w.heap.size ≤ w8.heap.size by omega) (.int .i64 10)
    generalize hW : (w9.setCell ⟨w8.heap.size, 0, none⟩ (.int .i64 10)) = w10 at hD10 hP10 hQ10 hR10 hN10 hbw10 ⊢
    clear hW hD9 hP9 hQ9 hR9 hN9
    have hP11 := (st_set3 hP10 (.int .i64 (i1 : Nat))).2
    have hQ11 := kset hQ10 (p := ⟨w.heap.size, 1, none⟩) (show w.heap.size + 1 ≠ w.heap.size by omega) (.int .i64 (i1 : Nat))
    have hR11 := kset hR10 (p := ⟨w.heap.size, 1, none⟩) (show w.heap.size + 1 + 1 ≠ w.heap.size by omega) (.int .i64 (i1 : Nat))
    have hN11 := kset hN10 (p := ⟨w.heap.size, 1, none⟩) (show w.heap.size + 1 + 1 + 1 ≠ w.heap.size by omega) (.int .i64 (i1 : Nat))
    have hD11 := kset hD10 (p := ⟨w.heap.size, 1, none⟩) (show w8.heap.size ≠ w.heap.size by omega) (.int .i64 (i1 : Nat))
    have hbw11 := hbw10.setCell (p := ⟨w.heap.size, 1, none⟩) (show w.heap.size ≤ w.heap.size by omega) (.int .i64 (i1 : Nat))
    generalize hW : (w10.setCell ⟨w.heap.size, 1, none⟩ (.int .i64 (i1 : Nat))) = w11 at hP11 hQ11 hR11 hN11 hD11 hbw11 ⊢
    clear hW hP10 hQ10 hR10 hN10 hD10
    refine (roperand_any _ _ _ _ _ _ _ _ _ _ _ hm2 (hT.keep hbw11)).mono ?_
    rintro e w12 ⟨hb, ia, ca, ya, o, rfl, hqa, ho⟩
    have hQ12 := kept hb hQ11
    have hR12 := kept hb hR11
    have hN12 := kept hb hN11
    have hD12 := kept hb hD11
    have hbw12 := hbw11.trans (hb.mono hbw11.size)
    clear hb hQ11 hR11 hN11 hD11
    have hshort : ∀ S1, stR (operandR (.ok S.more.adv)) = .ok S1 → S1.rest.length < N := fun S1 e => op_short e (Nat.lt_of_lt_of_le (M.adv_short (M.at_ne (show S.more.at M.kWhile = true from kW) (by decide))) (hN S rfl))
    have hlN12 := hlt_ hN12
    have hlD12 := hlt_ hD12
    have hbs := hbw12.setCell (p := ⟨w8.heap.size, 4, none⟩) (show w.heap.size ≤ w8.heap.size by omega) (.slice (some ⟨w12.heap.size + 1 + 1, 0, none⟩) 1 1)
    obtain ⟨d0, d1, d2, d3, d4, d5, d6, d7, df, dz⟩ := cells8 hD12
    have ea : w8.heap.size < w12.heap.size + 1 := by omega
    have eb : w8.heap.size < w12.heap.size + 1 + 1 := by omega
    have ec : w8.heap.size ≤ w12.heap.size := by omega
    have ed : w8.heap.size ≤ w12.heap.size + 1 := by omega
    go_wp2_with fail
    clear ea eb ec ed
    have hW10 : w12.heap.size ≤ ((((w12.setCell ⟨w8.heap.size, 4, none⟩ (.slice (some ⟨w12.heap.size + 1 + 1, 0, none⟩) 1 1)).alloc (.cells #[.slice a ts.length cap, .int .i64 (ia : Nat), .int .i64 fin, .int .i64 (n1 : Nat), .int .i64 ca, .int .i64 ya] 81)).alloc (.cells #[.int .i64 o.k, .int .i64 o.n, .string o.s] 47)).alloc (.cells #[.int .i64 o.k, .int .i64 o.n, .string o.s] 47)).heap.size := by simp only [World.size_alloc, zset]; omega
    refine (hB _ _ _ _ _ _ _ _ _ _ _ hqa (hT.keep (hbs.trans ((below_three _ _ _).mono hbs.size))) hfew hd hshort).mono ?_
    rintro e w13 ⟨hb, ib, nb, cb, yb, v, th, rfl, hqb, hv, ht⟩
    obtain ⟨_, _, hL13, hbn⟩ := three_newp hb
    simp only [zset] at hL13
    clear hb
    clear d0 d1 d2 d3 d4 d5 d6 d7 df dz
    have hQ13 := kept hbn (kset hQ12 (p := ⟨w8.heap.size, 4, none⟩) (show w.heap.size + 1 ≠ w8.heap.size by omega) (.slice (some ⟨w12.heap.size + 1 + 1, 0, none⟩) 1 1))
    have hR13 := kept hbn (kset hR12 (p := ⟨w8.heap.size, 4, none⟩) (show w.heap.size + 1 + 1 ≠ w8.heap.size by omega) (.slice (some ⟨w12.heap.size + 1 + 1, 0, none⟩) 1 1))
    have hN13 := kept hbn (kset hN12 (p := ⟨w8.heap.size, 4, none⟩) (show w.heap.size + 1 + 1 + 1 ≠ w8.heap.size by omega) (.slice (some ⟨w12.heap.size + 1 + 1, 0, none⟩) 1 1))
    have hD13 := kept hbn (stm_set hD12 (.slice (some ⟨w12.heap.size + 1 + 1, 0, none⟩) 1 1)).2
    have hbw13 := hbs.trans (hbn.mono hbs.size)
    have hv1 : StmAt w13 (fun b => b < w12.heap.size ∨ w13.heap.size ≤ b) v th := hv.weak fun b hb1 hx hy => by
      rcases hy with hy | hy
      · exact hx (Nat.lt_of_lt_of_le hy hW10)
      · omega
    have hb1 : w12.heap.size + 1 + 1 < w13.heap.size := hlt_ hL13
    obtain ⟨av, cv, rfl⟩ := StmAt.form hv
    clear hv hbn hW10 hbs hQ12 hR12 hN12 hD12
    have HV := hid ((st_while (N := N) (show S.at M.kWhile = true from kW) HSn2.out).trans (st_branch ho ht).2)
    have hshort2 : ∀ S1, stR (blockR N (stR (operandR (.ok S.more.adv)))) = .ok S1 → S1.rest.length < N := fun S1 e => blk_short e hshort
    clear ho ht hshort
    generalize stR (blockR N (stR (operandR (.ok S.more.adv)))) = q at hqb HV hshort2
    obtain ⟨d0, d1, d2, d3, d4, d5, d6, d7, df, dz⟩ := cells8 hD13
    go_wp2_with fail
    clear d0 d1 d2 d3 d4 d5 d6 d7 df dz
    have hbn : Below (w13.setCell ⟨w8.heap.size, 6, none⟩ (.slice av th.len cv)).heap.size (w13.setCell ⟨w8.heap.size, 6, none⟩ (.slice av th.len cv)) ((w13.setCell ⟨w8.heap.size, 6, none⟩ (.slice av th.len cv)).alloc (.cells #[.slice a ts.length cap, .int .i64 (ib : Nat), .int .i64 fin, .int .i64 (nb : Nat), .int .i64 cb, .int .i64 yb] 81)) := below_box _
    have hbs := hbw13.setCell (p := ⟨w8.heap.size, 6, none⟩) (show w.heap.size ≤ w8.heap.size by omega) (.slice av th.len cv)
    have hv2 : StmAt (w13.setCell ⟨w8.heap.size, 6, none⟩ (.slice av th.len cv)) (fun b => b < w12.heap.size ∨ w13.heap.size ≤ b) (.slice av th.len cv) th := hv1.keep (keep_setc keep_self (Or.inl (show w8.heap.size < w12.heap.size by omega)))
    have hB14 : ((w13.setCell ⟨w8.heap.size, 6, none⟩ (.slice av th.len cv)).alloc (.cells #[.slice a ts.length cap, .int .i64 (ib : Nat), .int .i64 fin, .int .i64 (nb : Nat), .int .i64 cb, .int .i64 yb] 81)).heap[w13.heap.size]? = some (.cells #[.slice a ts.length cap, .int .i64 (ib : Nat), .int .i64 fin, .int .i64 (nb : Nat), .int .i64 cb, .int .i64 yb] 81) := by have := heap_alloc_new (w13.setCell ⟨w8.heap.size, 6, none⟩ (.slice av th.len cv)) (.cells #[.slice a ts.length cap, .int .i64 (ib : Nat), .int .i64 fin, .int .i64 (nb : Nat), .int .i64 cb, .int .i64 yb] 81); simp only [zset] at this; exact this
    have hQ14 := kept hbn (kset hQ13 (p := ⟨w8.heap.size, 6, none⟩) (show w.heap.size + 1 ≠ w8.heap.size by omega) (.slice av th.len cv))
    have hR14 := kept hbn (kset hR13 (p := ⟨w8.heap.size, 6, none⟩) (show w.heap.size + 1 + 1 ≠ w8.heap.size by omega) (.slice av th.len cv))
    have hN14 := kept hbn (kset hN13 (p := ⟨w8.heap.size, 6, none⟩) (show w.heap.size + 1 + 1 + 1 ≠ w8.heap.size by omega) (.slice av th.len cv))
    have hL14 := kept hbn (kset hL13 (p := ⟨w8.heap.size, 6, none⟩) (show w12.heap.size + 1 + 1 ≠ w8.heap.size by omega) (.slice av th.len cv))
    have hD14 := kept hbn (stm_set0 hD13 (.slice av th.len cv)).2.2.1
    have hbw14 := hbs.trans (hbn.mono hbs.size)
    have hv3 := hv2.bel hbn
    clear hv1 hv2 hbn hbs
    generalize hW : ((w13.setCell ⟨w8.heap.size, 6, none⟩ (.slice av th.len cv)).alloc (.cells #[.slice a ts.length cap, .int .i64 (ib : Nat), .int .i64 fin, .int .i64 (nb : Nat), .int .i64 cb, .int .i64 yb] 81)) = w14 at hB14 hD14 hbw14 hv3 hQ14 hR14 hN14 hL14 ⊢
    clear hW hQ13 hR13 hN13 hD13 hL13
    have hlB : w13.heap.size < w14.heap.size := hlt_ hB14
    have hqf := hqb
    have HE : Hid (stR (stmtR N (.ok S)) = q ∧ ∀ S' t', stmtR N (.ok S) = .ok (S', t') → (M.one 10 M.em M.em M.em [o] [] th .nil) = t') := by unfold Hid; rw [HV.out]; exact mv_end q _
    obtain ⟨b0, b1, b2, b3, b4, b5, bf⟩ := cells6 hB14
    obtain ⟨d0, d1, d2, d3, d4, d5, d6, d7, df, dz⟩ := cells8 hD14
    obtain ⟨q0, q1, q2, q3, q4, q5, qf⟩ := cells6 hQ14
    obtain ⟨z0, z1, z2, z3, z4, z5, z6, z7, zf, zz⟩ := cells8 hR14
    have e0 : w.heap.size < w14.heap.size := by omega
    have e1 : w.heap.size + 1 < w14.heap.size := by omega
    have m1 : ¬ w13.heap.size = w.heap.size + 1 := by omega
    have m2 : ¬ w13.heap.size = w.heap.size + 1 + 1 := by omega
    have m3 : ¬ w8.heap.size = w.heap.size + 1 := by omega
    have m4 : ¬ w8.heap.size = w.heap.size + 1 + 1 := by omega
    go_region
    all_goals
      go_wp2_with fail
      refine bodyPost_ret (v := .tuple #[.agg #[.slice a ts.length cap, .int .i64 (ib : Nat), .int .i64 fin, .int .i64 (nb : Nat), .int .i64 cb, .int .i64 yb], .agg #[.int .i64 10, .string ⟨#[]⟩, .string ⟨#[]⟩, .string ⟨#[]⟩, .slice (some ⟨w12.heap.size + 1 + 1, 0, none⟩) 1 1, .slice none 0 0, .slice av th.len cv, .slice none 0 0]]) (by simp [results, Tryz.results73, go_sem, q0, q1, q2, q3, q4, q5, z0, z1, z2, z3, z4, z5, z6, z7, e0, e1, zz]) rfl ⟨?_, ib, nb, cb, yb, _, M.one 10 M.em M.em M.em [o] [] th .nil, rfl, by rw [HE.out.1]; exact hqf, ⟨10, M.em, M.em, M.em, [o], [], th, .nil, _, _, _, _, rfl, rfl, ?_, StrsAt.nil _ _, ?_, ?_⟩, HE.out.2⟩
      · repeat (first | with_reducible exact hbw14 | with_reducible refine Below.setCell ?_ (by first | omega | (simp; done) | (simp; omega)) _ | with_reducible refine Below.drew ?_ | with_reducible refine Below.alloc ?_ (by first | omega | (simp; done) | (simp; omega)) _)
      · refine ((ops1_at (X := fun b => ¬ b = w12.heap.size + 1 + 1) hL14 (by simp)).keep ?_).weak fun b _ hx hy => hx (by have : b < w.heap.size := hy; omega)
        repeat (first | with_reducible exact keep_self | with_reducible refine keep_drew ?_ | with_reducible refine keep_alloc ?_ | with_reducible refine keep_setc ?_ (by first | omega | (simp; done) | (simp; omega)))
      · refine (hv3.keep ?_).weak fun b _ hx hy => hx (Or.inl (by have : b < w.heap.size := hy; omega))
        repeat (first | with_reducible exact keep_self | with_reducible refine keep_drew ?_ | with_reducible refine keep_alloc ?_ | with_reducible refine keep_setc ?_ (by first | omega | (simp; done) | (simp; omega)))
      · exact StmAt.nil _ _
end Go.Proofs.YtkpmpnebmkeocaaGreatDoor
end
section
namespace Go.Proofs.YtkpmpnebmkeocaaGreatDoor
open Go.RowKit

theorem isR_two {r : RSt} {s t : ByteArray} (h : isR r s = true) (ht : ¬ s = t) : isR r t = false := by
  obtain ⟨S, rfl⟩ := isR_ok h
  exact at_two h ht
theorem isR_name {r : RSt} {s : ByteArray} (h : isR r s = true) (hk : M.kw s = true) : isNameR r = false := by
  obtain ⟨S, rfl⟩ := isR_ok h
  cases e : isNameR (.ok S)
  · rfl
  · have := name_not (S := S) e hk
    rw [show S.at s = true from h] at this; cases this
theorem rstmt_any (N : Nat) (a : Option Addr) (cap : Nat) (ts : List M.Tok) (fin : Int) (d : Nat) (r : RSt) (i n : Nat) (c y : Int) (w : World) (h : RS ts fin d r i n c y) (hT : TokAt w (.slice a ts.length cap) ts) (hfew : ts.length ≤ 4398046511000) (hB : RBlockC N) (hd : d ≤ 32) (hN : ∀ S, r = .ok S → S.rest.length ≤ N) :
    Calls Tryz.prog 73 #[.agg #[.slice a ts.length cap, .int .i64 (i : Nat), .int .i64 fin, .int .i64 (n : Nat), .int .i64 c, .int .i64 y], .int .i64 (d : Nat)] w fun e w' => Below w.heap.size w w' ∧ ∃ (i' n' : Nat) (c' y' : Int) (v : Value) (t : M.Tr), e = .returned (.tuple #[.agg #[.slice a ts.length cap, .int .i64 (i' : Nat), .int .i64 fin, .int .i64 (n' : Nat), .int .i64 c', .int .i64 y'], v]) ∧ RS ts fin d (stR (stmtR N r)) i' n' c' y' ∧ stmEnc w t v w' ∧ ∀ S' t', stmtR N r = .ok (S', t') → t = t' := by
  cases kO : isR r M.kOut
  · cases kR : isR r M.kReturn
    · cases kI : isR r M.kIf
      · cases kW : isR r M.kWhile
        · cases kN : isNameR r
          · exact rstmt_none _ _ _ _ _ _ _ _ _ _ _ _ h hT hfew kN kO kR kI kW
          · exact rstmt_name _ _ _ _ _ _ _ _ _ _ _ _ h hT hfew kN kO kR kI kW
        · exact rstmt_while _ _ _ _ _ _ _ _ _ _ _ _ h hT hfew hB hd hN (isR_name kW (by decide)) kO kR kI kW
      · exact rstmt_if _ _ _ _ _ _ _ _ _ _ _ _ h hT hfew hB hd hN (isR_name kI (by decide)) kO kR kI (isR_two kI (by decide))
    · exact rstmt_return _ _ _ _ _ _ _ _ _ _ _ _ h hT hfew (isR_name kR (by decide)) kO kR (isR_two kR (by decide)) (isR_two kR (by decide))
  · exact rstmt_out _ _ _ _ _ _ _ _ _ _ _ _ h hT hfew (isR_name kO (by decide)) kO (isR_two kO (by decide)) (isR_two kO (by decide)) (isR_two kO (by decide))

def AvoidB (n : Nat) (v : Value) : Nat → Prop := fun b => b < n ∨ v.ownBlock = some b
theorem row_stepB {base g n cap : Nat} {wr w3 W w5 : World} {v : Value} {acc : M.Tr} {cs : List Value} {op : Int} {x y p : ByteArray} {a : List M.Opd} {pr : List ByteArray} {th el : M.Tr} {va vp vt ve : Value}
    (hz0 : base ≤ wr.heap.size) (own : wr.ownsRow base 32 8 v acc.len cs) (row : RowAt wr (AvoidB base v) cs acc) (o3 : Below wr.heap.size wr w3)
    (hA : OpsAt w3 (Old wr) va a) (hP : StrsAt w3 (Old wr) vp pr) (hT : StmAt w3 (Old wr) vt th) (hE : StmAt w3 (Old wr) ve el)
    (hW : Below w3.heap.size w3 W) (hgrow : W.grownBy w5 v.ownBlock) (hat : v.ownBlock = some g ∨ g = W.heap.size) :
    RowAt w5 (AvoidB base (.slice (some ⟨g, 0, none⟩) n cap)) (cs ++ [.int .i64 op, .string x, .string y, .string p, va, vp, vt, ve]) (acc.app (M.one op x y p a pr th el)) := by
  have hob : ∀ k, v.ownBlock = some k → base ≤ k ∧ k < wr.heap.size := fun k hk => own.lt k hk
  have hz3 := o3.size
  have row3 : RowAt W (AvoidB base v) cs acc := RowAt.keep (Below.keepX hW) (RowAt.keep (Below.keepX o3) row)
  have new3 : RowAt W (Old wr) [.int .i64 op, .string x, .string y, .string p, va, vp, vt, ve] (M.one op x y p a pr th el) :=
    RowAt.keep (Below.keepX hW) (RowAt.one hA hP hT hE)
  have hweak : ∀ b, b < W.heap.size → (¬ AvoidB base v b ∨ ¬ Old wr b) → ¬ (b < base ∨ v.ownBlock = some b ∨ b = g) := by
    intro b hb hx hy
    have h1 : ¬ (b < base ∨ v.ownBlock = some b) := by
      intro h2
      rcases hx with hx | hx
      · exact hx h2
      · apply hx
        rcases h2 with h2 | h2
        · exact Nat.lt_of_lt_of_le h2 hz0
        · exact (hob b h2).2
    rcases hy with hy | hy | rfl
    · exact h1 (.inl hy)
    · exact h1 (.inr hy)
    · rcases hat with hat | hat
      · exact h1 (.inr hat)
      · omega
  have hx := RowAt.app (RowAt.weak (Y := fun b => b < base ∨ v.ownBlock = some b ∨ b = g) (fun b hb hx => hweak b hb (.inl hx)) row3) (RowAt.weak (fun b hb hx => hweak b hb (.inr hx)) new3)
  refine RowAt.weak ?_ (RowAt.keep (keep_grown hgrow fun k hk => .inr (.inl hk)) hx)
  intro b _ hx hy
  apply hx
  rcases hy with hy | hy
  · exact .inl hy
  · simp only [Value.ownBlock, Option.some.injEq] at hy
    exact .inr (.inr hy.symm)

theorem stmts_fuel {N : Nat} : ∀ (m : Nat) (S : M.St) (acc : M.Tr) (k : Nat), S.rest.length ≤ m → S.rest.length < k → M.stmts (M.stmt (M.blk N)) k S acc = M.stmts (M.stmt (M.blk N)) (S.rest.length + 1) S acc
  | m, S, acc, k, hm, hk => by
    cases k with
    | zero => omega
    | succ k =>
      simp only [M.stmts]
      cases hc : S.at (M.ch 125)
      · simp only [Bool.false_eq_true, if_false]
        cases hst : M.stmt (M.blk N) S with
        | error f => rfl
        | ok p =>
          obtain ⟨S1, t⟩ := p
          have hl := (M.stmtN_lt hst).rest
          cases m with
          | zero => omega
          | succ m =>
            show M.stmts (M.stmt (M.blk N)) k S1 (acc.app t) = M.stmts (M.stmt (M.blk N)) S.rest.length S1 (acc.app t)
            rw [stmts_fuel m S1 _ k (by omega) (by omega), stmts_fuel m S1 _ S.rest.length (by omega) (by omega)]
      · rfl
def rdn (r : RSt) : RSt := match r with | .ok S => .ok S.down | .error e => .error e
theorem rdn_ok {r : RSt} {S : M.St} (h : rdn r = .ok S) : ∃ S1, r = .ok S1 ∧ S.rest = S1.rest := by
  cases r with
  | error f => cases h
  | ok S1 => cases h; exact ⟨S1, rfl, rfl⟩
theorem RS.down {ts : List M.Tok} {fin : Int} {d : Nat} {r : RSt} {i n : Nat} {c y : Int} (h : RS ts fin d r i n c y) : RS ts fin (d + 1) (rdn r) i n c y := by
  cases r with
  | error f => exact ⟨h.lt, h.lim, fun S e => (by cases e), fun f e => h.bad f e⟩
  | ok S =>
    obtain ⟨e1, e2, e3⟩ := h.good S rfl
    exact ⟨h.lt, h.lim, fun S' e => ⟨e1, e2, by cases e; subst e3; rfl⟩, fun f e => by cases e⟩
def blkNext (N : Nat) (r : RSt) (acc : M.Tr) : M.Res M.Tr := M.bnd (bindR r fun S => M.stmts (M.stmt (M.blk N)) (S.rest.length + 1) S acc) fun S2 t => .ok (S2.up, t)
theorem blk_begin {N : Nat} {r : RSt} (h : ∀ S, r = .ok S → ¬ (S.at (M.ch 123) = true ∧ S.d = 32)) : blockR (N + 1) r = blkNext N (rdn (needR r (M.ch 123))) .nil := by
  cases r with
  | error f => rfl
  | ok S =>
    have h1 := h S rfl
    show M.block (M.stmt (M.blk N)) S = _
    unfold M.block blkNext
    rw [if_neg h1]
    simp only [needR, bindR]
    cases M.take S (M.ch 123) with
    | error f => rfl
    | ok p => rfl
theorem blk_deep {N : Nat} {S : M.St} (h : S.at (M.ch 123) = true) (hd : S.d = 32) : stR (blockR (N + 1) (.ok S)) = failR (.ok S) 21 ∧ ∀ S' t, ¬ blockR (N + 1) (.ok S) = .ok (S', t) := by
  have : blockR (N + 1) (.ok S) = M.fail S 21 := by
    show M.block (M.stmt (M.blk N)) S = _
    unfold M.block
    rw [if_pos ⟨h, hd⟩]
  rw [this]
  exact ⟨rfl, fun _ _ h => by cases h⟩
theorem blk_step {N : Nat} {S : M.St} {acc t : M.Tr} (h : S.at (M.ch 125) = false) (ht : ∀ S' x, stmtR N (.ok S) = .ok (S', x) → t = x) : blkNext N (.ok S) acc = blkNext N (stR (stmtR N (.ok S))) (acc.app t) := by
  have e : stmtR N (.ok S) = M.stmt (M.blk N) S := rfl
  rw [e] at ht ⊢
  unfold blkNext
  show M.bnd (M.stmts (M.stmt (M.blk N)) (S.rest.length + 1) S acc) _ = _
  simp only [M.stmts, h, Bool.false_eq_true, if_false]
  cases hst : M.stmt (M.blk N) S with
  | error f => rfl
  | ok p =>
    obtain ⟨S1, x⟩ := p
    obtain rfl := ht _ _ hst
    have hl := (M.stmtN_lt hst).rest
    show M.bnd (M.stmts (M.stmt (M.blk N)) S.rest.length S1 (acc.app t)) _ = M.bnd (M.stmts (M.stmt (M.blk N)) (S1.rest.length + 1) S1 (acc.app t)) _
    rw [stmts_fuel S1.rest.length S1 _ S.rest.length (Nat.le_refl _) hl]
theorem blk_out {N : Nat} {r : RSt} {acc : M.Tr} (h : okR r = false ∨ isR r (M.ch 125) = true) : blkNext N r acc = bindR (needR r (M.ch 125)) fun S2 => .ok (S2.up, acc) := by
  rcases h with h | h
  · obtain ⟨f, rfl⟩ := okR_no h; rfl
  · obtain ⟨S, rfl⟩ := isR_ok h
    rw [needR_yes h]
    have h' : S.at (M.ch 125) = true := h
    unfold blkNext
    show M.bnd (M.stmts (M.stmt (M.blk N)) (S.rest.length + 1) S acc) _ = _
    simp only [M.stmts, h', if_true]; rfl
theorem RS.up {ts : List M.Tok} {fin : Int} {d : Nat} {q : RSt} {i n : Nat} {c y : Int} {acc : M.Tr} (h : RS ts fin (d + 1) q i n c y) : RS ts fin d (stR (bindR q fun S2 => .ok (S2.up, acc))) i n c y := by
  cases q with
  | error f => exact ⟨h.lt, h.lim, fun S e => (by cases e), fun f e => h.bad f e⟩
  | ok S =>
    obtain ⟨e1, e2, e3⟩ := h.good S rfl
    exact ⟨h.lt, h.lim, fun S' e => ⟨e1, e2, by cases e; subst e3; rfl⟩, fun f e => by cases e⟩
theorem up_val {q : RSt} {acc : M.Tr} : ∀ S' t, (bindR q fun S2 => .ok (S2.up, acc)) = .ok (S', t) → acc = t := by
  intro S' t h
  cases q with
  | error f => cases h
  | ok S => cases h; rfl
theorem st_lt {N : Nat} {S S1 : M.St} (h : stR (stmtR N (.ok S)) = .ok S1) : S1.rest.length < S.rest.length ∧ S.n + 1 ≤ S1.n := by
  have e : stmtR N (.ok S) = M.stmt (M.blk N) S := rfl
  rw [e] at h
  cases hst : M.stmt (M.blk N) S with
  | error f => rw [hst] at h; cases h
  | ok p => rw [hst] at h; cases h; exact ⟨(M.stmtN_lt hst).rest, (M.stmtN_lt hst).n⟩
theorem app_len : ∀ (t u : M.Tr), (t.app u).len = t.len + u.len
  | .nil, u => by simp [M.Tr.app, M.Tr.len]
  | .cons _ _ _ _ _ _ _ _ nx, u => by simp only [M.Tr.app, M.Tr.len, app_len nx u]; omega
theorem app_one (t : M.Tr) (op : Int) (x y p : ByteArray) (a : List M.Opd) (pr : List ByteArray) (th el : M.Tr) : (t.app (M.one op x y p a pr th el)).len = t.len + 1 := by rw [app_len]; rfl

structure BkIn (G : Prop) (a : Option Addr) (cap : Nat) (ts : List M.Tok) (fin : Int) (d N : Nat) (w wr : World) (k : Nat) (v : Value) (r : RSt) (i n : Nat) (c y : Int) (acc : M.Tr) (cs : List Value) : Prop where
  rs : RS ts fin (d + 1) r i n c y
  box : wr.heap[w.heap.size]? = some (.cells #[.slice a ts.length cap, .int .i64 (i : Nat), .int .i64 fin, .int .i64 (n : Nat), .int .i64 c, .int .i64 y] 81 (0, 0))
  res : wr.heap[w.heap.size + 1]? = some (.cells #[.slice none 0 0, .int .i64 0, .int .i64 0, .int .i64 0, .int .i64 0, .int .i64 0] 81 (0, 0))
  own : wr.ownsRow (w.heap.size + 2) 32 8 v acc.len cs
  row : RowAt wr (AvoidB (w.heap.size + 2) v) cs acc
  bel : Below w.heap.size w wr
  lt : mz r ≤ k
  len : acc.len ≤ 2001
  len' : okR r = true → acc.len ≤ n
  le : ∀ S, r = .ok S → S.rest.length ≤ N
  dd : okR r = true → d < 32 ∧ G

set_option maxRecDepth 16000 in
set_option maxHeartbeats 3200000 in
theorem rblock_deep (N : Nat) (a : Option Addr) (cap : Nat) (ts : List M.Tok) (fin : Int) (d : Nat) (S : M.St) (i n : Nat) (c y : Int) (w : World) (h : RS ts fin d (.ok S) i n c y) (hT : TokAt w (.slice a ts.length cap) ts) (hd : d = 32) (h1 : isR (.ok S) (M.ch 123) = true) :
    Calls Tryz.prog 57 #[.agg #[.slice a ts.length cap, .int .i64 (i : Nat), .int .i64 fin, .int .i64 (n : Nat), .int .i64 c, .int .i64 y], .int .i64 (d : Nat)] w fun e w' => Below w.heap.size w w' ∧ ∃ (i' n' : Nat) (c' y' : Int) (v : Value) (t : M.Tr), e = .returned (.tuple #[.agg #[.slice a ts.length cap, .int .i64 (i' : Nat), .int .i64 fin, .int .i64 (n' : Nat), .int .i64 c', .int .i64 y'], v]) ∧ RS ts fin d (stR (blockR (N + 1) (.ok S))) i' n' c' y' ∧ StmAt w' (Old w) v t ∧ ∀ S' t', blockR (N + 1) (.ok S) = .ok (S', t') → t = t' := by
  have HF := hid (blk_deep (N := N) (show S.at (M.ch 123) = true from h1) (h.idx.2.1.trans hd))
  have hdi : (32 : Int) ≤ (d : Int) := by omega
  clear hd
  have hbw0 := Below.refl w.heap.size w
  go_enter Tryz.func57, Tryz.ntmps57
  go_wp2_with fail
  refine (ris_any _ _ _ _ _ _ _ _ _ _ _ h (hT.keep (below_three _ _ _)) (M.ch 123) (by decide) (by decide)).mono ?_
  rintro e w1 ⟨rfl, hb⟩
  obtain ⟨hP1, hQ1, hE1, hbn⟩ := three_newp hb
  clear hb
  have hbw1 := hbw0.trans (hbn.mono hbw0.size)
  clear hbn 
  obtain ⟨x0, x1, x2, x3, x4, x5, xf⟩ := cells6 hP1
  rw [h1]
  go_wp2_with fail
  clear x0 x1 x2 x3 x4 x5 xf
  refine (rfail_any _ _ _ _ _ _ _ _ _ _ _ h (hT.keep hbw1) 21 (by decide)).mono ?_
  rintro e w2 ⟨hb, c2, y2, rfl, h2⟩
  have hQ2 := kept hb hQ1
  have hE2 := kept hb hE1
  have hbw2 := hbw1.trans (hb.mono hbw1.size)
  clear hb hQ1 hE1
  obtain ⟨q0, q1, q2, q3, q4, q5, qf⟩ := cells6 hQ2
  go_wp2_with fail
  refine bodyPost_ret (v := .tuple #[.agg #[.slice a ts.length cap, .int .i64 (i : Nat), .int .i64 fin, .int .i64 (n : Nat), .int .i64 c2, .int .i64 y2], .slice (some ⟨w.heap.size + 1 + 1, 0, none⟩) 0 0]) (by simp [results, Tryz.results57, go_sem, q0, q1, q2, q3, q4, q5]) rfl ⟨?_, i, n, c2, y2, _, .nil, rfl, by rw [HF.out.1]; exact h2, ⟨[], ⟨Nat.zero_le _, _, _, rfl, .inl ⟨rfl, rfl⟩⟩, rfl⟩, fun S' x e => absurd e (HF.out.2 _ _)⟩
  exact bset6 hbw2 (by omega) _ _ _ _ _ _

set_option maxRecDepth 16000 in
set_option maxHeartbeats 6400000 in
theorem rblock_main (N : Nat) (a : Option Addr) (cap : Nat) (ts : List M.Tok) (fin : Int) (d : Nat) (r : RSt) (i n : Nat) (c y : Int) (w : World) (h : RS ts fin d r i n c y) (hT : TokAt w (.slice a ts.length cap) ts) (hfew : ts.length ≤ 4398046511000) (hd : d ≤ 32) (hN : ∀ S, r = .ok S → S.rest.length < N + 1) (h1 : ¬ (isR r (M.ch 123) = true ∧ d = 32)) (hB : (∃ S, r = .ok S) → RBlockC N) :
    Calls Tryz.prog 57 #[.agg #[.slice a ts.length cap, .int .i64 (i : Nat), .int .i64 fin, .int .i64 (n : Nat), .int .i64 c, .int .i64 y], .int .i64 (d : Nat)] w fun e w' => Below w.heap.size w w' ∧ ∃ (i' n' : Nat) (c' y' : Int) (v : Value) (t : M.Tr), e = .returned (.tuple #[.agg #[.slice a ts.length cap, .int .i64 (i' : Nat), .int .i64 fin, .int .i64 (n' : Nat), .int .i64 c', .int .i64 y'], v]) ∧ RS ts fin d (stR (blockR (N + 1) r)) i' n' c' y' ∧ StmAt w' (Old w) v t ∧ ∀ S' t', blockR (N + 1) r = .ok (S', t') → t = t' := by
  have hi := h.lt
  have hn2 := h.lim
  have hdi : (d : Int) ≤ 32 := by omega
  obtain ⟨i0, hi0, hz0, hz1, hz2⟩ := info_parts infoStm
  have HR := hid (blk_begin (N := N) (r := r) (fun S e hh => h1 ⟨by rw [e]; exact hh.1, by rw [e] at h; exact h.idx.2.1.symm.trans hh.2⟩))
  have hdn : ∀ S, needR r (M.ch 123) = .ok S → (d < 32 ∧ ∃ S, r = .ok S) ∧ S.rest.length ≤ N := fun S e => by
    cases r with
    | error f => cases e
    | ok S0 =>
      cases hc : isR (.ok S0) (M.ch 123)
      · rw [needR_no hc] at e; cases e
      · rw [needR_yes hc] at e
        cases e
        have hne := M.at_ne (show S0.at (M.ch 123) = true from hc) (by decide)
        have := M.adv_short hne
        have := hN S0 rfl
        exact ⟨⟨by have : ¬ d = 32 := fun e => h1 ⟨hc, e⟩
                   omega, _, rfl⟩, by omega⟩
  have own0 : (((w.alloc (.cells #[.slice a ts.length cap, .int .i64 (i : Nat), .int .i64 fin, .int .i64 (n : Nat), .int .i64 c, .int .i64 y] 81)).alloc (.cells #[.slice none 0 0, .int .i64 0, .int .i64 0, .int .i64 0, .int .i64 0, .int .i64 0] 81)).alloc (.cells #[] 32)).ownsRow (w.heap.size + 2) 32 8 (.slice (some ⟨w.heap.size + 1 + 1, 0, none⟩) 0 0) 0 [] := by
    have := World.ownsRow_made (base := (w.heap.size + 2)) (e := 32) (size := 8) ((w.alloc (.cells #[.slice a ts.length cap, .int .i64 (i : Nat), .int .i64 fin, .int .i64 (n : Nat), .int .i64 c, .int .i64 y] 81)).alloc (.cells #[.slice none 0 0, .int .i64 0, .int .i64 0, .int .i64 0, .int .i64 0, .int .i64 0] 81)) #[] 0 (by simp) (by unfold maxLen; omega) rfl
    simp only [World.size_alloc] at this
    exact this
  have hbw0 := Below.refl w.heap.size w
  go_enter Tryz.func57, Tryz.ntmps57
  go_wp2_with fail
  refine (ris_any _ _ _ _ _ _ _ _ _ _ _ h (hT.keep (below_three _ _ _)) (M.ch 123) (by decide) (by decide)).mono ?_
  rintro e w1 ⟨rfl, hb⟩
  obtain ⟨hP1, hQ1, _, hbw1⟩ := three_newp hb
  have own1 := ownsRow_below own0 hb
  clear own0 hb
  obtain ⟨x0, x1, x2, x3, x4, x5, xf⟩ := cells6 hP1
  have hcase : isR r (M.ch 123) = false ∨ (isR r (M.ch 123) = true ∧ (d : Int) < 32) := by
    cases hc : isR r (M.ch 123)
    · exact .inl rfl
    · refine .inr ⟨rfl, ?_⟩
      have : ¬ d = 32 := fun e => h1 ⟨hc, e⟩
      omega
  clear h1
  rcases hcase with hc | ⟨hc, hlt⟩
  all_goals
    rw [hc]
    go_wp2_with fail
    clear x0 x1 x2 x3 x4 x5 xf
    refine (rneed_any _ _ _ _ _ _ _ _ _ _ _ h (hT.keep hbw1) (M.ch 123) (by decide) (by decide)).mono ?_
    rintro e w2 ⟨hb, i2, c2, y2, rfl, h2⟩
    have hP2 := kept hb hP1
    have hQ2 := kept hb hQ1
    have own2 := ownsRow_below own1 hb
    have hbw2 := hbw1.trans (hb.mono hbw1.size)
    clear hb hP1 hQ1 own1
    obtain ⟨x0, x1, x2, x3, x4, x5, xf⟩ := cells6 hP2
    go_wp2_with fail
    clear x0 x1 x2 x3 x4 x5 xf
    have hP3 := set6 hP2 (.slice a ts.length cap) (.int .i64 (i2 : Nat)) (.int .i64 fin) (.int .i64 (n : Nat)) (.int .i64 c2) (.int .i64 y2)
    have hQ3 := kset6 hQ2 (show w.heap.size + 1 ≠ w.heap.size by omega) (.slice a ts.length cap) (.int .i64 (i2 : Nat)) (.int .i64 fin) (.int .i64 (n : Nat)) (.int .i64 c2) (.int .i64 y2)
    have hbw3 := bset6 hbw2 (Nat.le_refl w.heap.size) (.slice a ts.length cap) (.int .i64 (i2 : Nat)) (.int .i64 fin) (.int .i64 (n : Nat)) (.int .i64 c2) (.int .i64 y2)
    have own3 := oset6 own2 (show w.heap.size < (w.heap.size + 2) by omega) (.slice a ts.length cap) (.int .i64 (i2 : Nat)) (.int .i64 fin) (.int .i64 (n : Nat)) (.int .i64 c2) (.int .i64 y2)
    generalize hW : ((((((w2.setCell ⟨w.heap.size, 0, none⟩ (.slice a ts.length cap)).setCell ⟨w.heap.size, 1, none⟩ (.int .i64 (i2 : Nat))).setCell ⟨w.heap.size, 2, none⟩ (.int .i64 fin)).setCell ⟨w.heap.size, 3, none⟩ (.int .i64 (n : Nat))).setCell ⟨w.heap.size, 4, none⟩ (.int .i64 c2)).setCell ⟨w.heap.size, 5, none⟩ (.int .i64 y2)) = w3 at hP3 hQ3 hbw3 own3 ⊢
    clear hW hP2 hQ2 hbw2 own2
    have hdown := h2.down
    go_loopg [6] (mz (rdn (needR r (M.ch 123)))) (fun k v wr => ∃ rr ii nn cc yy acc cs, BkIn (RBlockC N) a cap ts fin d N w wr k v rr ii nn cc yy acc cs ∧ Hid (blockR (N + 1) r = blkNext N rr acc))
    case atStart => exact ⟨_, i2, n, c2, y2, .nil, [], ⟨hdown, hP3, hQ3, own3, rfl, hbw3, Nat.le_refl _, Nat.zero_le _, fun _ => Nat.zero_le _, fun S e => by obtain ⟨S1, e1, e2⟩ := rdn_ok e; rw [e2]; exact (hdn S1 e1).2, fun ok => by obtain ⟨S, e⟩ := okR_yes ok; obtain ⟨S1, e1, _⟩ := rdn_ok e; exact ⟨(hdn S1 e1).1.1, hB (hdn S1 e1).1.2⟩⟩, HR⟩
    case round =>
      obtain ⟨rr, ii, nn, cc, yy, acc, cs, ⟨rs, hP4, hQ4, own4, row4, hbw4, hlt4, hlen, hlen', hle, hdd⟩, HT⟩ := hrel
      clear hP3 hQ3 own3 hbw3 HR hdown h2 hdn
      have hil := rs.lt
      have hnl := rs.lim
      obtain ⟨av, cv, rfl⟩ := own_form own4
      obtain ⟨x0, x1, x2, x3, x4, x5, xf⟩ := cells6 hP4
      go_wp2_with fail
      clear x0 x1 x2 x3 x4 x5 xf
      refine (rok_any _ _ _ _ _ _ _ _ _ _ _ _ rs).mono ?_
      rintro e w5 ⟨rfl, hb⟩
      have hP5 := kept hb hP4
      have hQ5 := kept hb hQ4
      have own5 := ownsRow_below own4 hb
      have row5 := RowAt.keep (Below.keepX hb) row4
      have hbw5 := hbw4.trans (hb.mono hbw4.size)
      clear hb hP4 hQ4 own4 row4
      obtain ⟨x0, x1, x2, x3, x4, x5, xf⟩ := cells6 hP5
      have HQ : AvoidB (w.heap.size + 2) (.slice av acc.len cv) (w.heap.size + 1) := .inl (by omega)
      cases hok : okR rr
      · have HX := hid (HT.out.trans (blk_out (.inl hok)))
        go_wp2_with fail
        clear x0 x1 x2 x3 x4 x5 xf
        refine (rneed_any _ _ _ _ _ _ _ _ _ _ _ rs (hT.keep hbw5) (M.ch 125) (by decide) (by decide)).mono ?_
        rintro e w6 ⟨hb, ie, ce, ye, rfl, he⟩
        have hP6 := kept hb hP5
        have hQ6 := kept hb hQ5
        have own6 := ownsRow_below own5 hb
        have row6 := RowAt.keep (Below.keepX hb) row5
        have hbw6 := hbw5.trans (hb.mono hbw5.size)
        clear hb hP5 hQ5 own5 row5
        obtain ⟨q0, q1, q2, q3, q4, q5, qf⟩ := cells6 hQ6
        go_wp2_with fail
        refine bodyPost_ret (v := .tuple #[.agg #[.slice a ts.length cap, .int .i64 (ie : Nat), .int .i64 fin, .int .i64 (nn : Nat), .int .i64 ce, .int .i64 ye], .slice av acc.len cv]) (by simp [results, Tryz.results57, go_sem, q0, q1, q2, q3, q4, q5]) rfl ⟨?_, ie, nn, ce, ye, _, acc, rfl, by rw [HX.out]; exact he.up, ?_, fun S' x e => by rw [HX.out] at e; exact up_val _ _ e⟩
        · exact bset6 hbw6 (by omega) _ _ _ _ _ _
        · refine ⟨cs, SlAt.of_owns (oset6 own6 (by omega) _ _ _ _ _ _) (fun b hb hx => by have : b < w.heap.size := hx; omega) (by omega), ?_⟩
          refine RowAt.weak (X := AvoidB (w.heap.size + 2) (.slice av acc.len cv)) (fun b _ hx hy => hx (.inl (by have : b < w.heap.size := hy; omega))) (RowAt.keep ?_ row6)
          exact keep_setc (keep_setc (keep_setc (keep_setc (keep_setc (keep_setc keep_self HQ) HQ) HQ) HQ) HQ) HQ
      · go_wp2_with fail
        clear x0 x1 x2 x3 x4 x5 xf
        refine (ris_any _ _ _ _ _ _ _ _ _ _ _ rs (hT.keep hbw5) (M.ch 125) (by decide) (by decide)).mono ?_
        rintro e w6 ⟨rfl, hb⟩
        have hP6 := kept hb hP5
        have hQ6 := kept hb hQ5
        have own6 := ownsRow_below own5 hb
        have row6 := RowAt.keep (Below.keepX hb) row5
        have hbw6 := hbw5.trans (hb.mono hbw5.size)
        clear hb hP5 hQ5 own5 row5
        obtain ⟨x0, x1, x2, x3, x4, x5, xf⟩ := cells6 hP6
        cases hcl : isR rr (M.ch 125)
        · obtain ⟨S, rfl⟩ := okR_yes hok
          have hl1 := hlen' hok
          obtain ⟨hd1, hB1⟩ := hdd hok
          cases gk with
          | zero => simp [mz] at hlt4
          | succ k =>
            go_wp2_with fail
            clear x0 x1 x2 x3 x4 x5 xf
            rw [show ((d : Int) + 1) = ((d + 1 : Nat) : Int) by omega]
            have hz6 := hbw6.size
            have hq6 := hlt_ hQ6
            refine (rstmt_any _ _ _ _ _ _ _ _ _ _ _ _ rs (hT.keep hbw6) hfew hB1 (by omega) hle).mono ?_
            rintro e w7 ⟨hb, i7, n7, c7, y7, v7, t7, rfl, h7, ⟨op, x, y', p, l, pr, th, el, va, vp, vt, ve, rfl, rfl, hA, hPr, hTh, hEl⟩, ht7⟩
            obtain ⟨aa, ca, rfl⟩ := SlAt.form hA
            obtain ⟨ap, cp, rfl⟩ := SlAt.form hPr
            obtain ⟨a3, c3, rfl⟩ := StmAt.form hTh
            obtain ⟨a4, c4, rfl⟩ := StmAt.form hEl
            have HT2 := hid (HT.out.trans (blk_step (show S.at (M.ch 125) = false from hcl) ht7))
            have hlt7 : ∀ S1, stR (stmtR N (.ok S)) = .ok S1 → S1.rest.length < S.rest.length ∧ S.n + 1 ≤ S1.n := fun S1 e => st_lt e
            clear ht7
            have hP7 := kept hb hP6
            have hQ7 := kept hb hQ6
            have own7 := ownsRow_below own6 hb
            have hbw7 := hbw6.trans (hb.mono hbw6.size)
            have hz7 := hbw7.size
            have hq7 := hlt_ hQ7
            have hm63 : acc.len + 1 ≤ maxLen := by unfold maxLen; omega
            have hmby : (acc.len + 1) * 152 ≤ 140737488355328 := by omega
            have hob := fun k' hk' => (own7.lt k' hk')
            have hWz : (((w7.alloc (.cells #[.slice a ts.length cap, .int .i64 (i7 : Nat), .int .i64 fin, .int .i64 (n7 : Nat), .int .i64 c7, .int .i64 y7] 81)).alloc (.cells #[.int .i64 op, .string x, .string y', .string p, .slice aa l.length ca, .slice ap pr.length cp, .slice a3 th.len c3, .slice a4 el.len c4] 32)).alloc (.cells #[.int .i64 op, .string x, .string y', .string p, .slice aa l.length ca, .slice ap pr.length cp, .slice a3 th.len c3, .slice a4 el.len c4] 32)).heap.size = w7.heap.size + 3 := by simp only [World.size_alloc]
            have hbW : Below w7.heap.size w7 (((w7.alloc (.cells #[.slice a ts.length cap, .int .i64 (i7 : Nat), .int .i64 fin, .int .i64 (n7 : Nat), .int .i64 c7, .int .i64 y7] 81)).alloc (.cells #[.int .i64 op, .string x, .string y', .string p, .slice aa l.length ca, .slice ap pr.length cp, .slice a3 th.len c3, .slice a4 el.len c4] 32)).alloc (.cells #[.int .i64 op, .string x, .string y', .string p, .slice aa l.length ca, .slice ap pr.length cp, .slice a3 th.len c3, .slice a4 el.len c4] 32)) := below_three _ _ _
            have hNX : (((w7.alloc (.cells #[.slice a ts.length cap, .int .i64 (i7 : Nat), .int .i64 fin, .int .i64 (n7 : Nat), .int .i64 c7, .int .i64 y7] 81)).alloc (.cells #[.int .i64 op, .string x, .string y', .string p, .slice aa l.length ca, .slice ap pr.length cp, .slice a3 th.len c3, .slice a4 el.len c4] 32)).alloc (.cells #[.int .i64 op, .string x, .string y', .string p, .slice aa l.length ca, .slice ap pr.length cp, .slice a3 th.len c3, .slice a4 el.len c4] 32)).heap[w7.heap.size]? = some (.cells #[.slice a ts.length cap, .int .i64 (i7 : Nat), .int .i64 fin, .int .i64 (n7 : Nat), .int .i64 c7, .int .i64 y7] 81) := (Below.heap_alloc _ _ _ (by simp; omega)).trans ((Below.heap_alloc _ _ _ (by simp)).trans (heap_alloc_new w7 _))
            have hTM : (((w7.alloc (.cells #[.slice a ts.length cap, .int .i64 (i7 : Nat), .int .i64 fin, .int .i64 (n7 : Nat), .int .i64 c7, .int .i64 y7] 81)).alloc (.cells #[.int .i64 op, .string x, .string y', .string p, .slice aa l.length ca, .slice ap pr.length cp, .slice a3 th.len c3, .slice a4 el.len c4] 32)).alloc (.cells #[.int .i64 op, .string x, .string y', .string p, .slice aa l.length ca, .slice ap pr.length cp, .slice a3 th.len c3, .slice a4 el.len c4] 32)).heap[w7.heap.size + 2]? = some (.cells #[.int .i64 op, .string x, .string y', .string p, .slice aa l.length ca, .slice ap pr.length cp, .slice a3 th.len c3, .slice a4 el.len c4] 32) := by have := heap_alloc_new ((w7.alloc (.cells #[.slice a ts.length cap, .int .i64 (i7 : Nat), .int .i64 fin, .int .i64 (n7 : Nat), .int .i64 c7, .int .i64 y7] 81)).alloc (.cells #[.int .i64 op, .string x, .string y', .string p, .slice aa l.length ca, .slice ap pr.length cp, .slice a3 th.len c3, .slice a4 el.len c4] 32)) (.cells #[.int .i64 op, .string x, .string y', .string p, .slice aa l.length ca, .slice ap pr.length cp, .slice a3 th.len c3, .slice a4 el.len c4] 32); simp only [World.size_alloc] at this; exact this
            go_wp2_with (at_builtin; refine wpList_append_lies _ rfl _ _ 30 rfl (w.heap.size + 2) 32 i0 _ 8 152 Tryz.underlying30 hi0 hz0 hz1 hz2 rfl (by decide) _ _ _ rfl (ownsRow_below own7 hbW) ⟨w7.heap.size + 2, 0, none⟩ 1 1 [.int .i64 op, .string x, .string y', .string p, .slice aa l.length ca, .slice ap pr.length cp, .slice a3 th.len c3, .slice a4 el.len c4] rfl rfl (World.news_of_block (cs := #[.int .i64 op, .string x, .string y', .string p, .slice aa l.length ca, .slice ap pr.length cp, .slice a3 th.len c3, .slice a4 el.len c4]) (t := 32) (fr := (0, 0)) hTM) (by simp [Value.oneCell']) Nat.one_pos hm63 hmby (by rw [hWz]; omega) (w7.heap.size + 3) hWz ?_)
            intro gg cap' w8 hown8 hgrow hat8 hlt8
            have row8 := row_stepB (n := acc.len + 1) (cap := cap') (op := op) (x := x) (y := y') (p := p) (by omega) own6 row6 hb hA hPr hTh hEl hbW hgrow (by rw [hWz]; exact hat8)
            have hP8 := kgrow hgrow (kept hbW hP7) (fun k' hk' => by have := hob k' hk'; omega)
            have hQ8 := kgrow hgrow (kept hbW hQ7) (fun k' hk' => by have := hob k' hk'; omega)
            have hX8 := kgrow hgrow hNX (fun k' hk' => by have := hob k' hk'; omega)
            have hbw8 : Below w.heap.size w w8 := bgrow (hbw7.trans (hbW.mono hz7)) hgrow (fun k' hk' => by have := hob k' hk'; omega) (by rw [hWz]; omega)
            have own8 : w8.ownsRow (w.heap.size + 2) 32 8 (.slice (some ⟨gg, 0, none⟩) (acc.len + 1) cap') (acc.app (M.one op x y' p l pr th el)).len (cs ++ [.int .i64 op, .string x, .string y', .string p, .slice aa l.length ca, .slice ap pr.length cp, .slice a3 th.len c3, .slice a4 el.len c4]) := by rw [app_one]; exact hown8
            clear hNX hTM hbW hWz hob hgrow hown8 hat8 hlt8 hb hP6 hQ6 own6 row6 hP7 hQ7 own7 hA hPr hTh hEl
            obtain ⟨x0, x1, x2, x3, x4, x5, xf⟩ := cells6 hX8
            obtain ⟨q0, q1, q2, q3, q4, q5, qf⟩ := cells6 hP8
            go_wp2_with fail
            go_roundg k
            case measure => omega
            case rel =>
              have HP : AvoidB (w.heap.size + 2) (.slice (some ⟨gg, 0, none⟩) (acc.len + 1) cap') w.heap.size := .inl (by omega)
              refine ⟨stR (stmtR N (.ok S)), i7, n7, c7, y7, acc.app (M.one op x y' p l pr th el), _, ⟨h7, set6 hP8 _ _ _ _ _ _, kset6 hQ8 (by omega) _ _ _ _ _ _, oset6 own8 (by omega) _ _ _ _ _ _, RowAt.keep (keep_setc (keep_setc (keep_setc (keep_setc (keep_setc (keep_setc keep_self HP) HP) HP) HP) HP) HP) row8, bset6 hbw8 (Nat.le_refl _) _ _ _ _ _ _, ?_, ?_, fun ho => ?_, fun S1 e => ?_, fun _ => ⟨hd1, hB1⟩⟩, HT2⟩
              · cases e : stR (stmtR N (.ok S)) with
                | error f => exact Nat.zero_le _
                | ok S1 => have := (hlt7 S1 e).1; simp only [mz] at hlt4 ⊢; omega
              · rw [app_one]; omega
              · obtain ⟨S1, e⟩ := okR_yes ho
                have h9 := (hlt7 S1 e).2
                rw [e] at h7
                have j1 := h7.idx.2.2
                have j0 := rs.idx.2.2
                rw [app_one]; omega
              · have := (hlt7 S1 e).1; have := hle S rfl; omega
        · have HX := hid (HT.out.trans (blk_out (.inr hcl)))
          go_wp2_with fail
          clear x0 x1 x2 x3 x4 x5 xf
          refine (rneed_any _ _ _ _ _ _ _ _ _ _ _ rs (hT.keep hbw6) (M.ch 125) (by decide) (by decide)).mono ?_
          rintro e w7 ⟨hb, ie, ce, ye, rfl, he⟩
          have hP7 := kept hb hP6
          have hQ7 := kept hb hQ6
          have own7 := ownsRow_below own6 hb
          have row7 := RowAt.keep (Below.keepX hb) row6
          have hbw7 := hbw6.trans (hb.mono hbw6.size)
          clear hb hP6 hQ6 own6 row6
          obtain ⟨q0, q1, q2, q3, q4, q5, qf⟩ := cells6 hQ7
          go_wp2_with fail
          refine bodyPost_ret (v := .tuple #[.agg #[.slice a ts.length cap, .int .i64 (ie : Nat), .int .i64 fin, .int .i64 (nn : Nat), .int .i64 ce, .int .i64 ye], .slice av acc.len cv]) (by simp [results, Tryz.results57, go_sem, q0, q1, q2, q3, q4, q5]) rfl ⟨?_, ie, nn, ce, ye, _, acc, rfl, by rw [HX.out]; exact he.up, ?_, fun S' x e => by rw [HX.out] at e; exact up_val _ _ e⟩
          · exact bset6 hbw7 (by omega) _ _ _ _ _ _
          · refine ⟨cs, SlAt.of_owns (oset6 own7 (by omega) _ _ _ _ _ _) (fun b hb hx => by have : b < w.heap.size := hx; omega) (by omega), ?_⟩
            refine RowAt.weak (X := AvoidB (w.heap.size + 2) (.slice av acc.len cv)) (fun b _ hx hy => hx (.inl (by have : b < w.heap.size := hy; omega))) (RowAt.keep ?_ row7)
            exact keep_setc (keep_setc (keep_setc (keep_setc (keep_setc (keep_setc keep_self HQ) HQ) HQ) HQ) HQ) HQ

theorem rblock_any (N : Nat) (hB : RBlockC N) : RBlockC (N + 1) := by
  intro a cap ts fin d r i n c y w h hT hfew hd hN
  by_cases h1 : isR r (M.ch 123) = true ∧ d = 32
  · obtain ⟨h1, h2⟩ := h1
    obtain ⟨S, rfl⟩ := isR_ok h1
    exact rblock_deep N a cap ts fin d S i n c y w h hT h2 h1
  · exact rblock_main N a cap ts fin d r i n c y w h hT hfew hd hN h1 fun _ => hB
theorem rblockC : ∀ N, RBlockC N
  | 0 => by
    intro a cap ts fin d r i n c y w h hT hfew hd hN
    cases r with
    | ok S => exact absurd (hN S rfl) (by omega)
    | error f => exact rblock_main 0 a cap ts fin d (.error f) i n c y w h hT hfew hd (fun S e => by cases e) (fun hh => by cases hh.1) fun hh => by obtain ⟨S, e⟩ := hh; cases e
  | N + 1 => rblock_any N (rblockC N)
end Go.Proofs.YtkpmpnebmkeocaaGreatDoor
end
