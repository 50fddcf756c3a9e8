/-
  The walk of the document's reader's stmt (proteanref02): statements that begin with a name. Conditions: the state's; how many tokens there are.
-/
import Derived.Test.YtkonkdhoakcmdaaGreatDoorT13
set_option linter.unusedVariables false
set_option linter.unusedSimpArgs false
namespace Go.Proofs.YtkonkdhoakcmdaaGreatDoor
open Go.RowKit

set_option maxRecDepth 40000 in
set_option maxHeartbeats 3200000 in
theorem rstmt_name (N : Nat) (a : Option Addr) (cap : Nat) (ts : List M.Tok) (fin : Int) (d : Nat) (r : RSt) (i n : Nat) (c y : Int) (w : World) (h : RS ts fin d r i n c y) (hT : TokAt w (.slice a ts.length cap) ts) (hfew : ts.length ≤ 4398046511000)  (kN : isNameR r = true) (kO : isR r M.kOut = false) (kR : isR r M.kReturn = false) (kI : isR r M.kIf = false) (kW : isR r M.kWhile = false) :
    Calls Tryz.prog 34 #[.agg #[.slice a ts.length cap, .int .i64 (i : Nat), .int .i64 fin, .int .i64 (n : Nat), .int .i64 c, .int .i64 y], .int .i64 (d : Nat)] w fun e w' => Below w.heap.size w w' ∧ ∃ (i' n' : Nat) (c' y' : Int) (v : Value) (t : M.Tr), e = .returned (.tuple #[.agg #[.slice a ts.length cap, .int .i64 (i' : Nat), .int .i64 fin, .int .i64 (n' : Nat), .int .i64 c', .int .i64 y'], v]) ∧ RS ts fin d (stR (stmtR N r)) i' n' c' y' ∧ stmEnc w t v w' ∧ ∀ S' t', stmtR N r = .ok (S', t') → t = t' := by
  have hi := h.lt
  have hn2 := h.lim
  obtain ⟨S, rfl⟩ := isNameR_ok kN
  have hc0 := (h.good S rfl).1
  have hy0 := (h.good S rfl).2.1
  subst hc0 hy0
  have HSn := hid h.idx.2.2
  have HSr := hid h.idx.1
  have hbw0 := Below.refl w.heap.size w
  go_enter Tryz.func34, Tryz.ntmps34
  go_wp2_with fail
  refine (risName_any _ _ _ _ _ _ _ _ _ _ _ h (hT.keep (below_four _ _ _ _))).mono ?_
  rintro e w1 ⟨rfl, hb⟩
  obtain ⟨hP1, hQ1, hR1, hN1, hbn⟩ := four_new hb
  clear hb
  have hbw1 := hbw0.trans (hbn.mono hbw0.size)
  clear hbn 
  obtain ⟨x0, x1, x2, x3, x4, x5, xf⟩ := cells6 hP1
  rw [kN]
  by_cases hn : n = 2000
  · have hge : (2000 : Int) ≤ (n : Int) := by omega
    have HSn2 : Hid (S.n = 2000) := HSn.out.trans hn
    clear hn
    go_wp2_with fail
    obtain ⟨n0, n1, n2, n3, n4, n5, n6, n7, nf, nz⟩ := cells8 hN1
    obtain ⟨q0, q1, q2, q3, q4, q5, qf⟩ := cells6 hQ1
    obtain ⟨z0, z1, z2, z3, z4, z5, z6, z7, zf, zz⟩ := cells8 hR1
    have hl := hlt_ hN1
    have e0 : w.heap.size < w1.heap.size := by omega
    have e1 : w.heap.size + 1 < w1.heap.size := by omega
    have KH : Hid (∀ W, Keep (fun b => b = w.heap.size + 1 ∨ b = w.heap.size + 1 + 1) w1 W → W.cell? ⟨w.heap.size, 0, none⟩ = some (.slice a ts.length cap) ∧ W.cell? ⟨w.heap.size, 1, none⟩ = some (.int .i64 (i : Nat)) ∧ W.cell? ⟨w.heap.size, 2, none⟩ = some (.int .i64 fin) ∧ W.cell? ⟨w.heap.size, 3, none⟩ = some (.int .i64 (n : Nat)) ∧ W.cell? ⟨w.heap.size, 4, none⟩ = some (.int .i64 0) ∧ W.cell? ⟨w.heap.size, 5, none⟩ = some (.int .i64 0) ∧ W.cell? ⟨w.heap.size + 1 + 1 + 1, 0, none⟩ = some (.int .i64 0) ∧ W.cell? ⟨w.heap.size + 1 + 1 + 1, 1, none⟩ = some (.string ⟨#[]⟩) ∧ W.cell? ⟨w.heap.size + 1 + 1 + 1, 2, none⟩ = some (.string ⟨#[]⟩) ∧ W.cell? ⟨w.heap.size + 1 + 1 + 1, 3, none⟩ = some (.string ⟨#[]⟩) ∧ W.cell? ⟨w.heap.size + 1 + 1 + 1, 4, none⟩ = some (.slice none 0 0) ∧ W.cell? ⟨w.heap.size + 1 + 1 + 1, 5, none⟩ = some (.slice none 0 0) ∧ W.cell? ⟨w.heap.size + 1 + 1 + 1, 6, none⟩ = some (.slice none 0 0) ∧ W.cell? ⟨w.heap.size + 1 + 1 + 1, 7, none⟩ = some (.slice none 0 0)) := fun W hk => by
      have e := fun (b i : Nat) (h1 : b < w1.heap.size) (h2 : ¬ (fun b => b = w.heap.size + 1 ∨ b = w.heap.size + 1 + 1) b) => World.cell?_of_block (w := w1) (a := ⟨b, i, none⟩) (hk.block b h1 h2)
      exact ⟨(e _ _ e0 (by simp <;> omega)).trans x0, (e _ _ e0 (by simp <;> omega)).trans x1, (e _ _ e0 (by simp <;> omega)).trans x2, (e _ _ e0 (by simp <;> omega)).trans x3, (e _ _ e0 (by simp <;> omega)).trans x4, (e _ _ e0 (by simp <;> omega)).trans x5, (e _ _ hl (by simp <;> omega)).trans n0, (e _ _ hl (by simp <;> omega)).trans n1, (e _ _ hl (by simp <;> omega)).trans n2, (e _ _ hl (by simp <;> omega)).trans n3, (e _ _ hl (by simp <;> omega)).trans n4, (e _ _ hl (by simp <;> omega)).trans n5, (e _ _ hl (by simp <;> omega)).trans n6, (e _ _ hl (by simp <;> omega)).trans n7⟩
    have FAIL : Hid (∀ W, Below w1.heap.size w1 W → Calls Tryz.prog 32 #[.agg #[.slice a ts.length cap, .int .i64 (i : Nat), .int .i64 fin, .int .i64 (n : Nat), .int .i64 0, .int .i64 0], .int .i64 22] W fun e w' => Below w1.heap.size w1 w' ∧ ∃ (c' y' : Int), e = .returned (.agg #[.slice a ts.length cap, .int .i64 (i : Nat), .int .i64 fin, .int .i64 (n : Nat), .int .i64 c', .int .i64 y']) ∧ RS ts fin d (failR (.ok S) 22) i n c' y') := fun W hb => (rfail_any _ _ _ _ _ _ _ _ _ _ _ h (hT.keep (hbw1.trans (hb.mono hbw1.size))) 22 (by decide)).mono fun e w' ⟨g1, g2⟩ => ⟨hb.trans (g1.mono hb.size), g2⟩
    have HF := hid (st_full (N := N) (S := S) (by simp [atStmtR, kN, kO, kR, kI, kW]) HSn2.out)
    go_region_held3 (fun w' => w'.cell? ⟨w.heap.size, 0, none⟩ = some (.slice a ts.length cap) ∧ w'.cell? ⟨w.heap.size, 1, none⟩ = some (.int .i64 (i : Nat)) ∧ w'.cell? ⟨w.heap.size, 2, none⟩ = some (.int .i64 fin) ∧ w'.cell? ⟨w.heap.size, 3, none⟩ = some (.int .i64 (n : Nat)) ∧ w'.cell? ⟨w.heap.size, 4, none⟩ = some (.int .i64 0) ∧ w'.cell? ⟨w.heap.size, 5, none⟩ = some (.int .i64 0) ∧ w'.cell? ⟨w.heap.size + 1 + 1 + 1, 0, none⟩ = some (.int .i64 0) ∧ w'.cell? ⟨w.heap.size + 1 + 1 + 1, 1, none⟩ = some (.string ⟨#[]⟩) ∧ w'.cell? ⟨w.heap.size + 1 + 1 + 1, 2, none⟩ = some (.string ⟨#[]⟩) ∧ w'.cell? ⟨w.heap.size + 1 + 1 + 1, 3, none⟩ = some (.string ⟨#[]⟩) ∧ w'.cell? ⟨w.heap.size + 1 + 1 + 1, 4, none⟩ = some (.slice none 0 0) ∧ w'.cell? ⟨w.heap.size + 1 + 1 + 1, 5, none⟩ = some (.slice none 0 0) ∧ w'.cell? ⟨w.heap.size + 1 + 1 + 1, 6, none⟩ = some (.slice none 0 0) ∧ w'.cell? ⟨w.heap.size + 1 + 1 + 1, 7, none⟩ = some (.slice none 0 0)) (first | exact KH.out _ (by repeat (first | with_reducible exact keep_self | with_reducible exact KB | with_reducible refine keep_drew ?_ | with_reducible refine keep_alloc ?_ | with_reducible refine keep_setc ?_ (by first | omega | (simp; done) | (simp; omega)))) | go_keep) (first | (go_at_call 32; refine (FAIL.out _ (by repeat (first | with_reducible exact Below.refl _ _ | with_reducible exact BB | with_reducible refine Below.drew ?_ | with_reducible refine Below.alloc ?_ (by first | omega | (simp; done) | (simp; omega)) _))).mono ?_; rintro e w9 ⟨BB, c9, y9, rfl, h9⟩; have KB := Below.keepX (X := (fun b => b = w.heap.size + 1 ∨ b = w.heap.size + 1 + 1)) BB; obtain ⟨cc9, cf9⟩ := bcell BB; have lt9 := blt BB))
    all_goals
      have hbw9 := hbw1.trans (BB.mono hbw1.size)
      clear q0 q1 q2 q3 q4 q5 qf z0 z1 z2 z3 z4 z5 z6 z7 zf zz
      obtain ⟨q0, q1, q2, q3, q4, q5, qf⟩ := cells6 (kept BB hQ1)
      obtain ⟨z0, z1, z2, z3, z4, z5, z6, z7, zf, zz⟩ := cells8 (kept BB hR1)
      have e5 : w.heap.size < w9.heap.size := by omega
      have e6 : w.heap.size + 1 < w9.heap.size := by omega
      go_wp2_with fail
      refine bodyPost_ret (v := .tuple #[.agg #[.slice a ts.length cap, .int .i64 (i : Nat), .int .i64 fin, .int .i64 (n : Nat), .int .i64 c9, .int .i64 y9], .agg #[.int .i64 0, .string ⟨#[]⟩, .string ⟨#[]⟩, .string ⟨#[]⟩, .slice none 0 0, .slice none 0 0, .slice none 0 0, .slice none 0 0]]) (by simp [results, Tryz.results34, go_sem, q0, q1, q2, q3, q4, q5, z0, z1, z2, z3, z4, z5, z6, z7, e5, e6, zz]) rfl ⟨?_, i, n, c9, y9, _, M.one 0 M.em M.em M.em [] [] .nil .nil, rfl, by rw [HF.out.1]; exact h9, stmEnc_mk (OpsAt.nil _ _) (StrsAt.nil _ _), fun S' x e => absurd e (HF.out.2 _ _)⟩
      repeat (first | with_reducible exact hbw9 | with_reducible refine Below.setCell ?_ (by first | omega | (simp; done) | (simp; omega)) _ | with_reducible refine Below.drew ?_ | with_reducible refine Below.alloc ?_ (by first | omega | (simp; done) | (simp; omega)) _)
  · have hlt : n < 2000 := by omega
    have hlti : (n : Int) < 2000 := by omega
    have HSn2 : Hid (¬ S.n = 2000) := fun e => hn (HSn.out.symm.trans e)
    clear hn
    obtain ⟨n1, hn1⟩ : ∃ n1, n1 = n + 1 := ⟨_, rfl⟩
    have hm : RS ts fin d (.ok S.more) i n1 0 0 := by rw [hn1]; exact (h.more hlt).2.2.2
    have HN1 := hid hn1
    clear hn1
    go_wp2_with fail
    rw [show ((n : Int) + 1) = (n1 : Int) by have := HN1.out; omega]
    clear x0 x1 x2 x3 x4 x5 xf
    have hl1 := hlt_ hN1
    have hP2 := (st_set3 hP1 (.int .i64 (n1 : Nat))).1
    have hQ2 := kset hQ1 (p := ⟨w.heap.size, 3, none⟩) (show w.heap.size + 1 ≠ w.heap.size by omega) (.int .i64 (n1 : Nat))
    have hR2 := kset hR1 (p := ⟨w.heap.size, 3, none⟩) (show w.heap.size + 1 + 1 ≠ w.heap.size by omega) (.int .i64 (n1 : Nat))
    have hN2 := kset hN1 (p := ⟨w.heap.size, 3, none⟩) (show w.heap.size + 1 + 1 + 1 ≠ w.heap.size by omega) (.int .i64 (n1 : Nat))
    have hbw2 := hbw1.setCell (p := ⟨w.heap.size, 3, none⟩) (show w.heap.size ≤ w.heap.size by omega) (.int .i64 (n1 : Nat))
    generalize hW : (w1.setCell ⟨w.heap.size, 3, none⟩ (.int .i64 (n1 : Nat))) = w2 at hP2 hQ2 hR2 hN2 hbw2 ⊢
    clear hW hP1 hQ1 hR1 hN1
    refine (ris_any _ _ _ _ _ _ _ _ _ _ _ hm (hT.keep hbw2) M.kIf (by decide) (by decide)).mono ?_
    rintro e w3 ⟨rfl, hb⟩
    have hP3 := kept hb hP2
    have hQ3 := kept hb hQ2
    have hR3 := kept hb hR2
    have hN3 := kept hb hN2
    have hbw3 := hbw2.trans (hb.mono hbw2.size)
    clear hb hP2 hQ2 hR2 hN2
    obtain ⟨x0, x1, x2, x3, x4, x5, xf⟩ := cells6 hP3
    rw [show isR (.ok S.more) M.kIf = false from kI]
    go_wp2_with fail
    clear x0 x1 x2 x3 x4 x5 xf
    refine (ris_any _ _ _ _ _ _ _ _ _ _ _ hm (hT.keep hbw3) M.kWhile (by decide) (by decide)).mono ?_
    rintro e w4 ⟨rfl, hb⟩
    have hP4 := kept hb hP3
    have hQ4 := kept hb hQ3
    have hR4 := kept hb hR3
    have hN4 := kept hb hN3
    have hbw4 := hbw3.trans (hb.mono hbw3.size)
    clear hb hP3 hQ3 hR3 hN3
    obtain ⟨x0, x1, x2, x3, x4, x5, xf⟩ := cells6 hP4
    rw [show isR (.ok S.more) M.kWhile = false from kW]
    go_wp2_with fail
    clear x0 x1 x2 x3 x4 x5 xf
    refine (ris_any _ _ _ _ _ _ _ _ _ _ _ hm (hT.keep hbw4) M.kOut (by decide) (by decide)).mono ?_
    rintro e w5 ⟨rfl, hb⟩
    have hP5 := kept hb hP4
    have hQ5 := kept hb hQ4
    have hR5 := kept hb hR4
    have hN5 := kept hb hN4
    have hbw5 := hbw4.trans (hb.mono hbw4.size)
    clear hb hP4 hQ4 hR4 hN4
    obtain ⟨x0, x1, x2, x3, x4, x5, xf⟩ := cells6 hP5
    rw [show isR (.ok S.more) M.kOut = false from kO]
    go_wp2_with fail
    clear x0 x1 x2 x3 x4 x5 xf
    refine (ris_any _ _ _ _ _ _ _ _ _ _ _ hm (hT.keep hbw5) M.kReturn (by decide) (by decide)).mono ?_
    rintro e w6 ⟨rfl, hb⟩
    have hP6 := kept hb hP5
    have hQ6 := kept hb hQ5
    have hR6 := kept hb hR5
    have hN6 := kept hb hN5
    have hbw6 := hbw5.trans (hb.mono hbw5.size)
    clear hb hP5 hQ5 hR5 hN5
    obtain ⟨x0, x1, x2, x3, x4, x5, xf⟩ := cells6 hP6
    rw [show isR (.ok S.more) M.kReturn = false from kR]
    go_wp2_with fail
    clear x0 x1 x2 x3 x4 x5 xf
    refine (rname_any _ _ _ _ _ _ _ _ _ _ _ hm (hT.keep hbw6)).mono ?_
    rintro e w7 ⟨hb, ia, ca, ya, x, rfl, hqa, hx⟩
    have hQ7 := kept hb hQ6
    have hR7 := kept hb hR6
    have hN7 := kept hb hN6
    have hbw7 := hbw6.trans (hb.mono hbw6.size)
    clear hb hQ6 hR6 hN6
    have HV0 := hid (st_name (N := N) (show S.isName = true from kN) HSn2.out hx)
    clear hx
    generalize stR (nameR (.ok S.more)) = qa at hqa HV0
    have hlk := hlt_ hN7
    go_wp2_with fail
    refine (ris_any _ _ _ _ _ _ _ _ _ _ _ hqa (hT.keep (hbw7.trans ((below_box _).mono hbw7.size))) (M.ch 46) (by decide) (by decide)).mono ?_
    rintro e w8 ⟨rfl, hb⟩
    obtain ⟨hA8, _, hbn⟩ := one_new hb
    clear hb
    have hQ8 := kept hbn hQ7
    have hR8 := kept hbn hR7
    have hN8 := kept hbn hN7
    have hbw8 := hbw7.trans (hbn.mono hbw7.size)
    clear hbn hQ7 hR7 hN7
    obtain ⟨x0, x1, x2, x3, x4, x5, xf⟩ := cells6 hA8
    cases hd : isR qa (M.ch 46)
    · go_wp2_with fail
      clear x0 x1 x2 x3 x4 x5 xf
      refine (rneed_any _ _ _ _ _ _ _ _ _ _ _ hqa (hT.keep hbw8) (M.ch 61) (by decide) (by decide)).mono ?_
      rintro e w9 ⟨hb, ib, cb, yb, rfl, hqb⟩
      have hQ9 := kept hb hQ8
      have hR9 := kept hb hR8
      have hN9 := kept hb hN8
      have hbw9 := hbw8.trans (hb.mono hbw8.size)
      clear hb hQ8 hR8 hN8
      have hOW : w.heap.size + 1 + 1 + 1 ≤ w9.heap.size := by have := hlt_ hN9; omega
      go_wp2_with fail
      refine (rvalue_any _ _ _ _ _ _ _ _ _ _ _ hqb (hT.keep hbw9) hfew).mono ?_
      rintro e w10 ⟨hb, ic, cc, yc, v, xv, rfl, hq, ⟨va, vp, rfl, hOA, hOP⟩, hxv⟩
      have hQ10 := kept hb hQ9
      have hR10 := kept hb hR9
      have hN10 := kept hb hN9
      have hbw10 := hbw9.trans (hb.mono hbw9.size)
      clear hb hQ9 hR9 hN9
      obtain ⟨av, cv, rfl⟩ := SlAt.form hOA
      obtain ⟨ap, cp, rfl⟩ := SlAt.form hOP
      have HV := hid (HV0.out.trans (st_let hd hxv))
      clear hxv HV0
      generalize stR (valueR (needR qa (M.ch 61))) = q at hq HV
      have hlk2 := hlt_ hN10
      go_wp2_with fail
      obtain ⟨hA11, hT11, _, hbn⟩ := two_new (w := w10) (w1 := ((w10.alloc (.cells #[.slice a ts.length cap, .int .i64 (ic : Nat), .int .i64 fin, .int .i64 (n1 : Nat), .int .i64 cc, .int .i64 yc] 44)).alloc (.cells #[.int .i64 xv.op, .string x, .string xv.y, .string xv.p, .slice av xv.a.length cv, .slice ap xv.pr.length cp, .slice none 0 0, .slice none 0 0] 59))) (Below.refl _ _)
      have hQ11 := kept hbn hQ10
      have hR11 := kept hbn hR10
      have hN11 := kept hbn hN10
      have hOA' := SlAt.bel hOA hbn
      have hOP' := SlAt.bel hOP hbn
      have hbw11 := hbw10.trans (hbn.mono hbw10.size)
      clear hbn
      generalize hW : ((w10.alloc (.cells #[.slice a ts.length cap, .int .i64 (ic : Nat), .int .i64 fin, .int .i64 (n1 : Nat), .int .i64 cc, .int .i64 yc] 44)).alloc (.cells #[.int .i64 xv.op, .string x, .string xv.y, .string xv.p, .slice av xv.a.length cv, .slice ap xv.pr.length cp, .slice none 0 0, .slice none 0 0] 59)) = w11 at hA11 hT11 hQ11 hR11 hN11 hbw11 hOA' hOP' ⊢
      clear hW hQ10 hR10 hN10 hOA hOP
      have hOA := hOA'
      clear hOA'
      have hOP := hOP'
      clear hOP'
      obtain ⟨x0, x1, x2, x3, x4, x5, xf⟩ := cells6 hA11
      obtain ⟨t0, t1, t2, t3, t4, t5, t6, t7, tf, tz⟩ := cells8 hT11
      obtain ⟨q0, q1, q2, q3, q4, q5, qf⟩ := cells6 hQ11
      obtain ⟨z0, z1, z2, z3, z4, z5, z6, z7, zf, zz⟩ := cells8 hR11
      have hlA := hlt_ hA11
      have hlX := hlt_ hT11
      have e0 : w.heap.size < w11.heap.size := by omega
      have e1 : w.heap.size + 1 < w11.heap.size := by omega
      have e2 : ¬ w11.heap.size < w.heap.size := by omega
      have KH : Hid (∀ W, Keep (fun b => b < w.heap.size + 1 + 1 + 1) w11 W → W.cell? ⟨w10.heap.size, 0, none⟩ = some (.slice a ts.length cap) ∧ W.cell? ⟨w10.heap.size, 1, none⟩ = some (.int .i64 (ic : Nat)) ∧ W.cell? ⟨w10.heap.size, 2, none⟩ = some (.int .i64 fin) ∧ W.cell? ⟨w10.heap.size, 3, none⟩ = some (.int .i64 (n1 : Nat)) ∧ W.cell? ⟨w10.heap.size, 4, none⟩ = some (.int .i64 cc) ∧ W.cell? ⟨w10.heap.size, 5, none⟩ = some (.int .i64 yc) ∧ W.cell? ⟨w10.heap.size + 1, 0, none⟩ = some (.int .i64 xv.op) ∧ W.cell? ⟨w10.heap.size + 1, 1, none⟩ = some (.string x) ∧ W.cell? ⟨w10.heap.size + 1, 2, none⟩ = some (.string xv.y) ∧ W.cell? ⟨w10.heap.size + 1, 3, none⟩ = some (.string xv.p) ∧ W.cell? ⟨w10.heap.size + 1, 4, none⟩ = some (.slice av xv.a.length cv) ∧ W.cell? ⟨w10.heap.size + 1, 5, none⟩ = some (.slice ap xv.pr.length cp) ∧ W.cell? ⟨w10.heap.size + 1, 6, none⟩ = some (.slice none 0 0) ∧ W.cell? ⟨w10.heap.size + 1, 7, none⟩ = some (.slice none 0 0)) := fun W hk => by
        have e := fun (b i : Nat) (h1 : b < w11.heap.size) (h2 : ¬ (fun b => b < w.heap.size + 1 + 1 + 1) b) => World.cell?_of_block (w := w11) (a := ⟨b, i, none⟩) (hk.block b h1 h2)
        exact ⟨(e _ _ hlA (by simp <;> omega)).trans x0, (e _ _ hlA (by simp <;> omega)).trans x1, (e _ _ hlA (by simp <;> omega)).trans x2, (e _ _ hlA (by simp <;> omega)).trans x3, (e _ _ hlA (by simp <;> omega)).trans x4, (e _ _ hlA (by simp <;> omega)).trans x5, (e _ _ hlX (by simp <;> omega)).trans t0, (e _ _ hlX (by simp <;> omega)).trans t1, (e _ _ hlX (by simp <;> omega)).trans t2, (e _ _ hlX (by simp <;> omega)).trans t3, (e _ _ hlX (by simp <;> omega)).trans t4, (e _ _ hlX (by simp <;> omega)).trans t5, (e _ _ hlX (by simp <;> omega)).trans t6, (e _ _ hlX (by simp <;> omega)).trans t7⟩
      have NEED : Hid (∀ W, Below w11.heap.size w11 W → Calls Tryz.prog 20 #[.agg #[.slice a ts.length cap, .int .i64 (ic : Nat), .int .i64 fin, .int .i64 (n1 : Nat), .int .i64 cc, .int .i64 yc], .string (M.ch 59)] W fun e w' => Below W.heap.size W w' ∧ Below w11.heap.size w11 w' ∧ ∃ (i' : Nat) (c' y' : Int), e = .returned (.agg #[.slice a ts.length cap, .int .i64 (i' : Nat), .int .i64 fin, .int .i64 (n1 : Nat), .int .i64 c', .int .i64 y']) ∧ RS ts fin d (needR q (M.ch 59)) i' n1 c' y') := fun W hb => (rneed_any _ _ _ _ _ _ _ _ _ _ _ hq (hT.keep (hbw11.trans (hb.mono hbw11.size))) (M.ch 59) (by decide) (by decide)).mono fun e w' ⟨g1, g2⟩ => ⟨g1, hb.trans (g1.mono hb.size), g2⟩
      have NEED' := NEED
      unfold M.ch at NEED
      have HE := hid (take_end q (M.ch 59) (M.one xv.op x xv.y xv.p xv.a xv.pr .nil .nil : M.Tr))
      clear x0 x1 x2 x3 x4 x5 xf
      go_region_held3 (fun w' => w'.cell? ⟨w10.heap.size, 0, none⟩ = some (.slice a ts.length cap) ∧ w'.cell? ⟨w10.heap.size, 1, none⟩ = some (.int .i64 (ic : Nat)) ∧ w'.cell? ⟨w10.heap.size, 2, none⟩ = some (.int .i64 fin) ∧ w'.cell? ⟨w10.heap.size, 3, none⟩ = some (.int .i64 (n1 : Nat)) ∧ w'.cell? ⟨w10.heap.size, 4, none⟩ = some (.int .i64 cc) ∧ w'.cell? ⟨w10.heap.size, 5, none⟩ = some (.int .i64 yc) ∧ w'.cell? ⟨w10.heap.size + 1, 0, none⟩ = some (.int .i64 xv.op) ∧ w'.cell? ⟨w10.heap.size + 1, 1, none⟩ = some (.string x) ∧ w'.cell? ⟨w10.heap.size + 1, 2, none⟩ = some (.string xv.y) ∧ w'.cell? ⟨w10.heap.size + 1, 3, none⟩ = some (.string xv.p) ∧ w'.cell? ⟨w10.heap.size + 1, 4, none⟩ = some (.slice av xv.a.length cv) ∧ w'.cell? ⟨w10.heap.size + 1, 5, none⟩ = some (.slice ap xv.pr.length cp) ∧ w'.cell? ⟨w10.heap.size + 1, 6, none⟩ = some (.slice none 0 0) ∧ w'.cell? ⟨w10.heap.size + 1, 7, none⟩ = some (.slice none 0 0)) (first | exact KH.out _ (by repeat (first | with_reducible exact keep_self | with_reducible exact KB | with_reducible refine keep_drew ?_ | with_reducible refine keep_alloc ?_ | with_reducible refine keep_setc ?_ (by first | omega | (simp; done) | (simp; omega)))) | go_keep) (first | (go_at_call 20; refine (NEED.out _ (by repeat (first | with_reducible exact Below.refl _ _ | with_reducible exact BB | with_reducible refine Below.drew ?_ | with_reducible refine Below.alloc ?_ (by first | omega | (simp; done) | (simp; omega)) _))).mono ?_; rintro e w29 ⟨hb29, BB, i29, c29, y29, rfl, h29⟩; have KB := Below.keepX (X := (fun b => b < w.heap.size + 1 + 1 + 1)) BB; have HB := hid hb29; clear hb29 q0 q1 q2 q3 q4 q5 qf z0 z1 z2 z3 z4 z5 z6 z7 zf zz; obtain ⟨q0, q1, q2, q3, q4, q5, qf⟩ := cells6 (kept BB hQ11); obtain ⟨z0, z1, z2, z3, z4, z5, z6, z7, zf, zz⟩ := cells8 (kept BB hR11); have e5 := Nat.lt_of_lt_of_le e0 BB.size; have e6 := Nat.lt_of_lt_of_le e1 BB.size))
      all_goals
        have hbw29 := hbw11.trans (BB.mono hbw11.size)
        have hs29 := BB.size
        have e7 : ¬ w29.heap.size < w.heap.size := by omega
        go_wp2_with fail
        refine bodyPost_ret (v := .tuple #[.agg #[.slice a ts.length cap, .int .i64 (i29 : Nat), .int .i64 fin, .int .i64 (n1 : Nat), .int .i64 c29, .int .i64 y29], .agg #[.int .i64 xv.op, .string x, .string xv.y, .string xv.p, .slice av xv.a.length cv, .slice ap xv.pr.length cp, .slice none 0 0, .slice none 0 0]]) (by simp [results, Tryz.results34, go_sem, q0, q1, q2, q3, q4, q5, z0, z1, z2, z3, z4, z5, z6, z7, e5, e6, zz]) rfl ⟨?_, i29, n1, c29, y29, _, M.one xv.op x xv.y xv.p xv.a xv.pr .nil .nil, rfl, by rw [HV.out, HE.out.1]; exact h29, stmEnc_mk ?_ ?_, fun S' x e => by rw [HV.out] at e; exact HE.out.2 _ _ e⟩
        · repeat (first | with_reducible exact hbw29 | with_reducible refine Below.setCell ?_ (by first | omega | (simp; done) | (simp; omega)) _ | with_reducible refine Below.drew ?_ | with_reducible refine Below.alloc ?_ (by first | omega | (simp; done) | (simp; omega)) _)
        · refine ((SlAt.weak (SlAt.bel hOA BB) (Y := fun b => b < w.heap.size + 1 + 1 + 1) fun b _ hx hy => hx (Nat.lt_of_lt_of_le hy hOW)).keep ?_).weak fun b _ hx hy => hx (by have : b < w.heap.size := hy; omega)
          repeat (first | with_reducible exact keep_self | with_reducible refine keep_drew ?_ | with_reducible refine keep_alloc ?_ | with_reducible refine keep_setc ?_ (by first | omega | (simp; done) | (simp; omega)))
        · refine ((SlAt.weak (SlAt.bel hOP BB) (Y := fun b => b < w.heap.size + 1 + 1 + 1) fun b _ hx hy => hx (Nat.lt_of_lt_of_le hy hOW)).keep ?_).weak fun b _ hx hy => hx (by have : b < w.heap.size := hy; omega)
          repeat (first | with_reducible exact keep_self | with_reducible refine keep_drew ?_ | with_reducible refine keep_alloc ?_ | with_reducible refine keep_setc ?_ (by first | omega | (simp; done) | (simp; omega)))
    · go_wp2_with fail
      clear x0 x1 x2 x3 x4 x5 xf
      refine (rneed_any _ _ _ _ _ _ _ _ _ _ _ hqa (hT.keep hbw8) (M.ch 46) (by decide) (by decide)).mono ?_
      rintro e w9 ⟨hb, ib, cb, yb, rfl, hqb⟩
      have hQ9 := kept hb hQ8
      have hR9 := kept hb hR8
      have hN9 := kept hb hN8
      have hbw9 := hbw8.trans (hb.mono hbw8.size)
      clear hb hQ8 hR8 hN8
      go_wp2_with fail
      refine (rname_any _ _ _ _ _ _ _ _ _ _ _ hqb (hT.keep hbw9)).mono ?_
      rintro e w10 ⟨hb, ic, cc, yc, p, rfl, hqc, hp⟩
      have hQ10 := kept hb hQ9
      have hR10 := kept hb hR9
      have hN10 := kept hb hN9
      have hbw10 := hbw9.trans (hb.mono hbw9.size)
      clear hb hQ9 hR9 hN9
      go_wp2_with fail
      refine (rneed_any _ _ _ _ _ _ _ _ _ _ _ hqc (hT.keep (hbw10.trans ((below_box _).mono hbw10.size))) (M.ch 61) (by decide) (by decide)).mono ?_
      rintro e w11 ⟨hb, id, cd, yd, rfl, hqd⟩
      obtain ⟨_, _, hbn⟩ := one_new hb
      clear hb
      have hQ11 := kept hbn hQ10
      have hR11 := kept hbn hR10
      have hN11 := kept hbn hN10
      have hbw11 := hbw10.trans (hbn.mono hbw10.size)
      clear hbn hQ10 hR10 hN10
      go_wp2_with fail
      refine (roperand_any _ _ _ _ _ _ _ _ _ _ _ hqd (hT.keep hbw11)).mono ?_
      rintro e w12 ⟨hb, ie, ce, ye, o, rfl, hq, ho⟩
      have hQ12 := kept hb hQ11
      have hR12 := kept hb hR11
      have hN12 := kept hb hN11
      have hbw12 := hbw11.trans (hb.mono hbw11.size)
      clear hb hQ11 hR11 hN11
      have HV := hid (HV0.out.trans (st_set hd hp ho))
      clear hp ho HV0
      generalize stR (operandR (needR (stR (nameR (needR qa (M.ch 46)))) (M.ch 61))) = q at hq HV
      have hlk2 := hlt_ hN12
      go_wp2_with fail
      obtain ⟨hA13, hO13, _, hbn⟩ := two_new (w := w12) (w1 := ((w12.alloc (.cells #[.slice a ts.length cap, .int .i64 (ie : Nat), .int .i64 fin, .int .i64 (n1 : Nat), .int .i64 ce, .int .i64 ye] 44)).alloc (.cells #[.int .i64 o.k, .int .i64 o.n, .string o.s] 61))) (Below.refl _ _)
      have hQ13 := kept hbn hQ12
      have hR13 := kept hbn hR12
      have hN13 := kept hbn hN12
      have hbw13 := hbw12.trans (hbn.mono hbw12.size)
      have hzz := hbn.size
      generalize hW : ((w12.alloc (.cells #[.slice a ts.length cap, .int .i64 (ie : Nat), .int .i64 fin, .int .i64 (n1 : Nat), .int .i64 ce, .int .i64 ye] 44)).alloc (.cells #[.int .i64 o.k, .int .i64 o.n, .string o.s] 61)) = w13 at hA13 hO13 hQ13 hR13 hN13 hbw13 hbn ⊢
      clear hW hbn hzz hQ12 hR12 hN12
      obtain ⟨x0, x1, x2, x3, x4, x5, xf⟩ := cells6 hA13
      obtain ⟨o0, o1, o2, of⟩ := tcells3 hO13
      obtain ⟨q0, q1, q2, q3, q4, q5, qf⟩ := cells6 hQ13
      obtain ⟨z0, z1, z2, z3, z4, z5, z6, z7, zf, zz⟩ := cells8 hR13
      have hlA := hlt_ hA13
      have hlX := hlt_ hO13
      have e0 : w.heap.size < w13.heap.size := by omega
      have e1 : w.heap.size + 1 < w13.heap.size := by omega
      have e2 : ¬ w13.heap.size < w.heap.size := by omega
      have KH : Hid (∀ W, Keep (fun b => b < w.heap.size + 1 + 1 + 1) w13 W → W.cell? ⟨w12.heap.size, 0, none⟩ = some (.slice a ts.length cap) ∧ W.cell? ⟨w12.heap.size, 1, none⟩ = some (.int .i64 (ie : Nat)) ∧ W.cell? ⟨w12.heap.size, 2, none⟩ = some (.int .i64 fin) ∧ W.cell? ⟨w12.heap.size, 3, none⟩ = some (.int .i64 (n1 : Nat)) ∧ W.cell? ⟨w12.heap.size, 4, none⟩ = some (.int .i64 ce) ∧ W.cell? ⟨w12.heap.size, 5, none⟩ = some (.int .i64 ye) ∧ W.cell? ⟨w12.heap.size + 1, 0, none⟩ = some (.int .i64 o.k) ∧ W.cell? ⟨w12.heap.size + 1, 1, none⟩ = some (.int .i64 o.n) ∧ W.cell? ⟨w12.heap.size + 1, 2, none⟩ = some (.string o.s)) := fun W hk => by
        have e := fun (b i : Nat) (h1 : b < w13.heap.size) (h2 : ¬ (fun b => b < w.heap.size + 1 + 1 + 1) b) => World.cell?_of_block (w := w13) (a := ⟨b, i, none⟩) (hk.block b h1 h2)
        exact ⟨(e _ _ hlA (by simp <;> omega)).trans x0, (e _ _ hlA (by simp <;> omega)).trans x1, (e _ _ hlA (by simp <;> omega)).trans x2, (e _ _ hlA (by simp <;> omega)).trans x3, (e _ _ hlA (by simp <;> omega)).trans x4, (e _ _ hlA (by simp <;> omega)).trans x5, (e _ _ hlX (by simp <;> omega)).trans o0, (e _ _ hlX (by simp <;> omega)).trans o1, (e _ _ hlX (by simp <;> omega)).trans o2⟩
      have NEED : Hid (∀ W, Below w13.heap.size w13 W → Calls Tryz.prog 20 #[.agg #[.slice a ts.length cap, .int .i64 (ie : Nat), .int .i64 fin, .int .i64 (n1 : Nat), .int .i64 ce, .int .i64 ye], .string (M.ch 59)] W fun e w' => Below W.heap.size W w' ∧ Below w13.heap.size w13 w' ∧ ∃ (i' : Nat) (c' y' : Int), e = .returned (.agg #[.slice a ts.length cap, .int .i64 (i' : Nat), .int .i64 fin, .int .i64 (n1 : Nat), .int .i64 c', .int .i64 y']) ∧ RS ts fin d (needR q (M.ch 59)) i' n1 c' y') := fun W hb => (rneed_any _ _ _ _ _ _ _ _ _ _ _ hq (hT.keep (hbw13.trans (hb.mono hbw13.size))) (M.ch 59) (by decide) (by decide)).mono fun e w' ⟨g1, g2⟩ => ⟨g1, hb.trans (g1.mono hb.size), g2⟩
      have NEED' := NEED
      unfold M.ch at NEED
      have HE := hid (take_end q (M.ch 59) (M.one 3 x M.em p [o] [] .nil .nil : M.Tr))
      clear x0 x1 x2 x3 x4 x5 xf
      go_region_held3 (fun w' => w'.cell? ⟨w12.heap.size, 0, none⟩ = some (.slice a ts.length cap) ∧ w'.cell? ⟨w12.heap.size, 1, none⟩ = some (.int .i64 (ie : Nat)) ∧ w'.cell? ⟨w12.heap.size, 2, none⟩ = some (.int .i64 fin) ∧ w'.cell? ⟨w12.heap.size, 3, none⟩ = some (.int .i64 (n1 : Nat)) ∧ w'.cell? ⟨w12.heap.size, 4, none⟩ = some (.int .i64 ce) ∧ w'.cell? ⟨w12.heap.size, 5, none⟩ = some (.int .i64 ye) ∧ w'.cell? ⟨w12.heap.size + 1, 0, none⟩ = some (.int .i64 o.k) ∧ w'.cell? ⟨w12.heap.size + 1, 1, none⟩ = some (.int .i64 o.n) ∧ w'.cell? ⟨w12.heap.size + 1, 2, none⟩ = some (.string o.s)) (first | exact KH.out _ (by repeat (first | with_reducible exact keep_self | with_reducible exact KB | with_reducible refine keep_drew ?_ | with_reducible refine keep_alloc ?_ | with_reducible refine keep_setc ?_ (by first | omega | (simp; done) | (simp; omega)))) | go_keep) (first | (go_at_call 20; refine (NEED.out _ (by repeat (first | with_reducible exact Below.refl _ _ | with_reducible exact BB | with_reducible refine Below.drew ?_ | with_reducible refine Below.alloc ?_ (by first | omega | (simp; done) | (simp; omega)) _))).mono ?_; rintro e w29 ⟨hb29, BB, i29, c29, y29, rfl, h29⟩; have KB := Below.keepX (X := (fun b => b < w.heap.size + 1 + 1 + 1)) BB; have HB := hid hb29; clear hb29 q0 q1 q2 q3 q4 q5 qf z0 z1 z2 z3 z4 z5 z6 z7 zf zz; obtain ⟨q0, q1, q2, q3, q4, q5, qf⟩ := cells6 (kept BB hQ13); obtain ⟨z0, z1, z2, z3, z4, z5, z6, z7, zf, zz⟩ := cells8 (kept BB hR13); have e5 := Nat.lt_of_lt_of_le e0 BB.size; have e6 := Nat.lt_of_lt_of_le e1 BB.size))
      · have hbw29 := hbw13.trans (BB.mono hbw13.size)
        have hs29 := BB.size
        have e7 : ¬ w29.heap.size < w.heap.size := by omega
        go_wp2_with fail
        refine bodyPost_ret (v := .tuple #[.agg #[.slice a ts.length cap, .int .i64 (i29 : Nat), .int .i64 fin, .int .i64 (n1 : Nat), .int .i64 c29, .int .i64 y29], .agg #[.int .i64 3, .string x, .string ⟨#[]⟩, .string p, .slice (some ⟨w29.heap.size, 0, none⟩) 1 1, .slice none 0 0, .slice none 0 0, .slice none 0 0]]) (by simp [results, Tryz.results34, go_sem, q0, q1, q2, q3, q4, q5, z0, z1, z2, z3, z4, z5, z6, z7, e5, e6, zz]) rfl ⟨?_, i29, n1, c29, y29, _, M.one 3 x M.em p [o] [] .nil .nil, rfl, by rw [HV.out, HE.out.1]; exact h29, stmEnc_mk ?_ (StrsAt.nil _ _), fun S' x e => by rw [HV.out] at e; exact HE.out.2 _ _ e⟩
        · repeat (first | with_reducible exact hbw29 | with_reducible refine Below.setCell ?_ (by first | omega | (simp; done) | (simp; omega)) _ | with_reducible refine Below.drew ?_ | with_reducible refine Below.alloc ?_ (by first | omega | (simp; done) | (simp; omega)) _)
        · exact ops1_new (by simp) e7
      · have hbw29 := hbw13.trans (BB.mono hbw13.size)
        have hs29 := BB.size
        have e7 : ¬ w29.heap.size < w.heap.size := by omega
        go_wp2_with fail
        refine bodyPost_ret (v := .tuple #[.agg #[.slice a ts.length cap, .int .i64 (i29 : Nat), .int .i64 fin, .int .i64 (n1 : Nat), .int .i64 c29, .int .i64 y29], .agg #[.int .i64 3, .string x, .string ⟨#[]⟩, .string p, .slice (some ⟨w29.heap.size, 0, none⟩) 1 1, .slice none 0 0, .slice none 0 0, .slice none 0 0]]) (by simp [results, Tryz.results34, go_sem, q0, q1, q2, q3, q4, q5, z0, z1, z2, z3, z4, z5, z6, z7, e5, e6, zz]) rfl ⟨?_, i29, n1, c29, y29, _, M.one 3 x M.em p [o] [] .nil .nil, rfl, by rw [HV.out, HE.out.1]; exact h29, stmEnc_mk ?_ (StrsAt.nil _ _), fun S' x e => by rw [HV.out] at e; exact HE.out.2 _ _ e⟩
        · repeat (first | with_reducible exact hbw29 | with_reducible refine Below.setCell ?_ (by first | omega | (simp; done) | (simp; omega)) _ | with_reducible refine Below.drew ?_ | with_reducible refine Below.alloc ?_ (by first | omega | (simp; done) | (simp; omega)) _)
        · exact ops1_new (by simp) e7
      · have hbw29 := hbw13.trans (BB.mono hbw13.size)
        have hs29 := BB.size
        have e7 : ¬ w29.heap.size < w.heap.size := by omega
        go_wp2_with fail
        have hN29 := (one_new (undrew HB.out)).1
        refine bodyPost_ret (v := .tuple #[.agg #[.slice a ts.length cap, .int .i64 (i29 : Nat), .int .i64 fin, .int .i64 (n1 : Nat), .int .i64 c29, .int .i64 y29], .agg #[.int .i64 3, .string x, .string ⟨#[]⟩, .string p, .slice (some ⟨w13.heap.size, 0, none⟩) 1 1, .slice none 0 0, .slice none 0 0, .slice none 0 0]]) (by simp [results, Tryz.results34, go_sem, q0, q1, q2, q3, q4, q5, z0, z1, z2, z3, z4, z5, z6, z7, e5, e6, zz]) rfl ⟨?_, i29, n1, c29, y29, _, M.one 3 x M.em p [o] [] .nil .nil, rfl, by rw [HV.out, HE.out.1]; exact h29, stmEnc_mk ?_ (StrsAt.nil _ _), fun S' x e => by rw [HV.out] at e; exact HE.out.2 _ _ e⟩
        · repeat (first | with_reducible exact hbw29 | with_reducible refine Below.setCell ?_ (by first | omega | (simp; done) | (simp; omega)) _ | with_reducible refine Below.drew ?_ | with_reducible refine Below.alloc ?_ (by first | omega | (simp; done) | (simp; omega)) _)
        · refine ((ops1_at (X := fun b => b < w.heap.size + 1 + 1 + 1) hN29 (by omega)).keep ?_).weak fun b _ hx hy => hx (by have : b < w.heap.size := hy; omega)
          repeat (first | with_reducible exact keep_self | with_reducible refine keep_drew ?_ | with_reducible refine keep_alloc ?_ | with_reducible refine keep_setc ?_ (by first | omega | (simp; done) | (simp; omega)))
end Go.Proofs.YtkonkdhoakcmdaaGreatDoor
