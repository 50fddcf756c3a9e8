/-
  The walk of the document's reader's operand (proteanref02), all its ways. Conditions: the state's.
-/
import Derived.Test.YtkonkdhoakcmdaaGreatDoorTM
import Derived.Test.YtkonkdhoakcmdaaGreatDoorR2
set_option linter.unusedVariables false
set_option linter.unusedSimpArgs false
namespace Go.Proofs.YtkonkdhoakcmdaaGreatDoor
open Go.RowKit

theorem numV_snoc (l : List UInt8) (c : UInt8) : M.numV (l ++ [c]) = 10 * M.numV l + ((c.toNat : Int) - 48) := by simp [M.numV, List.foldl_append]
theorem numV_le (l : List UInt8) (h : ∀ j (hj : j < l.length), 48 ≤ l[j].toNat ∧ l[j].toNat ≤ 57) : ∀ k, k ≤ l.length → 0 ≤ M.numV (l.take k) ∧ M.numV (l.take k) < 10 ^ k
  | 0, _ => by simp [M.numV]
  | k + 1, hk => by
    have ih := numV_le l h k (by omega)
    have hd := h k (by omega)
    rw [List.take_succ_eq_append_getElem (by omega), numV_snoc, Int.pow_succ]
    omega
/-- a number's token -/
theorem num_tok {ts : List M.Tok} {fin : Int} {i n d : Nat} (h : i < ts.length) (hk : (M.St.mk (ts.drop i) fin n d).now.k = 1) :
    ts[i].k = 1 ∧ M.may1 ts[i] = true ∧ (M.St.mk (ts.drop i) fin n d).now.t = ts[i].t ∧ ts[i].t.size ≤ 9 ∧ ∀ j (hj : j < ts[i].t.size), 48 ≤ (ts[i].t[j]).toNat ∧ (ts[i].t[j]).toNat ≤ 57 := by
  have hn := now_num _ hk
  rw [now_at _ _ _ _ _ h] at hk hn ⊢
  by_cases hm : M.may1 ts[i] = true
  · rw [if_pos hm] at hk hn ⊢
    have hb := hn.1
    simp only [M.numB, Bool.and_eq_true, Bool.not_eq_true', beq_iff_eq, decide_eq_true_eq] at hb
    have hall := all_of_ext _ _ hb.2.2
    refine ⟨hk, hm, rfl, by have := hb.2.1; rw [len_list] at this; exact this, fun j hj => ?_⟩
    have := List.all_eq_true.1 hall (ts[i].t[j]) (by rw [← at_list _ _ hj]; exact List.getElem_mem _)
    exact (dig_val _ this).2
  · rw [if_neg hm] at hk; simp at hk
theorem not_num {ts : List M.Tok} {fin : Int} {i n d : Nat} (h : i < ts.length) (hk : ¬ (M.St.mk (ts.drop i) fin n d).now.k = 1) : ¬ ts[i].k = 1 ∨ (ts[i].k = 1 ∧ M.may1 ts[i] = false) := by
  rw [now_at _ _ _ _ _ h] at hk
  by_cases hm : M.may1 ts[i] = true
  · rw [if_pos hm] at hk; exact .inl hk
  · by_cases h1 : ts[i].k = 1
    · exact .inr ⟨h1, by simpa using hm⟩
    · exact .inl h1

set_option maxRecDepth 4000 in
set_option maxHeartbeats 3200000 in
theorem rop_amp (a : Option Addr) (cap : Nat) (ts : List M.Tok) (fin : Int) (d : Nat) (r : RSt) (i n : Nat) (c y : Int) (w : World) (h : RS ts fin d r i n c y) (hT : TokAt w (.slice a ts.length cap) ts) (k0 : isR r M.kNull = false) (k1 : isR r M.kTrue = false) (k2 : isR r M.kFalse = false) (k3 : isR r (M.ch 38) = true) :
    Calls Tryz.prog 56 #[.agg #[.slice a ts.length cap, .int .i64 i, .int .i64 fin, .int .i64 n, .int .i64 c, .int .i64 y]] w fun e w' => Below w.heap.size w w' ∧ ∃ (i' : Nat) (c' y' : Int) (o : M.Opd), e = .returned (.tuple #[.agg #[.slice a ts.length cap, .int .i64 i', .int .i64 fin, .int .i64 n, .int .i64 c', .int .i64 y'], .agg #[.int .i64 o.k, .int .i64 o.n, .string o.s]]) ∧ RS ts fin d (stR (operandR r)) i' n c' y' ∧ ∀ S' x, operandR r = .ok (S', x) → o = x := by
  have hlen := hT.1
  have hi := h.lt
  obtain ⟨S, rfl⟩ := isR_ok k3
  obtain ⟨rfl, rfl, hlt, hS⟩ := h.step (M.at_ne (show S.at (M.ch 38) = true from k3) (by decide))
  have HO := hid (opR_amp (show S.at M.kNull = false from k0) (show S.at M.kTrue = false from k1) (show S.at M.kFalse = false from k2) (show S.at (M.ch 38) = true from k3))
  go_enter Tryz.func56, Tryz.ntmps56
  go_wp2_with fail
  refine (ris_any _ _ _ _ _ _ _ _ _ _ _ h (hT.keep (below_three _ _ _)) M.kNull (by decide) (by decide)).mono ?_
  rintro e w1 ⟨rfl, hb⟩
  obtain ⟨hP1, hQ1, hO1, hbw1⟩ := three_new hb
  obtain ⟨x0, x1, x2, x3, x4, x5, xf⟩ := cells6 hP1
  rw [k0]
  go_wp2_with fail
  refine (ris_any _ _ _ _ _ _ _ _ _ _ _ h (hT.keep hbw1) M.kTrue (by decide) (by decide)).mono ?_
  rintro e w2 ⟨rfl, hb2⟩
  have hbw2 := hbw1.trans (hb2.mono hbw1.size)
  have hP2 := kept hb2 hP1
  have hQ2 := kept hb2 hQ1
  have hO2 := kept hb2 hO1
  clear x0 x1 x2 x3 x4 x5 xf
  obtain ⟨x0, x1, x2, x3, x4, x5, xf⟩ := cells6 hP2
  rw [k1]
  go_wp2_with fail
  refine (ris_any _ _ _ _ _ _ _ _ _ _ _ h (hT.keep hbw2) M.kFalse (by decide) (by decide)).mono ?_
  rintro e w3 ⟨rfl, hb3⟩
  have hbw3 := hbw2.trans (hb3.mono hbw2.size)
  have hP3 := kept hb3 hP2
  have hQ3 := kept hb3 hQ2
  have hO3 := kept hb3 hO2
  clear x0 x1 x2 x3 x4 x5 xf
  obtain ⟨x0, x1, x2, x3, x4, x5, xf⟩ := cells6 hP3
  rw [k2]
  go_wp2_with fail
  refine (ris_any _ _ _ _ _ _ _ _ _ _ _ h (hT.keep hbw3) (M.ch 38) (by decide) (by decide)).mono ?_
  rintro e w4 ⟨rfl, hb4⟩
  have hbw4 := hbw3.trans (hb4.mono hbw3.size)
  have hP4 := kept hb4 hP3
  have hQ4 := kept hb4 hQ3
  have hO4 := kept hb4 hO3
  clear x0 x1 x2 x3 x4 x5 xf
  obtain ⟨x0, x1, x2, x3, x4, x5, xf⟩ := cells6 hP4
  rw [k3]
  go_wp2_with fail
  have hbs : Below w.heap.size w (w4.setCell ⟨w.heap.size, 1, none⟩ (.int .i64 ((i : Int) + 1))) := Below.setCell hbw4 (by simp) _
  rw [show ((i : Int) + 1) = ((i + 1 : Nat) : Int) by omega] at hbs ⊢
  refine (rname_any _ _ _ _ _ _ _ _ _ _ _ hS (hT.keep hbs)).mono ?_
  rintro e w5 ⟨hb5, i', c', y', s, rfl, hR, hs⟩
  have hbw5 := (hbs).trans (hb5.mono (hbs).size)
  have hQ5 := kept hb5 (kset hQ4 (by simp) _)
  have hO5 := kept hb5 (kset hO4 (by simp) _)
  obtain ⟨y0, y1, y2, y3, y4, y5, yf⟩ := cells6 hQ5
  obtain ⟨z0, z1, z2, zf⟩ := tcells3 hO5
  have hz := hlt_ hO5
  have hz1 : w.heap.size + 1 < w5.heap.size := by omega
  have hz2 : w.heap.size < w5.heap.size := by omega
  clear x0 x1 x2 x3 x4 x5 xf
  go_wp2_with fail
  refine bodyPost_ret (v := .tuple #[.agg #[.slice a ts.length cap, .int .i64 i', .int .i64 fin, .int .i64 n, .int .i64 c', .int .i64 y'], .agg #[.int .i64 3, .int .i64 0, .string s]]) (by simp [results, Tryz.results56, go_sem, y0, y1, y2, y3, y4, y5, z0, z1, z2, hz, hz1, hz2]) rfl ⟨?_, i', c', y', ⟨3, 0, s⟩, rfl, by rw [HO.out.1]; exact hR, fun S' x e => by obtain ⟨nm, e1, rfl⟩ := HO.out.2 S' x e; rw [hs _ _ e1]⟩
  repeat (first | with_reducible exact hbw5 | with_reducible refine Below.setCell ?_ (by first | (simp; done) | (simp; omega)) _ | with_reducible refine Below.drew ?_ | with_reducible refine Below.alloc ?_ (by first | (simp; done) | (simp; omega)) _)
set_option maxRecDepth 4000 in
set_option maxHeartbeats 3200000 in
theorem rop_var (a : Option Addr) (cap : Nat) (ts : List M.Tok) (fin : Int) (d : Nat) (r : RSt) (i n : Nat) (c y : Int) (w : World) (h : RS ts fin d r i n c y) (hT : TokAt w (.slice a ts.length cap) ts) (k0 : isR r M.kNull = false) (k1 : isR r M.kTrue = false) (k2 : isR r M.kFalse = false) (k3 : isR r (M.ch 38) = false) (k4 : ∀ S, r = .ok S → ¬ S.now.k = 1) :
    Calls Tryz.prog 56 #[.agg #[.slice a ts.length cap, .int .i64 i, .int .i64 fin, .int .i64 n, .int .i64 c, .int .i64 y]] w fun e w' => Below w.heap.size w w' ∧ ∃ (i' : Nat) (c' y' : Int) (o : M.Opd), e = .returned (.tuple #[.agg #[.slice a ts.length cap, .int .i64 i', .int .i64 fin, .int .i64 n, .int .i64 c', .int .i64 y'], .agg #[.int .i64 o.k, .int .i64 o.n, .string o.s]]) ∧ RS ts fin d (stR (operandR r)) i' n c' y' ∧ ∀ S' x, operandR r = .ok (S', x) → o = x := by
  have hlen := hT.1
  have hi := h.lt
  have HO := hid (opR_var k0 k1 k2 k3 k4)
  go_enter Tryz.func56, Tryz.ntmps56
  go_wp2_with fail
  refine (ris_any _ _ _ _ _ _ _ _ _ _ _ h (hT.keep (below_three _ _ _)) M.kNull (by decide) (by decide)).mono ?_
  rintro e w1 ⟨rfl, hb⟩
  obtain ⟨hP1, hQ1, hO1, hbw1⟩ := three_new hb
  obtain ⟨x0, x1, x2, x3, x4, x5, xf⟩ := cells6 hP1
  rw [k0]
  go_wp2_with fail
  refine (ris_any _ _ _ _ _ _ _ _ _ _ _ h (hT.keep hbw1) M.kTrue (by decide) (by decide)).mono ?_
  rintro e w2 ⟨rfl, hb2⟩
  have hbw2 := hbw1.trans (hb2.mono hbw1.size)
  have hP2 := kept hb2 hP1
  have hQ2 := kept hb2 hQ1
  have hO2 := kept hb2 hO1
  clear x0 x1 x2 x3 x4 x5 xf
  obtain ⟨x0, x1, x2, x3, x4, x5, xf⟩ := cells6 hP2
  rw [k1]
  go_wp2_with fail
  refine (ris_any _ _ _ _ _ _ _ _ _ _ _ h (hT.keep hbw2) M.kFalse (by decide) (by decide)).mono ?_
  rintro e w3 ⟨rfl, hb3⟩
  have hbw3 := hbw2.trans (hb3.mono hbw2.size)
  have hP3 := kept hb3 hP2
  have hQ3 := kept hb3 hQ2
  have hO3 := kept hb3 hO2
  clear x0 x1 x2 x3 x4 x5 xf
  obtain ⟨x0, x1, x2, x3, x4, x5, xf⟩ := cells6 hP3
  rw [k2]
  go_wp2_with fail
  refine (ris_any _ _ _ _ _ _ _ _ _ _ _ h (hT.keep hbw3) (M.ch 38) (by decide) (by decide)).mono ?_
  rintro e w4 ⟨rfl, hb4⟩
  have hbw4 := hbw3.trans (hb4.mono hbw3.size)
  have hP4 := kept hb4 hP3
  have hQ4 := kept hb4 hQ3
  have hO4 := kept hb4 hO3
  clear x0 x1 x2 x3 x4 x5 xf
  obtain ⟨x0, x1, x2, x3, x4, x5, xf⟩ := cells6 hP4
  rw [k3]
  go_wp2_with fail
  refine (rok_any _ _ _ _ _ _ _ _ _ _ _ _ h).mono ?_
  rintro e w5 ⟨rfl, hb5⟩
  have hbw5 := hbw4.trans (hb5.mono hbw4.size)
  have hP5 := kept hb5 hP4
  have hQ5 := kept hb5 hQ4
  have hO5 := kept hb5 hO4
  clear x0 x1 x2 x3 x4 x5 xf
  obtain ⟨x0, x1, x2, x3, x4, x5, xf⟩ := cells6 hP5
  cases hr : r with
  | error f =>
    subst hr
    simp only [okR]
    go_wp2_with fail
    refine (rname_any _ _ _ _ _ _ _ _ _ _ _ h (hT.keep hbw5)).mono ?_
    rintro e w6 ⟨hb6, i', c', y', s, rfl, hR, hs⟩
    have hbw6 := (hbw5).trans (hb6.mono (hbw5).size)
    have hQ6 := kept hb6 hQ5
    have hO6 := kept hb6 hO5
    obtain ⟨y0, y1, y2, y3, y4, y5, yf⟩ := cells6 hQ6
    obtain ⟨z0, z1, z2, zf⟩ := tcells3 hO6
    have hz := hlt_ hO6
    have hz1 : w.heap.size + 1 < w6.heap.size := by omega
    have hz2 : w.heap.size < w6.heap.size := by omega
    clear x0 x1 x2 x3 x4 x5 xf
    go_wp2_with fail
    refine bodyPost_ret (v := .tuple #[.agg #[.slice a ts.length cap, .int .i64 i', .int .i64 fin, .int .i64 n, .int .i64 c', .int .i64 y'], .agg #[.int .i64 4, .int .i64 0, .string s]]) (by simp [results, Tryz.results56, go_sem, y0, y1, y2, y3, y4, y5, z0, z1, z2, hz, hz1, hz2]) rfl ⟨?_, i', c', y', ⟨4, 0, s⟩, rfl, by rw [HO.out.1]; exact hR, fun S' x e => by obtain ⟨nm, e1, rfl⟩ := HO.out.2 S' x e; rw [hs _ _ e1]⟩
    repeat (first | with_reducible exact hbw6 | with_reducible refine Below.setCell ?_ (by first | (simp; done) | (simp; omega)) _ | with_reducible refine Below.drew ?_ | with_reducible refine Below.alloc ?_ (by first | (simp; done) | (simp; omega)) _)
  | ok S =>
    subst hr
    obtain ⟨rfl, rfl, rfl⟩ := h.good S rfl
    have k5 := k4 _ rfl
    simp only [okR]
    by_cases hlt : i < ts.length
    · obtain ⟨u1, u2, av, cv, eq, u3⟩ := hT
      simp only [Value.slice.injEq] at eq
      obtain ⟨rfl, _, rfl⟩ := eq
      rcases u3 with u3 | ⟨b, o, rfl, hbl, hcell⟩
      · rw [u3] at hlt; simp at hlt
      have hT : TokAt w (.slice (some ⟨b, o, none⟩) ts.length cap) ts := ⟨u1, u2, _, _, rfl, .inr ⟨b, o, rfl, hbl, hcell⟩⟩
      obtain ⟨p1, p2, p3⟩ := hcell i hlt
      have hsz := u2 _ (List.getElem_mem hlt)
      have hii : (i : Int) < (ts.length : Int) := by omega
      have q1 := (hbw5.cell (p := ⟨b, o + i * 3, none⟩) hbl).trans p1
      have q2 := (hbw5.cell (p := ⟨b, o + i * 3 + 1, none⟩) hbl).trans p2
      have q3 := (hbw5.cell (p := ⟨b, o + i * 3 + 2, none⟩) hbl).trans p3
      clear hcell u2 p1 p2 p3
      rcases not_num hlt k5 with hk | ⟨hk, hm⟩
      · have hkb : (ts[i].k == 1) = false := by simpa using hk
        clear q2 q3
        go_wp2_with fail
        refine (rname_any _ _ _ _ _ _ _ _ _ _ _ h (hT.keep hbw5)).mono ?_
        rintro e w6 ⟨hb6, i', c', y', s, rfl, hR, hs⟩
        have hbw6 := (hbw5).trans (hb6.mono (hbw5).size)
        have hQ6 := kept hb6 hQ5
        have hO6 := kept hb6 hO5
        obtain ⟨y0, y1, y2, y3, y4, y5, yf⟩ := cells6 hQ6
        obtain ⟨z0, z1, z2, zf⟩ := tcells3 hO6
        have hz := hlt_ hO6
        have hz1 : w.heap.size + 1 < w6.heap.size := by omega
        have hz2 : w.heap.size < w6.heap.size := by omega
        clear x0 x1 x2 x3 x4 x5 xf
        go_wp2_with fail
        refine bodyPost_ret (v := .tuple #[.agg #[.slice (some ⟨b, o, none⟩) ts.length cap, .int .i64 i', .int .i64 fin, .int .i64 n, .int .i64 c', .int .i64 y'], .agg #[.int .i64 4, .int .i64 0, .string s]]) (by simp [results, Tryz.results56, go_sem, y0, y1, y2, y3, y4, y5, z0, z1, z2, hz, hz1, hz2]) rfl ⟨?_, i', c', y', ⟨4, 0, s⟩, rfl, by rw [HO.out.1]; exact hR, fun S' x e => by obtain ⟨nm, e1, rfl⟩ := HO.out.2 S' x e; rw [hs _ _ e1]⟩
        repeat (first | with_reducible exact hbw6 | with_reducible refine Below.setCell ?_ (by first | (simp; done) | (simp; omega)) _ | with_reducible refine Below.drew ?_ | with_reducible refine Below.alloc ?_ (by first | (simp; done) | (simp; omega)) _)
      · have hkb : (ts[i].k == 1) = true := by simpa using hk
        have RA : ∀ W, Calls Tryz.prog 55 #[.agg #[.int .i64 ts[i].k, .string ts[i].t, .int .i64 ts[i].p]] W fun e w' => e = .returned (.bool (M.may1 ts[i])) ∧ Below W.heap.size W w' := fun W => right_any ts[i] W hsz
        clear hk
        go_wp2_with fail
        refine (RA _).mono ?_
        rintro e w6 ⟨rfl, hb6⟩
        have hbw6 := hbw5.trans (hb6.mono hbw5.size)
        have hP6 := kept hb6 hP5
        have hQ6 := kept hb6 hQ5
        have hO6 := kept hb6 hO5
        clear x0 x1 x2 x3 x4 x5 xf q1 q2 q3
        obtain ⟨x0, x1, x2, x3, x4, x5, xf⟩ := cells6 hP6
        rw [hm]
        go_wp2_with fail
        refine (rname_any _ _ _ _ _ _ _ _ _ _ _ h (hT.keep hbw6)).mono ?_
        rintro e w7 ⟨hb7, i', c', y', s, rfl, hR, hs⟩
        have hbw7 := (hbw6).trans (hb7.mono (hbw6).size)
        have hQ7 := kept hb7 hQ6
        have hO7 := kept hb7 hO6
        obtain ⟨y0, y1, y2, y3, y4, y5, yf⟩ := cells6 hQ7
        obtain ⟨z0, z1, z2, zf⟩ := tcells3 hO7
        have hz := hlt_ hO7
        have hz1 : w.heap.size + 1 < w7.heap.size := by omega
        have hz2 : w.heap.size < w7.heap.size := by omega
        clear x0 x1 x2 x3 x4 x5 xf
        go_wp2_with fail
        refine bodyPost_ret (v := .tuple #[.agg #[.slice (some ⟨b, o, none⟩) ts.length cap, .int .i64 i', .int .i64 fin, .int .i64 n, .int .i64 c', .int .i64 y'], .agg #[.int .i64 4, .int .i64 0, .string s]]) (by simp [results, Tryz.results56, go_sem, y0, y1, y2, y3, y4, y5, z0, z1, z2, hz, hz1, hz2]) rfl ⟨?_, i', c', y', ⟨4, 0, s⟩, rfl, by rw [HO.out.1]; exact hR, fun S' x e => by obtain ⟨nm, e1, rfl⟩ := HO.out.2 S' x e; rw [hs _ _ e1]⟩
        repeat (first | with_reducible exact hbw7 | with_reducible refine Below.setCell ?_ (by first | (simp; done) | (simp; omega)) _ | with_reducible refine Below.drew ?_ | with_reducible refine Below.alloc ?_ (by first | (simp; done) | (simp; omega)) _)
    · have hii : ¬ (i : Int) < (ts.length : Int) := by omega
      go_wp2_with fail
      refine (rname_any _ _ _ _ _ _ _ _ _ _ _ h (hT.keep hbw5)).mono ?_
      rintro e w6 ⟨hb6, i', c', y', s, rfl, hR, hs⟩
      have hbw6 := (hbw5).trans (hb6.mono (hbw5).size)
      have hQ6 := kept hb6 hQ5
      have hO6 := kept hb6 hO5
      obtain ⟨y0, y1, y2, y3, y4, y5, yf⟩ := cells6 hQ6
      obtain ⟨z0, z1, z2, zf⟩ := tcells3 hO6
      have hz := hlt_ hO6
      have hz1 : w.heap.size + 1 < w6.heap.size := by omega
      have hz2 : w.heap.size < w6.heap.size := by omega
      clear x0 x1 x2 x3 x4 x5 xf
      go_wp2_with fail
      refine bodyPost_ret (v := .tuple #[.agg #[.slice a ts.length cap, .int .i64 i', .int .i64 fin, .int .i64 n, .int .i64 c', .int .i64 y'], .agg #[.int .i64 4, .int .i64 0, .string s]]) (by simp [results, Tryz.results56, go_sem, y0, y1, y2, y3, y4, y5, z0, z1, z2, hz, hz1, hz2]) rfl ⟨?_, i', c', y', ⟨4, 0, s⟩, rfl, by rw [HO.out.1]; exact hR, fun S' x e => by obtain ⟨nm, e1, rfl⟩ := HO.out.2 S' x e; rw [hs _ _ e1]⟩
      repeat (first | with_reducible exact hbw6 | with_reducible refine Below.setCell ?_ (by first | (simp; done) | (simp; omega)) _ | with_reducible refine Below.drew ?_ | with_reducible refine Below.alloc ?_ (by first | (simp; done) | (simp; omega)) _)
set_option maxRecDepth 4000 in
set_option maxHeartbeats 3200000 in
theorem rop_num (a : Option Addr) (cap : Nat) (ts : List M.Tok) (fin : Int) (d : Nat) (r : RSt) (i n : Nat) (c y : Int) (w : World) (h : RS ts fin d r i n c y) (hT : TokAt w (.slice a ts.length cap) ts) (k0 : isR r M.kNull = false) (k1 : isR r M.kTrue = false) (k2 : isR r M.kFalse = false) (k3 : isR r (M.ch 38) = false) (S : M.St) (k4 : r = .ok S) (k5 : S.now.k = 1) :
    Calls Tryz.prog 56 #[.agg #[.slice a ts.length cap, .int .i64 i, .int .i64 fin, .int .i64 n, .int .i64 c, .int .i64 y]] w fun e w' => Below w.heap.size w w' ∧ ∃ (i' : Nat) (c' y' : Int) (o : M.Opd), e = .returned (.tuple #[.agg #[.slice a ts.length cap, .int .i64 i', .int .i64 fin, .int .i64 n, .int .i64 c', .int .i64 y'], .agg #[.int .i64 o.k, .int .i64 o.n, .string o.s]]) ∧ RS ts fin d (stR (operandR r)) i' n c' y' ∧ ∀ S' x, operandR r = .ok (S', x) → o = x := by
  have hlen := hT.1
  have hi := h.lt
  subst k4
  obtain ⟨rfl, rfl, hlt, hS⟩ := h.step (M.num_ne k5)
  have HS := hid hS
  clear hS
  have HO := hid (opR_num (show S.at M.kNull = false from k0) (show S.at M.kTrue = false from k1) (show S.at M.kFalse = false from k2) (show S.at (M.ch 38) = false from k3) k5)
  obtain ⟨_, _, rfl⟩ := h.good S rfl
  obtain ⟨t1, t2, t3, t4, t5⟩ := num_tok hlt k5
  rw [t3] at HO
  obtain ⟨u1, u2, av, cv, eq, u3⟩ := hT
  simp only [Value.slice.injEq] at eq
  obtain ⟨rfl, _, rfl⟩ := eq
  rcases u3 with u3 | ⟨b, o, rfl, hbl, hcell⟩
  · rw [u3] at hlt; simp at hlt
  have hT : TokAt w (.slice (some ⟨b, o, none⟩) ts.length cap) ts := ⟨u1, u2, _, _, rfl, .inr ⟨b, o, rfl, hbl, hcell⟩⟩
  obtain ⟨p1, p2, p3⟩ := hcell i hlt
  have hsz := u2 _ (List.getElem_mem hlt)
  have hii : (i : Int) < (ts.length : Int) := by omega
  have RA : ∀ W, Calls Tryz.prog 55 #[.agg #[.int .i64 ts[i].k, .string ts[i].t, .int .i64 ts[i].p]] W fun e w' => e = .returned (.bool (M.may1 ts[i])) ∧ Below W.heap.size W w' := fun W => right_any ts[i] W hsz
  have hnv := numV_le ts[i].t.data.toList (fun j hj => t5 j (by simpa using hj))
  have hkb : (ts[i].k == 1) = true := by simpa using t1
  clear hcell u2 t1 t3
  go_enter Tryz.func56, Tryz.ntmps56
  go_wp2_with fail
  refine (ris_any _ _ _ _ _ _ _ _ _ _ _ h (hT.keep (below_three _ _ _)) M.kNull (by decide) (by decide)).mono ?_
  rintro e w1 ⟨rfl, hb⟩
  obtain ⟨hP1, hQ1, hO1, hbw1⟩ := three_new hb
  obtain ⟨x0, x1, x2, x3, x4, x5, xf⟩ := cells6 hP1
  rw [k0]
  go_wp2_with fail
  refine (ris_any _ _ _ _ _ _ _ _ _ _ _ h (hT.keep hbw1) M.kTrue (by decide) (by decide)).mono ?_
  rintro e w2 ⟨rfl, hb2⟩
  have hbw2 := hbw1.trans (hb2.mono hbw1.size)
  have hP2 := kept hb2 hP1
  have hQ2 := kept hb2 hQ1
  have hO2 := kept hb2 hO1
  clear x0 x1 x2 x3 x4 x5 xf
  obtain ⟨x0, x1, x2, x3, x4, x5, xf⟩ := cells6 hP2
  rw [k1]
  go_wp2_with fail
  refine (ris_any _ _ _ _ _ _ _ _ _ _ _ h (hT.keep hbw2) M.kFalse (by decide) (by decide)).mono ?_
  rintro e w3 ⟨rfl, hb3⟩
  have hbw3 := hbw2.trans (hb3.mono hbw2.size)
  have hP3 := kept hb3 hP2
  have hQ3 := kept hb3 hQ2
  have hO3 := kept hb3 hO2
  clear x0 x1 x2 x3 x4 x5 xf
  obtain ⟨x0, x1, x2, x3, x4, x5, xf⟩ := cells6 hP3
  rw [k2]
  go_wp2_with fail
  refine (ris_any _ _ _ _ _ _ _ _ _ _ _ h (hT.keep hbw3) (M.ch 38) (by decide) (by decide)).mono ?_
  rintro e w4 ⟨rfl, hb4⟩
  have hbw4 := hbw3.trans (hb4.mono hbw3.size)
  have hP4 := kept hb4 hP3
  have hQ4 := kept hb4 hQ3
  have hO4 := kept hb4 hO3
  clear x0 x1 x2 x3 x4 x5 xf
  obtain ⟨x0, x1, x2, x3, x4, x5, xf⟩ := cells6 hP4
  rw [k3]
  go_wp2_with fail
  refine (rok_any _ _ _ _ _ _ _ _ _ _ _ _ h).mono ?_
  rintro e w5 ⟨rfl, hb5⟩
  have hbw5 := hbw4.trans (hb5.mono hbw4.size)
  have hP5 := kept hb5 hP4
  have hQ5 := kept hb5 hQ4
  have hO5 := kept hb5 hO4
  clear x0 x1 x2 x3 x4 x5 xf
  obtain ⟨x0, x1, x2, x3, x4, x5, xf⟩ := cells6 hP5
  have q1 := (hbw5.cell (p := ⟨b, o + i * 3, none⟩) hbl).trans p1
  have q2 := (hbw5.cell (p := ⟨b, o + i * 3 + 1, none⟩) hbl).trans p2
  have q3 := (hbw5.cell (p := ⟨b, o + i * 3 + 2, none⟩) hbl).trans p3
  simp only [okR]
  go_wp2_with fail
  refine (RA _).mono ?_
  rintro e w6 ⟨rfl, hb6⟩
  have hbw6 := hbw5.trans (hb6.mono hbw5.size)
  have hP6 := kept hb6 hP5
  have hQ6 := kept hb6 hQ5
  have hO6 := kept hb6 hO5
  clear x0 x1 x2 x3 x4 x5 xf q1 q2 q3
  obtain ⟨x0, x1, x2, x3, x4, x5, xf⟩ := cells6 hP6
  obtain ⟨y0, y1, y2, y3, y4, y5, yf⟩ := cells6 hQ6
  obtain ⟨z0, z1, z2, zf⟩ := tcells3 hO6
  have hz := hlt_ hO6
  have hz1 : w.heap.size + 1 < w6.heap.size := by omega
  have hz2 : w.heap.size < w6.heap.size := by omega
  have q2 := (hbw6.cell (p := ⟨b, o + i * 3 + 1, none⟩) hbl).trans p2
  rw [t2]
  go_wp2_with fail
  go_loop [8, 10] (fun v j => ∃ k : Nat, k ≤ ts[i].t.size ∧ j = .int .i64 k ∧ v = .int .i64 (M.numV (ts[i].t.data.toList.take k))) (fun _ j => ts[i].t.size - (intOf j).toNat)
  case atStart => exact ⟨0, Nat.zero_le _, rfl, rfl⟩
  case round =>
    obtain ⟨k, hk, rfl, rfl⟩ := hrel
    have hv := hnv k (by rw [len_list]; exact hk)
    have hpw : (10 : Int) ^ k ≤ 1000000000 := by
      have : k ≤ 9 := by omega
      have h9 : k = 0 ∨ k = 1 ∨ k = 2 ∨ k = 3 ∨ k = 4 ∨ k = 5 ∨ k = 6 ∨ k = 7 ∨ k = 8 ∨ k = 9 := by omega
      rcases h9 with rfl | rfl | rfl | rfl | rfl | rfl | rfl | rfl | rfl | rfl <;> decide
    have hv0 := hv.1
    have hv1 : M.numV (ts[i].t.data.toList.take k) < 1000000000 := by omega
    clear hv hpw
    by_cases hkl : k < ts[i].t.size
    · obtain ⟨c1, c2⟩ := t5 k hkl
      have c1' : (48 : Int) ≤ (ts[i].t[k].toNat : Int) := by omega
      have c2' : (ts[i].t[k].toNat : Int) ≤ 57 := by omega
      have HT : Hid (M.numV (ts[i].t.data.toList.take (k + 1)) = 10 * M.numV (ts[i].t.data.toList.take k) + ((ts[i].t[k].toNat : Int) - 48)) := by
        unfold Hid
        rw [List.take_succ_eq_append_getElem (by simpa using hkl), numV_snoc]; rfl
      have hki : (k : Int) < (ts[i].t.size : Int) := by omega
      clear hnv
      go_wp2_with fail
      refine ⟨⟨k + 1, by omega, by go_num, by rw [HT.out]⟩, by simp [intOf]; omega⟩
    · have HV : Hid (M.numV (ts[i].t.data.toList.take k) = M.numV ts[i].t.data.toList) := by unfold Hid; rw [List.take_of_length_le (by rw [len_list]; omega)]
      have hki : ¬ (k : Int) < (ts[i].t.size : Int) := by omega
      clear hnv
      go_wp2_with fail
      refine bodyPost_ret (v := .tuple #[.agg #[.slice (some ⟨b, o, none⟩) ts.length cap, .int .i64 ((i + 1 : Nat) : Int), .int .i64 fin, .int .i64 n, .int .i64 0, .int .i64 0], .agg #[.int .i64 2, .int .i64 (M.numV (ts[i].t.data.toList.take k)), .string M.em]]) (by simp [results, Tryz.results56, go_sem, y0, y1, y2, y3, y4, y5, z0, z1, z2, hz, hz1, hz2, M.em]) rfl ⟨?_, i + 1, 0, 0, ⟨2, M.numV (ts[i].t.data.toList.take k), M.em⟩, rfl, by rw [HO.out]; exact HS.out, fun S' x e => by rw [HO.out] at e; cases e; rw [HV.out]⟩
      repeat (first | with_reducible exact hbw6 | with_reducible refine Below.setCell ?_ (by first | (simp; done) | (simp; omega)) _ | with_reducible refine Below.drew ?_ | with_reducible refine Below.alloc ?_ (by first | (simp; done) | (simp; omega)) _)

theorem roperand_any (a : Option Addr) (cap : Nat) (ts : List M.Tok) (fin : Int) (d : Nat) (r : RSt) (i n : Nat) (c y : Int) (w : World) (h : RS ts fin d r i n c y) (hT : TokAt w (.slice a ts.length cap) ts) :
    Calls Tryz.prog 56 #[.agg #[.slice a ts.length cap, .int .i64 i, .int .i64 fin, .int .i64 n, .int .i64 c, .int .i64 y]] w fun e w' => Below w.heap.size w w' ∧ ∃ (i' : Nat) (c' y' : Int) (o : M.Opd), e = .returned (.tuple #[.agg #[.slice a ts.length cap, .int .i64 i', .int .i64 fin, .int .i64 n, .int .i64 c', .int .i64 y'], .agg #[.int .i64 o.k, .int .i64 o.n, .string o.s]]) ∧ RS ts fin d (stR (operandR r)) i' n c' y' ∧ ∀ S' x, operandR r = .ok (S', x) → o = x := by
  cases k0 : isR r M.kNull
  · cases k1 : isR r M.kTrue
    · cases k2 : isR r M.kFalse
      · cases k3 : isR r (M.ch 38)
        · by_cases k4 : ∃ S, r = .ok S ∧ S.now.k = 1
          · obtain ⟨S, e, hk⟩ := k4
            exact rop_num _ _ _ _ _ _ _ _ _ _ _ h hT k0 k1 k2 k3 S e hk
          · exact rop_var _ _ _ _ _ _ _ _ _ _ _ h hT k0 k1 k2 k3 fun S e hk => k4 ⟨S, e, hk⟩
        · exact rop_amp _ _ _ _ _ _ _ _ _ _ _ h hT k0 k1 k2 k3
      · obtain ⟨S, rfl⟩ := isR_ok k2
        exact rword_any _ _ _ _ _ _ _ _ _ _ _ h hT (.inr (.inr k2))
    · obtain ⟨S, rfl⟩ := isR_ok k1
      exact rword_any _ _ _ _ _ _ _ _ _ _ _ h hT (.inr (.inl k1))
  · obtain ⟨S, rfl⟩ := isR_ok k0
    exact rword_any _ _ _ _ _ _ _ _ _ _ _ h hT (.inl k0)
end Go.Proofs.YtkonkdhoakcmdaaGreatDoor
