/-
  The walks of a layer's block, by induction on its size. No conditions but that operands' numbers are some.
-/
import Derived.Test.YtkpmpnebmkeocaaGreatDoorY8
set_option linter.unusedVariables false
set_option linter.unusedSimpArgs false
namespace Go.Proofs.YtkpmpnebmkeocaaGreatDoor
open Go.RowKit

set_option maxRecDepth 8000 in
set_option maxHeartbeats 4000000 in
theorem lblock_step (B L n : Nat) (hB : ∀ m, m + 1 = n → BlkC B L m) : BlkC B L n := by
  intro w X s v t hn hrt h hv
  obtain ⟨cs, hsl, hrow⟩ := hv
  obtain ⟨hl, a1, cap1, rfl, _⟩ := id hsl
  have HQ : Hid (M.putsM s (M.laidBlk (M.laidTr t)) = M.putsM (M.putsM (M.putsM s [M.ch 123]) (M.laidTr t)) [M.ch 125]) := by
    unfold Hid
    rw [← M.putsM_app, ← M.putsM_app]; rfl
  go_enter Tryz.func64, Tryz.ntmps64
  go_wp2_with (go_at_call 43; refine stopHere ?_)
  refine stopAt ?_
  refine (put_new B w X L s [M.ch 123] h (by simp)).mono ?_
  rintro e w1 ⟨rfl, X1, l1, t1, x1⟩
  have kp1 := t1.keepHi (B := B) (fun k hk => (h.far k hk).1)
  go_wp2_with fail
  go_loopw [11] (fun i wr => ∃ (j : Nat) (t' : M.Tr) (s' : Option (List UInt8)) (X' : Nat → Prop), i = .int .i64 j ∧ j + t'.len = t.len ∧ t'.sz ≤ n ∧ RngT t' ∧ Lay B wr X' L s' ∧ (Turn X w wr ∧ ∀ k, X' k → X k ∨ w.heap.size ≤ k) ∧ SlAt wr (Hi B) (.slice a1 t.len cap1) t.len cs ∧ RowAt wr (Hi B) (cs.drop (j * 8)) t' ∧ Hid (M.putsM s (M.laidBlk (M.laidTr t)) = M.putsM (M.putsM s' (M.laidTr t')) [M.ch 125])) (fun i _ => t.len - (intOf i).toNat)
  case atStart => exact ⟨0, t, _, X1, rfl, Nat.zero_add _, hn, hrt, l1, ⟨t1, x1⟩, hsl.keep kp1, RowAt.keep kp1 (by simpa using hrow), HQ⟩
  case round =>
    obtain ⟨j, t', s', X', rfl, hj, hn', hrt', h', ⟨ht, hx⟩, sl', row', HP⟩ := hrel
    have hL := h'
    by_cases hjl : j < t.len
    · cases t' with
      | nil => simp only [M.Tr.len] at hj; omega
      | cons op x y p a pr th el nx =>
        obtain ⟨va1, vp1, vt1, ve1, ct1, ce1, rest1, e1, gA1, gP1, gT1, gE1, gN1⟩ := row'
        obtain ⟨ro, rth, rel, rnx⟩ := hrt'
        have g1 := sl'.2
        obtain ⟨a', cap', e', g1⟩ := g1
        simp only [Value.slice.injEq, true_and] at e'
        obtain ⟨rfl, rfl⟩ := e'
        rcases g1 with ⟨g1, _⟩ | ⟨b1, o1, rfl, hlt1, _, hc1⟩
        · omega
        obtain ⟨f0, f1, f2, f3, f4, f5, f6, f7, fr⟩ := eight hc1 e1
        have hA0 : StA B va1 vp1 vt1 ve1 a pr th el wr := ⟨gA1, gP1, ⟨ct1, gT1.1, gT1.2⟩, ⟨ce1, gE1.1, gE1.2⟩⟩
        obtain ⟨q1, m1, rfl⟩ := SlAt.form gA1
        obtain ⟨q3, m3, rfl⟩ := SlAt.form gP1
        obtain ⟨q5, m5, rfl⟩ := StmAt.form hA0.2.2.1
        obtain ⟨q7, m7, rfl⟩ := StmAt.form hA0.2.2.2
        obtain ⟨hX, hf, tb, v, mw, mo, bs, z1, z2, z3, z6, z7, z8, z9⟩ := h'
        obtain ⟨va, vc, rfl⟩ := own_form z8
        obtain ⟨d0, d1, d2, d3, df, dz⟩ := cells4 z1
        have hji : (j : Int) < (t.len : Int) := by omega
        have hb8 : Below wr.heap.size wr (wr.alloc (.cells #[.int .i64 op, .string x, .string y, .string p, .slice q1 a.length m1, .slice q3 pr.length m3, .slice q5 th.len m5, .slice q7 el.len m7] 32)) := (Below.refl _ _).alloc (Nat.le_refl _) _
        have hsz : th.sz + 1 ≤ n ∧ el.sz + 1 ≤ n ∧ nx.sz ≤ n := by simp only [M.Tr.sz] at hn'; omega
        have HJ : Hid (j + 1 + nx.len = t.len) := by unfold Hid; simp only [M.Tr.len] at hj; omega
        have HLT : Hid (M.laidTr (.cons op x y p a pr th el nx) = laidSt op x y p a pr th el ++ M.laidTr nx) := laidTr_cons ..
        cases s' with
        | none =>
          simp only [Option.isNone_none] at d1
          have HE : Hid (M.putsM s (M.laidBlk (M.laidTr t)) = none) := by unfold Hid; rw [HP.out, M.putsM_none, M.putsM_none]
          have l8 := hL.keep hb8
          have HB := hid hb8
          clear hb8 hj hn' z6
          go_wp2_with fail
          go_end0
          refine ⟨rfl, ?_⟩
          rw [HE.out]
          exact LayR.next ht hx (LayR.new HB.out (LayR.refl l8))
        | some b0 =>
          simp only [Option.isNone_some] at d1
          have l8 := hL.keep hb8
          have hA8 := StA.keep _ _ hA0 (Below.keepX hb8)
          have HB := hid hb8
          clear hb8 hj hn' z6
          go_wp2_with (go_at_call 26; refine stopHere ?_)
          refine stopAt ?_
          refine (lstmt_any B _ X' L (n - 1) _ op x y p _ _ _ _ a pr th el (hB (n - 1) (by omega)) (by omega) (by omega) rth rel l8 hA8 ro).mono ?_
          rintro e w2 ⟨rfl, X2, l2, t2, x2⟩
          have t02 : Turn X' wr w2 := (Turn.of_below HB.out).next (fun k hk => .inl hk) t2
          have x02 : ∀ k, X2 k → X' k ∨ wr.heap.size ≤ k := fun k hk => by
            rcases x2 k hk with h | h
            · exact .inl h
            · exact .inr (Nat.le_trans HB.out.size h)
          have kp2 := t02.keepHi (B := B) (fun k hk => (hf k hk).1)
          go_wp2_with fail
          refine ⟨⟨j + 1, nx, _, X2, by go_num, HJ.out, hsz.2.2, rnx, l2, ⟨ht.next hx t02, fun k hk => ?_⟩, sl'.keep kp2, ?_, ?_⟩, by simp [intOf]; omega⟩
          · rcases x02 k hk with h | h
            · exact hx k h
            · exact .inr (Nat.le_trans ht.size h)
          · rw [fr]; exact RowAt.keep kp2 gN1
          · unfold Hid
            rw [HP.out, HLT.out, M.putsM_app]
    · obtain rfl : t' = .nil := len_nil (by omega)
      have hjn : ¬ (j : Int) < (t.len : Int) := by omega
      go_wp2_with (go_at_call 43; refine stopHere ?_)
      refine stopAt ?_
      refine (put_new B wr X' L _ [M.ch 125] hL (by simp)).mono ?_
      rintro e w2 ⟨rfl, hr2⟩
      go_wp2_with fail
      go_end0
      exact ⟨rfl, by rw [HP.out]; exact LayR.next ht hx hr2⟩
theorem lblockC (B L : Nat) : ∀ n, BlkC B L n
  | 0 => lblock_step B L 0 (fun m hm => by omega)
  | n + 1 => lblock_step B L (n + 1) (fun m hm => by
    obtain rfl : m = n := by omega
    exact lblockC B L m)
end Go.Proofs.YtkpmpnebmkeocaaGreatDoor
