/-
  The walk of number.copiedBlock, by induction: statements as they were, in new memory. No conditions but a bound on how many there are.
-/
import Derived.Test.YtcjmjdgcehmigaaN7
set_option linter.unusedVariables false
set_option linter.unusedSimpArgs false
namespace Go.Proofs.Ytcjmjdgcehmigaa
open Go.RowKit

theorem set_at {α : Type} (l r : List α) (x y : α) (k : Nat) (h : k = l.length) : (l ++ x :: r).set k y = l ++ y :: r := by
  subst h; simp
theorem row_put8 {w : World} {base e g n cap j : Nat} {c1 rest : List Value} {c0 c1' c2 c3 c4 c5 c6 c7 : Value} (h : w.ownsRow base e 8 (.slice (some ⟨g, 0, none⟩) n cap) n (c1 ++ c0 :: c1' :: c2 :: c3 :: c4 :: c5 :: c6 :: c7 :: rest)) (hl : c1.length = j * 8) (d0 d1 d2 d3 d4 d5 d6 d7 : Value) :
    ((((((((w.setCell ⟨g, j * 8, none⟩ d0).setCell ⟨g, j * 8 + 1, none⟩ d1).setCell ⟨g, j * 8 + 2, none⟩ d2).setCell ⟨g, j * 8 + 3, none⟩ d3).setCell ⟨g, j * 8 + 4, none⟩ d4).setCell ⟨g, j * 8 + 5, none⟩ d5).setCell ⟨g, j * 8 + 6, none⟩ d6).setCell ⟨g, j * 8 + 7, none⟩ d7).ownsRow base e 8 (.slice (some ⟨g, 0, none⟩) n cap) n ((c1 ++ [d0, d1, d2, d3, d4, d5, d6, d7]) ++ rest) := by
  have s0 := (h.stored (j * 8) d0).1
  rw [set_at _ _ _ _ _ hl.symm] at s0
  have s1 := (s0.stored (j * 8 + 1) d1).1
  rw [show c1 ++ d0 :: c1' :: c2 :: c3 :: c4 :: c5 :: c6 :: c7 :: rest = (c1 ++ [d0]) ++ c1' :: c2 :: c3 :: c4 :: c5 :: c6 :: c7 :: rest by simp, set_at _ _ _ _ _ (by simp [hl])] at s1
  have s2 := (s1.stored (j * 8 + 2) d2).1
  rw [show (c1 ++ [d0]) ++ d1 :: c2 :: c3 :: c4 :: c5 :: c6 :: c7 :: rest = (c1 ++ [d0, d1]) ++ c2 :: c3 :: c4 :: c5 :: c6 :: c7 :: rest by simp, set_at _ _ _ _ _ (by simp [hl])] at s2
  have s3 := (s2.stored (j * 8 + 3) d3).1
  rw [show (c1 ++ [d0, d1]) ++ d2 :: c3 :: c4 :: c5 :: c6 :: c7 :: rest = (c1 ++ [d0, d1, d2]) ++ c3 :: c4 :: c5 :: c6 :: c7 :: rest by simp, set_at _ _ _ _ _ (by simp [hl])] at s3
  have s4 := (s3.stored (j * 8 + 4) d4).1
  rw [show (c1 ++ [d0, d1, d2]) ++ d3 :: c4 :: c5 :: c6 :: c7 :: rest = (c1 ++ [d0, d1, d2, d3]) ++ c4 :: c5 :: c6 :: c7 :: rest by simp, set_at _ _ _ _ _ (by simp [hl])] at s4
  have s5 := (s4.stored (j * 8 + 5) d5).1
  rw [show (c1 ++ [d0, d1, d2, d3]) ++ d4 :: c5 :: c6 :: c7 :: rest = (c1 ++ [d0, d1, d2, d3, d4]) ++ c5 :: c6 :: c7 :: rest by simp, set_at _ _ _ _ _ (by simp [hl])] at s5
  have s6 := (s5.stored (j * 8 + 6) d6).1
  rw [show (c1 ++ [d0, d1, d2, d3, d4]) ++ d5 :: c6 :: c7 :: rest = (c1 ++ [d0, d1, d2, d3, d4, d5]) ++ c6 :: c7 :: rest by simp, set_at _ _ _ _ _ (by simp [hl])] at s6
  have s7 := (s6.stored (j * 8 + 7) d7).1
  rw [show (c1 ++ [d0, d1, d2, d3, d4, d5]) ++ d6 :: c7 :: rest = (c1 ++ [d0, d1, d2, d3, d4, d5, d6]) ++ c7 :: rest by simp, set_at _ _ _ _ _ (by simp [hl])] at s7
  simpa using s7
theorem row_keep8 {w w' : World} {base e g k cap : Nat} {vs : List Value} (h : w.ownsRow base e 8 (.slice (some ⟨g, 0, none⟩) k cap) k vs) (hs : w'.heap[g]? = w.heap[g]?) : w'.ownsRow base e 8 (.slice (some ⟨g, 0, none⟩) k cap) k vs := by
  refine ⟨h.1, .inr ?_⟩
  rcases h.2 with ⟨h2, _⟩ | ⟨g', cap', cur, e1, hb, hh, hc⟩
  · cases h2
  · simp only [Value.slice.injEq, Option.some.injEq, Addr.mk.injEq, and_true, true_and] at e1
    obtain ⟨rfl, rfl⟩ := e1
    exact ⟨g, cap, cur, rfl, hb, hs.trans hh, hc⟩
theorem row_lt8 {w : World} {base e g k cap : Nat} {vs : List Value} (h : w.ownsRow base e 8 (.slice (some ⟨g, 0, none⟩) k cap) k vs) : base ≤ g ∧ g < w.heap.size := h.lt g rfl
theorem keep_alloc {X : Nat → Prop} {w : World} (o : Obj) : Keep X w (w.alloc o) := Below.keepX ((Below.refl _ _).alloc (Nat.le_refl _) o)
/-- eight cells of a row of one's own -/
theorem own8 {w : World} {base e g n cap j : Nat} {c1 rest : List Value} {c0 c1' c2 c3 c4 c5 c6 c7 : Value} (h : w.ownsRow base e 8 (.slice (some ⟨g, 0, none⟩) n cap) n (c1 ++ c0 :: c1' :: c2 :: c3 :: c4 :: c5 :: c6 :: c7 :: rest)) (hl : c1.length = j * 8) (hj : j < n) :
    w.cell? ⟨g, j * 8, none⟩ = some c0 ∧ w.cell? ⟨g, j * 8 + 1, none⟩ = some c1' ∧ w.cell? ⟨g, j * 8 + 2, none⟩ = some c2 ∧ w.cell? ⟨g, j * 8 + 3, none⟩ = some c3 ∧ w.cell? ⟨g, j * 8 + 4, none⟩ = some c4 ∧ w.cell? ⟨g, j * 8 + 5, none⟩ = some c5 ∧ w.cell? ⟨g, j * 8 + 6, none⟩ = some c6 ∧ w.cell? ⟨g, j * 8 + 7, none⟩ = some c7 := by
  have key : ∀ i, i < 8 → w.cell? ⟨g, j * 8 + i, none⟩ = (c0 :: c1' :: c2 :: c3 :: c4 :: c5 :: c6 :: c7 :: rest)[i]? := fun i hi => by
    rw [h.cellAt (j * 8 + i) (by omega), List.getElem?_append_right (by omega), hl, Nat.add_sub_cancel_left]
  exact ⟨key 0 (by omega), key 1 (by omega), key 2 (by omega), key 3 (by omega), key 4 (by omega), key 5 (by omega), key 6 (by omega), key 7 (by omega)⟩

set_option maxRecDepth 8000 in
set_option maxHeartbeats 4000000 in
theorem copBlock_any (k : Nat) (hC : CopC k) : CopC (k + 1) := by
  intro w v t hk hN hF hv
  obtain ⟨cs, hsl, hrow⟩ := hv
  have h1 := row_one hrow
  have hlen : t.len ≤ 4294967296 := Nat.le_trans (M.len_le_sz t) hN
  obtain ⟨va, vc, rfl⟩ := SlAt.form hsl
  go_enter Try.func31, Try.ntmps31
  go_wp2_with (go_at_call 32; refine (cloneStmt_any w _ t.len cs hsl h1.1 h1.2 hlen).mono ?_; rintro e w1 ⟨v1, rfl, ho1, hb1⟩; obtain ⟨q, m, rfl⟩ := own_form ho1)
  by_cases h0 : t.len = 0
  · obtain rfl := len_nil h0
    have e0 : cs = [] := hrow
    subst e0
    simp only [M.Tr.len] at ho1 ⊢
    go_loop [10] (fun i => i = .int .i64 0) (fun _ => 0)
    case atStart => rfl
    case round =>
      subst hrel
      go_wp2_with fail
      go_ret
      exact ⟨_, _, rfl, ⟨[], SlAt.of_owns ho1 (fun b h1 h2 => Nat.lt_irrefl _ (Nat.lt_of_lt_of_le h2 h1)) (by omega), rfl⟩, hb1⟩
  · obtain ⟨g, cap, e⟩ : ∃ g cap, Value.slice q t.len m = .slice (some ⟨g, 0, none⟩) t.len cap := by
      rcases ho1.2 with ⟨_, h2⟩ | ⟨g, cap, cur, e, _⟩
      · exact absurd h2 h0
      · exact ⟨g, cap, e⟩
    simp only [Value.slice.injEq, true_and] at e
    obtain ⟨rfl, rfl⟩ := e
    obtain ⟨hg0, hg1⟩ := row_lt8 ho1
    go_loopw [10] (fun i wr => ∃ (j : Nat) (c1 c2 : List Value) (t1 t2 : M.Tr), i = .int .i64 j ∧ t1.len = j ∧ j + t2.len = t.len ∧ Hid (t = t1.app t2) ∧ Below w.heap.size w wr ∧ g < wr.heap.size ∧ wr.ownsRow w.heap.size 36 8 (.slice (some ⟨g, 0, none⟩) t.len m) t.len (c1 ++ c2) ∧ RowAt wr (fun b => b < w.heap.size ∨ b = g) c1 t1 ∧ RowAt w NoX c2 t2) (fun i _ => t.len - (intOf i).toNat)
    case atStart => exact ⟨0, [], cs, .nil, t, rfl, rfl, by omega, rfl, hb1, hg1, by simpa using ho1, rfl, hrow⟩
    case round =>
      obtain ⟨j, c1, c2, t1, t2, rfl, hj1, hj2, HT, hB, hgl, ho, r1, r2⟩ := hrel
      clear ho1 hg1 hb1
      by_cases hjl : j < t.len
      · cases t2 with
        | nil => simp only [M.Tr.len] at hj2; omega
        | cons op x y p a pr th el nx =>
          obtain ⟨va1, vp1, vt1, ve1, ct1, ce1, rest1, e1, gA1, gP1, gT1, gE1, gN1⟩ := r2
          subst e1
          have hc1 : c1.length = j * 8 := by rw [(row_one r1).1, hj1]
          obtain ⟨f0, f1, f2, f3, f4, f5, f6, f7⟩ := own8 ho hc1 hjl
          have hfz := ho.frozenAt
          have gT1' : StmAt w NoX vt1 th := ⟨ct1, gT1.1, gT1.2⟩
          have gE1' : StmAt w NoX ve1 el := ⟨ce1, gE1.1, gE1.2⟩
          obtain ⟨q1, m1, rfl⟩ := SlAt.form gA1
          obtain ⟨q3, m3, rfl⟩ := SlAt.form gP1
          obtain ⟨q5, m5, rfl⟩ := StmAt.form gT1'
          obtain ⟨q7, m7, rfl⟩ := StmAt.form gE1'
          simp only [M.Tr.len] at hj2
          have HJ := hid hj2
          have HJ1 := hid hj1
          have hi1 : (j : Int) < (t.len : Int) := by omega
          clear hj2 hj1
          go_wp2_with (go_at_call 24; refine stopHere ?_)
          refine stopAt ?_
          have hsz : t1.sz + (1 + th.sz + el.sz + nx.sz) ≤ k + 1 ∧ t1.sz + (1 + th.sz + el.sz + nx.sz) ≤ 4294967296 := by
            have h1 := hk
            have h2 := hN
            rw [HT.out, M.app_sz] at h1 h2
            simp only [M.Tr.sz] at h1 h2
            exact ⟨h1, h2⟩
          have hfew : a.length ≤ 4294967296 ∧ pr.length ≤ 4294967296 ∧ Few 4294967296 th ∧ Few 4294967296 el ∧ Few 4294967296 nx := by
            have h1 := hF
            rw [HT.out, Few.app] at h1
            exact h1.2
          have hbA : Below wr.heap.size wr (wr.alloc (.cells #[.int .i64 op, .string x, .string y, .string p, .slice q1 a.length m1, .slice q3 pr.length m3, .slice q5 th.len m5, .slice q7 el.len m7] 36)) := (Below.refl _ _).alloc (Nat.le_refl _) _
          have hBA := hB.trans (hbA.mono hB.size)
          refine (copied_any k hC _ ⟨op, x, y, p, a, pr, th, el⟩ _ _ _ _ (SlAt.bel gA1 hBA) (SlAt.bel gP1 hBA) (gT1'.bel hBA) (gE1'.bel hBA) (by show th.sz ≤ k; omega) (by show el.sz ≤ k; omega) (by show th.sz ≤ _; omega) (by show el.sz ≤ _; omega) hfew.1 hfew.2.1 hfew.2.2.1 hfew.2.2.2.1).mono ?_
          rintro e w2 ⟨qa, ma, qb, mb, qc, mc, qd, md, rfl, o1, o2, o3, o4, hb2⟩
          have hgA : g < (wr.alloc (.cells #[.int .i64 op, .string x, .string y, .string p, .slice q1 a.length m1, .slice q3 pr.length m3, .slice q5 th.len m5, .slice q7 el.len m7] 36)).heap.size := Nat.lt_of_lt_of_le hgl hbA.size
          have hb3 : Below wr.heap.size wr w2 := hbA.trans (hb2.mono hbA.size)
          have hB2 : Below w.heap.size w w2 := hB.trans (hb3.mono hB.size)
          have ho2 := row_keep8 ho (hb3.block g hgl)
          have hwX : ∀ b, b < w2.heap.size → ¬ Old (wr.alloc (.cells #[.int .i64 op, .string x, .string y, .string p, .slice q1 a.length m1, .slice q3 pr.length m3, .slice q5 th.len m5, .slice q7 el.len m7] 36)) b → ¬ (b < w.heap.size ∨ b = g) := by
            intro b _ h hh
            rcases hh with hh | rfl
            · exact h (Nat.lt_of_lt_of_le hh hBA.size)
            · exact h hgA
          replace o1 := SlAt.weak o1 hwX
          replace o2 := SlAt.weak o2 hwX
          replace o3 := StmAt.weak o3 hwX
          replace o4 := StmAt.weak o4 hwX
          replace r1 := RowAt.keep (Below.keepX hb3) r1
          obtain ⟨f0, f1, f2, f3, f4, f5, f6, f7⟩ := own8 ho2 hc1 hjl
          have hfz := ho2.frozenAt
          have hgl2 : g < w2.heap.size := Nat.lt_of_lt_of_le hgl hb3.size
          clear ho hbA hBA hgA hb2 hb3 hB hgl
          simp only at o1 o2 o3 o4
          go_wp2
          have hrow8 := row_put8 ho2 hc1 (.int .i64 op) (.string x) (.string y) (.string p) (.slice qa a.length ma) (.slice qb pr.length mb) (.slice qc th.len mc) (.slice qd el.len md)
          have hK : Keep (fun b => b < w.heap.size ∨ b = g) w2 ((((((((w2.setCell ⟨g, j * 8, none⟩ (.int .i64 op)).setCell ⟨g, j * 8 + 1, none⟩ (.string x)).setCell ⟨g, j * 8 + 2, none⟩ (.string y)).setCell ⟨g, j * 8 + 3, none⟩ (.string p)).setCell ⟨g, j * 8 + 4, none⟩ (.slice qa a.length ma)).setCell ⟨g, j * 8 + 5, none⟩ (.slice qb pr.length mb)).setCell ⟨g, j * 8 + 6, none⟩ (.slice qc th.len mc)).setCell ⟨g, j * 8 + 7, none⟩ (.slice qd el.len md)) :=
            ((((((((keep_set (p := ⟨g, j * 8, none⟩) (.inr rfl) _).trans (keep_set (p := ⟨g, j * 8 + 1, none⟩) (.inr rfl) _)).trans (keep_set (p := ⟨g, j * 8 + 2, none⟩) (.inr rfl) _)).trans (keep_set (p := ⟨g, j * 8 + 3, none⟩) (.inr rfl) _)).trans (keep_set (p := ⟨g, j * 8 + 4, none⟩) (.inr rfl) _)).trans (keep_set (p := ⟨g, j * 8 + 5, none⟩) (.inr rfl) _)).trans (keep_set (p := ⟨g, j * 8 + 6, none⟩) (.inr rfl) _)).trans (keep_set (p := ⟨g, j * 8 + 7, none⟩) (.inr rfl) _))
          have e1 := HJ.out
          have e2 := HJ1.out
          refine ⟨⟨j + 1, c1 ++ [.int .i64 op, .string x, .string y, .string p, .slice qa a.length ma, .slice qb pr.length mb, .slice qc th.len mc, .slice qd el.len md], rest1, t1.app (M.one op x y p a pr th el), nx, by go_num, by rw [M.app_len]; simp [M.one, M.Tr.len]; omega, by omega, ?_, ?_, ?_, hrow8, RowAt.app (RowAt.keep hK r1) (RowAt.one (SlAt.keep o1 hK) (SlAt.keep o2 hK) (StmAt.keep o3 hK) (StmAt.keep o4 hK)), gN1⟩, by simp [intOf]; omega⟩
          · show t = _
            rw [HT.out, M.app_assoc]; rfl
          · exact (((((((hB2.setCell (p := ⟨g, j * 8, none⟩) hg0 _).setCell (p := ⟨g, j * 8 + 1, none⟩) hg0 _).setCell (p := ⟨g, j * 8 + 2, none⟩) hg0 _).setCell (p := ⟨g, j * 8 + 3, none⟩) hg0 _).setCell (p := ⟨g, j * 8 + 4, none⟩) hg0 _).setCell (p := ⟨g, j * 8 + 5, none⟩) hg0 _).setCell (p := ⟨g, j * 8 + 6, none⟩) hg0 _).setCell (p := ⟨g, j * 8 + 7, none⟩) hg0 _
          · exact Nat.lt_of_lt_of_le hgl2 hK.size
      · obtain rfl : t2 = .nil := len_nil (by omega)
        have e0 : c2 = [] := r2
        subst e0
        rw [List.append_nil] at ho
        go_wp2
        go_ret
        refine ⟨_, _, rfl, ⟨c1, SlAt.of_owns ho (fun b h1 h2 => Nat.lt_irrefl _ (Nat.lt_of_lt_of_le h2 h1)) (by omega), ?_⟩, hB⟩
        have e1 := HT.out
        rw [M.app_nil] at e1
        rw [e1]
        exact RowAt.weak (fun b _ h h2 => h (.inl h2)) r1
theorem copBlock0 : CopC 0 := by
  intro w v t hk hN hF hv
  obtain rfl : t = .nil := len_nil (by have := sz_pos t; omega)
  obtain ⟨cs, hsl, hrow⟩ := hv
  have h1 := row_one hrow
  obtain ⟨va, vc, rfl⟩ := SlAt.form hsl
  have e0 : cs = [] := hrow
  subst e0
  go_enter Try.func31, Try.ntmps31
  go_wp2_with (go_at_call 32; refine (cloneStmt_any w _ M.Tr.nil.len [] hsl h1.1 h1.2 (by simp [M.Tr.len])).mono ?_; rintro e w1 ⟨v1, rfl, ho1, hb1⟩; obtain ⟨q, m, rfl⟩ := own_form ho1)
  simp only [M.Tr.len] at ho1 ⊢
  go_loop [10] (fun i => i = .int .i64 0) (fun _ => 0)
  case atStart => rfl
  case round =>
    subst hrel
    go_wp2_with fail
    go_ret
    exact ⟨_, _, rfl, ⟨[], SlAt.of_owns ho1 (fun b h1 h2 => Nat.lt_irrefl _ (Nat.lt_of_lt_of_le h2 h1)) (by simp [M.Tr.len]), rfl⟩, hb1⟩
theorem copBlock : ∀ k, CopC k
  | 0 => copBlock0
  | k + 1 => copBlock_any k (copBlock k)
end Go.Proofs.Ytcjmjdgcehmigaa
