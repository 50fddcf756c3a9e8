/-
  The walk of the law NumberBlocks. No conditions but bounds.
-/
import Derived.Test.YtcjmjdgcehmigaaK4
import Derived.Test.YtcjmjdgcehmigaaB2
import Derived.Deep.RegionHeld3
set_option linter.unusedVariables false
set_option linter.unusedSimpArgs false
namespace Go.Proofs.Ytcjmjdgcehmigaa
open Go.RowKit

/-- a piece of a list -/
theorem sub_stm {w : World} {b o L c i j : Nat} {l : List M.Nd} (h : StmAt w NoX (.slice (some ⟨b, o, none⟩) L c) (M.toTr l)) (hij : i ≤ j) (hj : j ≤ L) : StmAt w NoX (.slice (some ⟨b, o + i * 8, none⟩) (j - i) (c - i)) (M.toTr ((l.drop i).take (j - i))) := by
  obtain ⟨cs, ⟨l1, a1, cap1, e, g1⟩, row1⟩ := h
  simp only [Value.slice.injEq] at e
  obtain ⟨rfl, rfl, rfl⟩ := e
  rw [M.toTr_len] at l1 hj
  have hlen : ((l.drop i).take (j - i)).length = j - i := by rw [List.length_take, List.length_drop]; omega
  have key : ∀ (l : List M.Nd) (cs : List Value) (i : Nat), RowAt w NoX cs (M.toTr l) → RowAt w NoX (cs.drop (i * 8)) (M.toTr (l.drop i)) := by
    intro l
    induction l with
    | nil => intro cs i h; have e : cs = [] := h; subst e; simp [M.toTr]; rfl
    | cons d r ih =>
      intro cs i h
      cases i with
      | zero => simpa using h
      | succ i =>
        obtain ⟨va, vp, vt, ve, ct, ce, rest, e, _, _, _, _, h7⟩ := h
        subst e
        rw [List.drop_succ_cons, show (i + 1) * 8 = i * 8 + 8 by omega, ← List.drop_drop]
        have := ih rest i h7
        rw [List.drop_drop, Nat.add_comm]
        rw [show 8 + i * 8 = i * 8 + 8 by omega]
        show RowAt w NoX (List.drop (i * 8 + 8) (_ :: _ :: _ :: _ :: _ :: _ :: _ :: _ :: rest)) _
        simpa using this
  have key2 : ∀ (l : List M.Nd) (cs : List Value) (k : Nat), RowAt w NoX cs (M.toTr l) → RowAt w NoX (cs.take (k * 8)) (M.toTr (l.take k)) := by
    intro l
    induction l with
    | nil => intro cs k h; have e : cs = [] := h; subst e; simp [M.toTr]; rfl
    | cons d r ih =>
      intro cs k h
      cases k with
      | zero => simp [M.toTr]; rfl
      | succ k =>
        obtain ⟨va, vp, vt, ve, ct, ce, rest, e, h1, h2, h3, h4, h7⟩ := h
        subst e
        rw [List.take_succ_cons]
        refine ⟨va, vp, vt, ve, ct, ce, rest.take (k * 8), ?_, h1, h2, h3, h4, ih rest k h7⟩
        rw [show (k + 1) * 8 = k * 8 + 8 by omega]
        simp
  refine ⟨(cs.drop (i * 8)).take ((j - i) * 8), ?_, key2 _ _ _ (key _ _ _ row1)⟩
  rw [M.toTr_len, hlen]
  refine ⟨by omega, _, _, rfl, ?_⟩
  rcases g1 with ⟨g1, _⟩ | ⟨b', o', e, hlt, ⟨_, hc1, hc2⟩, hc⟩
  · rw [M.toTr_len] at g1
    left
    refine ⟨by omega, ?_⟩
    rw [show j - i = 0 by omega]; simp
  · cases e
    rw [M.toTr_len] at hc1
    right
    refine ⟨b, o + i * 8, rfl, hlt, ⟨fun h => h, by omega, by omega⟩, fun k u hu => ?_⟩
    rw [Nat.add_assoc]
    refine hc _ _ ?_
    rw [List.getElem?_take] at hu
    split at hu
    · rw [List.getElem?_drop] at hu; exact hu
    · cases hu
theorem wrap_sub {a b : Nat} (h : b ≤ a) (ha : a ≤ 1048576) : IntKind.i64.wrap ((a : Int) - (b : Int)) = (a : Int) - (b : Int) := by rw [IntKind.wrap_i64]; omega
theorem empty_stm {w : World} {a : Option Addr} {c : Nat} : StmAt w NoX (.slice a 0 c) .nil := ⟨[], ⟨Nat.zero_le _, _, _, rfl, .inl ⟨rfl, rfl⟩⟩, rfl⟩

theorem elemSt : Try.prog.underlying 22 = some (.slice (Try.prog.elem 22)) := by kernel_rfl
/-- a piece of a list, as the program makes it -/
theorem sub_run {w : World} {b o L c i j : Nat} {l : List M.Nd} (h : StmAt w NoX (.slice (some ⟨b, o, none⟩) L c) (M.toTr l)) (hij : i ≤ j) (hj : j ≤ L) (hc : L ≤ c) :
    ∃ a1 c1, (∀ W, (Instr.slice 22 (.slice (some ⟨b, o, none⟩) L c) (some (.int .i64 (i : Int))) (some (.int .i64 (j : Int))) none).run Try.prog W = .ok (.slice a1 (j - i) c1) W) ∧ StmAt w NoX (.slice a1 (j - i) c1) (M.toTr ((l.drop i).take (j - i))) := by
  have h1 : (i : Int) ≤ (j : Int) := by omega
  have h2 : (j : Int) ≤ (c : Int) := by omega
  by_cases hci : c = i
  · have hz : j - i = 0 := by omega
    refine ⟨some ⟨b, o, none⟩, 0, fun W => ?_, ?_⟩
    · have hj' : j = i := by omega
      subst hci
      subst hj'
      simp [go_sem]
    · rw [hz, List.take_zero]; exact empty_stm
  · refine ⟨_, _, fun W => ?_, sub_stm h hij hj⟩
    simp [go_sem, h1, h2]
    intro hc'; exact absurd hc' hci
/-- one statement of a list -/
theorem at_stm {w : World} {a : Option Addr} {L c k : Nat} {l : List M.Nd} {d : M.Nd} (h : StmAt w NoX (.slice a L c) (M.toTr l)) (hd : l[k]? = some d) :
    ∃ b o q1 m1 q2 m2 q3 m3 q4 m4, a = some ⟨b, o, none⟩ ∧ b < w.heap.size ∧ L ≤ c ∧ c ≤ maxLen ∧ (w.cell? ⟨b, o + k * 8, none⟩ = some (.int .i64 d.op) ∧ w.cell? ⟨b, o + k * 8 + 4, none⟩ = some (.slice q1 d.a.length m1) ∧ w.cell? ⟨b, o + k * 8 + 5, none⟩ = some (.slice q2 d.pr.length m2) ∧ w.cell? ⟨b, o + k * 8 + 6, none⟩ = some (.slice q3 d.th.len m3) ∧ w.cell? ⟨b, o + k * 8 + 7, none⟩ = some (.slice q4 d.el.len m4)) ∧ StmAt w NoX (.slice q3 d.th.len m3) d.th ∧ StmAt w NoX (.slice q4 d.el.len m4) d.el := by
  obtain ⟨cs, ⟨l1, a1, cap1, e, g1⟩, row1⟩ := h
  simp only [Value.slice.injEq] at e
  obtain ⟨rfl, rfl, rfl⟩ := e
  have hk : k < l.length := (List.getElem?_eq_some_iff.1 hd).1
  rcases g1 with ⟨g1, _⟩ | ⟨b, o, rfl, hlt, ⟨_, hc1, hc2⟩, hc⟩
  · rw [M.toTr_len] at g1; omega
  · have key : ∀ (l : List M.Nd) (cs : List Value) (k : Nat), RowAt w NoX cs (M.toTr l) → l[k]? = some d → ∃ va vp vt ve ct ce rest, cs.drop (k * 8) = .int .i64 d.op :: .string d.x :: .string d.y :: .string d.p :: va :: vp :: vt :: ve :: rest ∧ OpsAt w NoX va d.a ∧ StrsAt w NoX vp d.pr ∧ (SlAt w NoX vt d.th.len ct ∧ RowAt w NoX ct d.th) ∧ (SlAt w NoX ve d.el.len ce ∧ RowAt w NoX ce d.el) := by
      intro l
      induction l with
      | nil => intro cs k h hd; simp at hd
      | cons x r ih =>
        intro cs k h hd
        obtain ⟨va, vp, vt, ve, ct, ce, rest, e, h1, h2, h3, h4, h7⟩ := h
        cases k with
        | zero =>
          simp at hd
          subst hd
          exact ⟨va, vp, vt, ve, ct, ce, rest, by simpa using e, h1, h2, h3, h4⟩
        | succ k =>
          obtain ⟨va', vp', vt', ve', ct', ce', rest', e', g⟩ := ih rest k h7 (by simpa using hd)
          refine ⟨va', vp', vt', ve', ct', ce', rest', ?_, g⟩
          rw [e, show (k + 1) * 8 = k * 8 + 8 by omega]
          simpa using e'
    obtain ⟨va, vp, vt, ve, ct, ce, rest, e, h1, h2, h3, h4⟩ := key l cs k row1 hd
    obtain ⟨f0, f1, f2, f3, f4, f5, f6, f7, fr⟩ := eight hc e
    obtain ⟨q1, m1, rfl⟩ := SlAt.form h1
    obtain ⟨q2, m2, rfl⟩ := SlAt.form h2
    have h3' : StmAt w NoX vt d.th := ⟨ct, h3⟩
    have h4' : StmAt w NoX ve d.el := ⟨ce, h4⟩
    obtain ⟨q3, m3, rfl⟩ := StmAt.form h3'
    obtain ⟨q4, m4, rfl⟩ := StmAt.form h4'
    exact ⟨b, o, q1, m1, q2, m2, q3, m3, q4, m4, rfl, hlt, hc1, hc2, ⟨f0, f4, f5, f6, f7⟩, h3', h4'⟩

namespace NumberBlocks
set_option maxRecDepth 16000 in
set_option maxHeartbeats 4000000 in
theorem walk (w : World) (v : Value) (t : M.Tr) (n : Int) (hv : StmAt w NoX v t) (hN : (M.nodes t).length ≤ 1048576) (hF : Few 4294967296 t) :
    Calls Try.prog 4 #[v, .int .i64 n] w fun e w' => e = .returned (.bool true) ∧ Below w.heap.size w w' := by
  have hsz : t.sz ≤ 1048576 := by rw [← M.nodes_len]; exact hN
  obtain ⟨va, vc, rfl⟩ := StmAt.form hv
  go_enter Try.func4, Try.ntmps4
  go_wp2_with (go_at_call 8; refine stopHere ?_)
  refine stopAt ?_
  refine (deep_any w _ t hv (by omega)).mono ?_
  rintro e w1 ⟨rfl, b1⟩
  by_cases hbig : M.big t = true
  · rw [hbig]
    go_wp2_with (go_at_call 9; refine stopHere ?_)
    refine stopAt ?_
    refine (fixed_any w1).mono ?_
    rintro e w2 ⟨rfl, b2⟩
    go_wp2
    go_ret
    exact ⟨rfl, b1.trans (b2.mono b1.size)⟩
  · have hbf : M.big t = false := by simpa using hbig
    rw [hbf]
    clear hbig hbf
    go_wp2_with (go_at_call 16; refine stopHere ?_)
    refine stopAt ?_
    refine (list_any w1 _ t (hv.bel b1) (by omega) hF).mono ?_
    rintro e w2 ⟨q2, m2, rfl, s2, b2⟩
    have B2 := b1.trans (b2.mono b1.size)
    go_wp2_with (go_at_call 12; refine stopHere ?_)
    refine stopAt ?_
    refine (blocks_any w2 _ t n (hv.bel B2) (by omega)).mono ?_
    rintro e w3 ⟨rfl, b3⟩
    have B3 := B2.trans (b3.mono B2.size)
    by_cases hn : 0 ≤ n ∧ n < ((M.nodes t).length : Int)
    · obtain ⟨k, rfl⟩ : ∃ k : Nat, n = (k : Int) := ⟨n.toNat, by omega⟩
      have hk : k < (M.nodes t).length := by omega
      obtain ⟨d, hd⟩ : ∃ d, (M.nodes t)[k]? = some d := ⟨_, List.getElem?_eq_getElem hk⟩
      obtain ⟨r, hr⟩ := M.nodes_at t k d hd
      have hle : k + 1 + (M.nodes d.th).length + (M.nodes d.el).length ≤ (M.nodes t).length := by
        have := congrArg List.length hr
        simp only [List.length_drop, List.length_append] at this
        omega
      obtain ⟨i1, hi1⟩ : ∃ i1 : Nat, i1 = k + 1 := ⟨_, rfl⟩
      obtain ⟨i2, hi2⟩ : ∃ i2 : Nat, i2 = k + 1 + (M.nodes d.th).length := ⟨_, rfl⟩
      obtain ⟨i3, hi3⟩ : ∃ i3 : Nat, i3 = k + 1 + (M.nodes d.th).length + (M.nodes d.el).length := ⟨_, rfl⟩
      have HB : M.blocks (M.nodes t) (k : Nat) = (((i1 : Nat) : Int), ((i2 : Nat) : Int), ((i3 : Nat) : Int)) := by
        unfold M.blocks
        rw [if_pos (by omega), Int.toNat_natCast, hd, hi1, hi2, hi3]
        simp
      rw [HB]
      clear HB hn
      have hLA : (M.nodes d.th).length = i2 - i1 := by omega
      have hLB : (M.nodes d.el).length = i3 - i2 := by omega
      have h12 : i1 ≤ i2 := by omega
      have h23 : i2 ≤ i3 := by omega
      have h3L : i3 ≤ (M.nodes t).length := by omega
      have ht1 : ((i1 : Int) == (k : Int) + 1) = true := by simp; omega
      have hk1 : k < i1 := by omega
      generalize hLL : (M.nodes t).length = L at h3L hk hN s2 ⊢
      have HI1 := hid hi1
      have HI2 := hid hi2
      have HA := hid hLA
      have HBB := hid hLB
      have HLL := hid hLL
      have HR := hid hr
      have HD := hid hd
      clear hLA hLB hLL hr hd hi1 hi2 hi3 hle
      go_wp2_with (go_at_call 9; refine stopHere ?_)
      refine stopAt ?_
      refine (fixed_any w3).mono ?_
      rintro e w4 ⟨rfl, b4⟩
      have B4 := B3.trans (b4.mono B3.size)
      obtain ⟨gb, go, qa, ma, qp, mp, qt, mt, qe, me, rfl, hgb, hcL, hcM, ⟨f0, f4, f5, f6, f7⟩, sT, sE⟩ := at_stm s2 HD.out
      have B24 := b3.trans (b4.mono b3.size)
      have sT4 := sT.bel B24
      have sE4 := sE.bel B24
      have s4 := s2.bel B24
      rw [← B24.cell (p := ⟨gb, _, none⟩) hgb] at f6 f7
      have hgb4 : gb < w4.heap.size := Nat.lt_of_lt_of_le hgb B24.size
      have fT : Few 4294967296 d.th ∧ Few 4294967296 d.el := (few_nodes t hF d (List.mem_of_getElem? HD.out)).2.2
      have KH : Hid (∀ W, Below w4.heap.size w4 W → W.cell? ⟨gb, go + k * 8 + 6, none⟩ = some (.slice qt d.th.len mt) ∧ W.cell? ⟨gb, go + k * 8 + 7, none⟩ = some (.slice qe d.el.len me)) := fun W hb => ⟨(hb.cell (p := ⟨gb, _, none⟩) hgb4).trans f6, (hb.cell (p := ⟨gb, _, none⟩) hgb4).trans f7⟩
      have L1 : Hid (∀ W, Below w4.heap.size w4 W → Calls Try.prog 16 #[.slice qt d.th.len mt] W fun e w' => ∃ q m, e = .returned (.slice q (i2 - i1) m) ∧ StmAt w' NoX (.slice q (i2 - i1) m) (M.toTr (M.nodes d.th)) ∧ Below w4.heap.size w4 w') := fun W hb => (list_any W _ d.th (sT4.bel hb) (by have := HA.out; omega) fT.1).mono fun e w' ⟨q, m, h1, h2, h3⟩ => ⟨q, m, by rw [← HA.out]; exact h1, by rw [← HA.out]; exact h2, hb.trans (h3.mono hb.size)⟩
      have L2 : Hid (∀ W, Below w4.heap.size w4 W → Calls Try.prog 16 #[.slice qe d.el.len me] W fun e w' => ∃ q m, e = .returned (.slice q (i3 - i2) m) ∧ StmAt w' NoX (.slice q (i3 - i2) m) (M.toTr (M.nodes d.el)) ∧ Below w4.heap.size w4 w') := fun W hb => (list_any W _ d.el (sE4.bel hb) (by have := HBB.out; omega) fT.2).mono fun e w' ⟨q, m, h1, h2, h3⟩ => ⟨q, m, by rw [← HBB.out]; exact h1, by rw [← HBB.out]; exact h2, hb.trans (h3.mono hb.size)⟩
      have C1 : Hid (∀ W, Below w4.heap.size w4 W → Calls Try.prog 17 #[.slice qt d.th.len mt] W fun e w' => e = .returned (.int .i64 ((i2 - i1 : Nat) : Int)) ∧ Below w4.heap.size w4 w') := fun W hb => (count_any W _ d.th (sT4.bel hb) (by have := HA.out; omega)).mono fun e w' ⟨h1, h3⟩ => ⟨by rw [← HA.out]; exact h1, hb.trans (h3.mono hb.size)⟩
      obtain ⟨a1, z1, R1, P1⟩ := sub_run s4 (i := i1) (j := i2) (by omega) (by omega) hcL
      obtain ⟨a2, z2, R2, P2⟩ := sub_run s4 (i := i2) (j := i3) (by omega) (by omega) hcL
      rw [HI1.out, HR.out, ← HI1.out, ← HA.out, List.take_left, HA.out] at P1
      rw [HI2.out, ← List.drop_drop, HR.out, List.drop_left, ← HI2.out, ← HBB.out, List.take_left, HBB.out] at P2
      have E1 : Hid (∀ W x q m, StmAt w4 NoX x (M.toTr (M.nodes d.th)) → Below w4.heap.size w4 W → StmAt W NoX (.slice q (i2 - i1) m) (M.toTr (M.nodes d.th)) → Calls Try.prog 15 #[x, .slice q (i2 - i1) m] W fun e w' => e = .returned (.bool true) ∧ Below w4.heap.size w4 w') := fun W x q m hx hb h2 => (sameU _ W _ _ _ _ (Nat.le_refl _) (hx.bel hb) h2).mono fun e w' ⟨h1, h3⟩ => ⟨by rw [h1, decide_eq_true rfl], hb.trans (h3.mono hb.size)⟩
      have E2 : Hid (∀ W x q m, StmAt w4 NoX x (M.toTr (M.nodes d.el)) → Below w4.heap.size w4 W → StmAt W NoX (.slice q (i3 - i2) m) (M.toTr (M.nodes d.el)) → Calls Try.prog 15 #[x, .slice q (i3 - i2) m] W fun e w' => e = .returned (.bool true) ∧ Below w4.heap.size w4 w') := fun W x q m hx hb h2 => (sameU _ W _ _ _ _ (Nat.le_refl _) (hx.bel hb) h2).mono fun e w' ⟨h1, h3⟩ => ⟨by rw [h1, decide_eq_true rfl], hb.trans (h3.mono hb.size)⟩
      have hcm : m2 ≤ 9223372036854775807 := by unfold maxLen at hcM; omega
      clear s4 s2 sT sE sT4 sE4 hv hF b1 b2 b3 B2 B3
      go_wp2_with fail
      rotate_left
      · exfalso
        have := HI1.out
        omega
      rename_i x1 x2 x3 x4 _ _
      clear x1 x2 x3 x4
      have hke : ((k : Int) + 1) = ((i1 : Nat) : Int) := by have := HI1.out; omega
      try simp only [hke]
      clear hke b4 ht1
      have j5 : (k : Int) < (L : Int) := by omega
      go_region_held3 (fun w' => w'.cell? ⟨gb, go + k * 8 + 6, none⟩ = some (.slice qt d.th.len mt) ∧ w'.cell? ⟨gb, go + k * 8 + 7, none⟩ = some (.slice qe d.el.len me)) (first | exact KH.out _ (Below.refl _ _) | exact KH.out _ (Below.refl _ _).drew | exact KH.out _ C9 | exact KH.out _ C8 | exact KH.out _ C7 | exact KH.out _ C6 | exact KH.out _ C5 | go_keep)
        (first
          | (go_at_call 16; with_reducible refine (L1.out _ (Below.refl _ _).drew).mono ?_; rintro e w5 ⟨q5, m5, rfl, s5, C5⟩)
          | (go_at_call 15; with_reducible refine (E1.out _ _ _ _ P1 C5 s5).mono ?_; rintro e w6 ⟨rfl, C6⟩)
          | (go_at_call 16; with_reducible refine (L2.out _ C6).mono ?_; rintro e w7 ⟨q7, m7, rfl, s7, C7⟩)
          | (go_at_call 15; with_reducible refine (E2.out _ _ _ _ P2 C7 s7).mono ?_; rintro e w8 ⟨rfl, C8⟩)
          | (go_at_call 17; with_reducible refine (C1.out _ C8).mono ?_; rintro e w9 ⟨rfl, C9⟩))
      all_goals
        go_wp2_with fail
        go_ret
        exact ⟨ret_bool (by rw [wrap_sub (by omega) (by omega)]; simp; omega), B4.trans (C9.mono B4.size)⟩
    · rw [M.blocks_no (by omega)]
      have hno : n < 0 ∨ ((M.nodes t).length : Int) ≤ n := by omega
      clear hn
      go_wp2_with (go_at_call 9; refine stopHere ?_)
      refine stopAt ?_
      refine (fixed_any w3).mono ?_
      rintro e w4 ⟨rfl, b4⟩
      have B4 := B3.trans (b4.mono B3.size)
      rcases hno with hno | hno
      all_goals
        go_wp2_with (go_at_call 9; refine stopHere ?_)
        refine stopAt ?_
        refine (fixed_any w4).mono ?_
        rintro e w5 ⟨rfl, b5⟩
        go_wp2
        go_ret
        exact ⟨rfl, B4.trans (b5.mono B4.size)⟩
end NumberBlocks
end Go.Proofs.Ytcjmjdgcehmigaa
