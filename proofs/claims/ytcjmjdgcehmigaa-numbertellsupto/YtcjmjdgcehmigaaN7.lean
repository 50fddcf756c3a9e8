/-
  The walks of number.copied and number.copiedBlock: statements as they were, in new memory. No conditions but a bound on how many there are.
-/
import Derived.Test.YtcjmjdgcehmigaaN6
set_option linter.unusedVariables false
set_option linter.unusedSimpArgs false
namespace Go.Proofs.Ytcjmjdgcehmigaa
open Go.RowKit

theorem ops_one (a : List M.Opd) : (a.flatMap opCells).length = a.length * 3 ∧ ∀ u ∈ a.flatMap opCells, u.oneCell' = true := by
  induction a with
  | nil => simp
  | cons x r ih =>
    have e : (x :: r).flatMap opCells = .int .i64 x.k :: .int .i64 x.n :: .string x.s :: r.flatMap opCells := rfl
    rw [e]
    refine ⟨by simp only [List.length_cons, ih.1]; omega, fun u hu => ?_⟩
    simp only [List.mem_cons] at hu
    rcases hu with rfl | rfl | rfl | hu
    · rfl
    · rfl
    · rfl
    · exact ih.2 u hu
theorem strs_one (a : List ByteArray) : (a.map Value.string).length = a.length * 1 ∧ ∀ u ∈ a.map Value.string, u.oneCell' = true := by
  refine ⟨by simp, fun u hu => ?_⟩
  simp only [List.mem_map] at hu
  obtain ⟨x, _, rfl⟩ := hu
  rfl
theorem sl_one {w : World} {X : Nat → Prop} {v : Value} {n : Nat} {cs : List Value} (h : SlAt w X v n cs) : v.oneCell' = true := by
  obtain ⟨_, a, c, rfl, _⟩ := h; rfl
theorem row_one {w : World} {X : Nat → Prop} : ∀ {t : M.Tr} {cs : List Value}, RowAt w X cs t → cs.length = t.len * 8 ∧ ∀ u ∈ cs, u.oneCell' = true
  | .nil, cs, h => by
    have e : cs = [] := h
    subst e; simp [M.Tr.len]
  | .cons _ _ _ _ _ _ th el nx, cs, ⟨va, vp, vt, ve, ct, ce, rest, e, h1, h2, ⟨h3, h4⟩, ⟨h5, h6⟩, h7⟩ => by
    subst e
    obtain ⟨r1, r2⟩ := row_one h7
    refine ⟨by simp only [List.length_cons, r1, M.Tr.len]; omega, fun u hu => ?_⟩
    simp only [List.mem_cons] at hu
    rcases hu with rfl | rfl | rfl | rfl | rfl | rfl | rfl | rfl | hu
    · rfl
    · rfl
    · rfl
    · rfl
    · exact sl_one h1
    · exact sl_one h2
    · exact sl_one h3
    · exact sl_one h5
    · exact r2 u hu

/-- eight cells are laid -/
abbrev put8 (W : World) (g : Nat) (c0 c1 c2 c3 c4 c5 c6 c7 : Value) : World := (((((((W.setCell ⟨g, 0, none⟩ c0).setCell ⟨g, 1, none⟩ c1).setCell ⟨g, 2, none⟩ c2).setCell ⟨g, 3, none⟩ c3).setCell ⟨g, 4, none⟩ c4).setCell ⟨g, 5, none⟩ c5).setCell ⟨g, 6, none⟩ c6).setCell ⟨g, 7, none⟩ c7
theorem put8_at {W : World} {g : Nat} {T : TypeId} {v0 v1 v2 v3 v4 v5 v6 v7 : Value} (h : W.heap[g]? = some (.cells #[v0, v1, v2, v3, v4, v5, v6, v7] T (0, 0))) (c0 c1 c2 c3 c4 c5 c6 c7 : Value) : (put8 W g c0 c1 c2 c3 c4 c5 c6 c7).heap[g]? = some (.cells #[c0, c1, c2, c3, c4, c5, c6, c7] T (0, 0)) := by
  have h0 : (W.setCell ⟨g, 0, none⟩ c0).heap[g]? = some (.cells #[c0, v1, v2, v3, v4, v5, v6, v7] T (0, 0)) := heap_setCell_same _ _ _ _ _ _ h
  have h1 : ((W.setCell ⟨g, 0, none⟩ c0).setCell ⟨g, 1, none⟩ c1).heap[g]? = some (.cells #[c0, c1, v2, v3, v4, v5, v6, v7] T (0, 0)) := heap_setCell_same _ _ _ _ _ _ h0
  have h2 : (((W.setCell ⟨g, 0, none⟩ c0).setCell ⟨g, 1, none⟩ c1).setCell ⟨g, 2, none⟩ c2).heap[g]? = some (.cells #[c0, c1, c2, v3, v4, v5, v6, v7] T (0, 0)) := heap_setCell_same _ _ _ _ _ _ h1
  have h3 : ((((W.setCell ⟨g, 0, none⟩ c0).setCell ⟨g, 1, none⟩ c1).setCell ⟨g, 2, none⟩ c2).setCell ⟨g, 3, none⟩ c3).heap[g]? = some (.cells #[c0, c1, c2, c3, v4, v5, v6, v7] T (0, 0)) := heap_setCell_same _ _ _ _ _ _ h2
  have h4 : (((((W.setCell ⟨g, 0, none⟩ c0).setCell ⟨g, 1, none⟩ c1).setCell ⟨g, 2, none⟩ c2).setCell ⟨g, 3, none⟩ c3).setCell ⟨g, 4, none⟩ c4).heap[g]? = some (.cells #[c0, c1, c2, c3, c4, v5, v6, v7] T (0, 0)) := heap_setCell_same _ _ _ _ _ _ h3
  have h5 : ((((((W.setCell ⟨g, 0, none⟩ c0).setCell ⟨g, 1, none⟩ c1).setCell ⟨g, 2, none⟩ c2).setCell ⟨g, 3, none⟩ c3).setCell ⟨g, 4, none⟩ c4).setCell ⟨g, 5, none⟩ c5).heap[g]? = some (.cells #[c0, c1, c2, c3, c4, c5, v6, v7] T (0, 0)) := heap_setCell_same _ _ _ _ _ _ h4
  have h6 : (((((((W.setCell ⟨g, 0, none⟩ c0).setCell ⟨g, 1, none⟩ c1).setCell ⟨g, 2, none⟩ c2).setCell ⟨g, 3, none⟩ c3).setCell ⟨g, 4, none⟩ c4).setCell ⟨g, 5, none⟩ c5).setCell ⟨g, 6, none⟩ c6).heap[g]? = some (.cells #[c0, c1, c2, c3, c4, c5, c6, v7] T (0, 0)) := heap_setCell_same _ _ _ _ _ _ h5
  have h7 : ((((((((W.setCell ⟨g, 0, none⟩ c0).setCell ⟨g, 1, none⟩ c1).setCell ⟨g, 2, none⟩ c2).setCell ⟨g, 3, none⟩ c3).setCell ⟨g, 4, none⟩ c4).setCell ⟨g, 5, none⟩ c5).setCell ⟨g, 6, none⟩ c6).setCell ⟨g, 7, none⟩ c7).heap[g]? = some (.cells #[c0, c1, c2, c3, c4, c5, c6, c7] T (0, 0)) := heap_setCell_same _ _ _ _ _ _ h6
  exact h7
theorem put8_keep {X : Nat → Prop} {W : World} {g : Nat} (hg : X g) (c0 c1 c2 c3 c4 c5 c6 c7 : Value) : Keep X W (put8 W g c0 c1 c2 c3 c4 c5 c6 c7) :=
  ((((((((keep_set (w := W) (p := ⟨g, 0, none⟩) hg _).trans (keep_set hg _)).trans (keep_set hg _)).trans (keep_set hg _)).trans (keep_set hg _)).trans (keep_set hg _)).trans (keep_set hg _)).trans (keep_set hg _))
theorem cloneOps (w : World) (v : Value) (a : List M.Opd) (h : OpsAt w NoX v a) (hn : a.length ≤ 4294967296) :
    Calls Try.prog 29 #[v] w fun e w' => ∃ q m, e = .returned (.slice q a.length m) ∧ OpsAt w' (Old w) (.slice q a.length m) a ∧ Below w.heap.size w w' :=
  (cloneOperand_any w v a.length _ h (ops_one a).1 (ops_one a).2 hn).mono fun e w' ⟨v', he, ho, hb⟩ => by
    obtain ⟨q, m, rfl⟩ := own_form ho
    exact ⟨q, m, he, SlAt.of_owns ho (fun b h1 h2 => Nat.lt_irrefl _ (Nat.lt_of_lt_of_le h2 h1)) (by omega), hb⟩
theorem cloneStrs (w : World) (v : Value) (a : List ByteArray) (h : StrsAt w NoX v a) (hn : a.length ≤ 4294967296) :
    Calls Try.prog 30 #[v] w fun e w' => ∃ q m, e = .returned (.slice q a.length m) ∧ StrsAt w' (Old w) (.slice q a.length m) a ∧ Below w.heap.size w w' :=
  (clonestring_any w v a.length _ h (strs_one a).1 (strs_one a).2 hn).mono fun e w' ⟨v', he, ho, hb⟩ => by
    obtain ⟨q, m, rfl⟩ := own_form ho
    exact ⟨q, m, he, SlAt.of_owns ho (fun b h1 h2 => Nat.lt_irrefl _ (Nat.lt_of_lt_of_le h2 h1)) (by omega), hb⟩
/-- all lists of a tree are of a bounded length -/
def Few (N : Nat) : M.Tr → Prop
  | .nil => True
  | .cons _ _ _ _ a pr th el nx => a.length ≤ N ∧ pr.length ≤ N ∧ Few N th ∧ Few N el ∧ Few N nx
theorem Few.app {N : Nat} : ∀ {t u : M.Tr}, Few N (t.app u) ↔ Few N t ∧ Few N u
  | .nil, u => by simp [M.Tr.app, Few]
  | .cons _ _ _ _ _ _ th el nx, u => by simp only [M.Tr.app, Few, Few.app (t := nx) (u := u)]; constructor <;> (intro h; simp_all)

/-- what copiedBlock answers of a block of at most that size -/
def CopC (k : Nat) : Prop := ∀ (w : World) (v : Value) (t : M.Tr), t.sz ≤ k → t.sz ≤ 4294967296 → Few 4294967296 t → StmAt w NoX v t → Calls Try.prog 31 #[v] w fun e w' => ∃ q m, e = .returned (.slice q t.len m) ∧ StmAt w' (Old w) (.slice q t.len m) t ∧ Below w.heap.size w w'

set_option maxRecDepth 8000 in
set_option maxHeartbeats 2000000 in
theorem copied_any (k : Nat) (hC : CopC k) (w : World) (d : M.Nd) (va vp vt ve : Value) (h1 : OpsAt w NoX va d.a) (h2 : StrsAt w NoX vp d.pr) (h3 : StmAt w NoX vt d.th) (h4 : StmAt w NoX ve d.el)
    (hk1 : d.th.sz ≤ k) (hk2 : d.el.sz ≤ k) (hs1 : d.th.sz ≤ 4294967296) (hs2 : d.el.sz ≤ 4294967296) (f1 : d.a.length ≤ 4294967296) (f2 : d.pr.length ≤ 4294967296) (f3 : Few 4294967296 d.th) (f4 : Few 4294967296 d.el) :
    Calls Try.prog 24 #[.agg #[.int .i64 d.op, .string d.x, .string d.y, .string d.p, va, vp, vt, ve]] w fun e w' => ∃ q1 m1 q2 m2 q3 m3 q4 m4, e = .returned (.agg #[.int .i64 d.op, .string d.x, .string d.y, .string d.p, .slice q1 d.a.length m1, .slice q2 d.pr.length m2, .slice q3 d.th.len m3, .slice q4 d.el.len m4]) ∧
      OpsAt w' (Old w) (.slice q1 d.a.length m1) d.a ∧ StrsAt w' (Old w) (.slice q2 d.pr.length m2) d.pr ∧ StmAt w' (Old w) (.slice q3 d.th.len m3) d.th ∧ StmAt w' (Old w) (.slice q4 d.el.len m4) d.el ∧ Below w.heap.size w w' := by
  obtain ⟨qa, ma, rfl⟩ := SlAt.form h1
  obtain ⟨qp, mp, rfl⟩ := SlAt.form h2
  obtain ⟨qt, mt, rfl⟩ := StmAt.form h3
  obtain ⟨qe, me, rfl⟩ := StmAt.form h4
  go_enter Try.func24, Try.ntmps24
  go_wp2_with fail
  have hA := heap_al (o' := .cells #[.int .i64 0, .string ⟨#[]⟩, .string ⟨#[]⟩, .string ⟨#[]⟩, .slice none 0 0, .slice none 0 0, .slice none 0 0, .slice none 0 0] 36) (heap_alloc_new w (.cells #[.int .i64 d.op, .string d.x, .string d.y, .string d.p, .slice qa d.a.length ma, .slice qp d.pr.length mp, .slice qt d.th.len mt, .slice qe d.el.len me] 36))
  have hR := heap_alloc_new (w.alloc (.cells #[.int .i64 d.op, .string d.x, .string d.y, .string d.p, .slice qa d.a.length ma, .slice qp d.pr.length mp, .slice qt d.th.len mt, .slice qe d.el.len me] 36)) (.cells #[.int .i64 0, .string ⟨#[]⟩, .string ⟨#[]⟩, .string ⟨#[]⟩, .slice none 0 0, .slice none 0 0, .slice none 0 0, .slice none 0 0] 36)
  rw [World.size_alloc] at hR
  have hB0 : Below w.heap.size w ((w.alloc (.cells #[.int .i64 d.op, .string d.x, .string d.y, .string d.p, .slice qa d.a.length ma, .slice qp d.pr.length mp, .slice qt d.th.len mt, .slice qe d.el.len me] 36)).alloc (.cells #[.int .i64 0, .string ⟨#[]⟩, .string ⟨#[]⟩, .string ⟨#[]⟩, .slice none 0 0, .slice none 0 0, .slice none 0 0, .slice none 0 0] 36)) := ((Below.refl _ w).alloc (Nat.le_refl _) _).alloc (by simp) _
  generalize ((w.alloc (.cells #[.int .i64 d.op, .string d.x, .string d.y, .string d.p, .slice qa d.a.length ma, .slice qp d.pr.length mp, .slice qt d.th.len mt, .slice qe d.el.len me] 36)).alloc (.cells #[.int .i64 0, .string ⟨#[]⟩, .string ⟨#[]⟩, .string ⟨#[]⟩, .slice none 0 0, .slice none 0 0, .slice none 0 0, .slice none 0 0] 36)) = W0 at hA hR hB0 ⊢
  have hcW : Old W0 w.heap.size := (Array.getElem?_eq_some_iff.1 hA).1
  have hcR : Old W0 (w.heap.size + 1) := (Array.getElem?_eq_some_iff.1 hR).1
  refine (cloneOps _ _ d.a (SlAt.bel h1 hB0) f1).mono ?_
  rintro e w1 ⟨q1, m1, rfl, o1, b1⟩
  replace hA := kept b1 hA
  replace hR := kept b1 hR
  have hB1 : Below w.heap.size w w1 := hB0.trans (b1.mono hB0.size)
  obtain ⟨k0, k1, k2, k3, k4, k5, k6, k7, kf, kz⟩ := cells8 hA
  go_wp2_with fail
  clear k0 k1 k2 k3 k4 k5 k6 k7 kf kz
  replace hA : (w1.setCell ⟨w.heap.size, 4, none⟩ (.slice q1 d.a.length m1)).heap[w.heap.size]? = some (.cells #[.int .i64 d.op, .string d.x, .string d.y, .string d.p, .slice q1 d.a.length m1, .slice qp d.pr.length mp, .slice qt d.th.len mt, .slice qe d.el.len me] 36 (0, 0)) := heap_setCell_same _ _ 4 _ _ _ hA
  replace hR := heap_set (i := 4) (v := .slice q1 d.a.length m1) hR (by omega : w.heap.size + 1 ≠ w.heap.size)
  replace o1 := SlAt.keep (o1) (keep_set (X := Old W0) (p := ⟨w.heap.size, 4, none⟩) hcW (.slice q1 d.a.length m1))
  replace hB1 : Below w.heap.size w (w1.setCell ⟨w.heap.size, 4, none⟩ (.slice q1 d.a.length m1)) := hB1.setCell (p := ⟨w.heap.size, 4, none⟩) (Nat.le_refl _) _
  have hz1 : W0.heap.size ≤ (w1.setCell ⟨w.heap.size, 4, none⟩ (.slice q1 d.a.length m1)).heap.size := by have := b1.size; simp; omega
  generalize (w1.setCell ⟨w.heap.size, 4, none⟩ (.slice q1 d.a.length m1)) = W1 at hA hR hB1 hz1 o1 ⊢
  refine (cloneStrs _ _ d.pr (SlAt.bel h2 hB1) f2).mono ?_
  rintro e w2 ⟨q2, m2, rfl, o2, b2⟩
  replace hA := kept b2 hA
  replace hR := kept b2 hR
  have hB2 : Below w.heap.size w w2 := hB1.trans (b2.mono hB1.size)
  replace o1 := SlAt.keep (o1) (Below.keepX b2)
  replace o2 := SlAt.weak o2 (Y := Old W0) (fun b _ hb h => hb (Nat.lt_of_lt_of_le h hz1))
  obtain ⟨k0, k1, k2, k3, k4, k5, k6, k7, kf, kz⟩ := cells8 hA
  go_wp2_with fail
  clear k0 k1 k2 k3 k4 k5 k6 k7 kf kz
  replace hA : (w2.setCell ⟨w.heap.size, 5, none⟩ (.slice q2 d.pr.length m2)).heap[w.heap.size]? = some (.cells #[.int .i64 d.op, .string d.x, .string d.y, .string d.p, .slice q1 d.a.length m1, .slice q2 d.pr.length m2, .slice qt d.th.len mt, .slice qe d.el.len me] 36 (0, 0)) := heap_setCell_same _ _ 5 _ _ _ hA
  replace hR := heap_set (i := 5) (v := .slice q2 d.pr.length m2) hR (by omega : w.heap.size + 1 ≠ w.heap.size)
  replace o1 := SlAt.keep (o1) (keep_set (X := Old W0) (p := ⟨w.heap.size, 5, none⟩) hcW (.slice q2 d.pr.length m2))
  replace o2 := SlAt.keep (o2) (keep_set (X := Old W0) (p := ⟨w.heap.size, 5, none⟩) hcW (.slice q2 d.pr.length m2))
  replace hB2 : Below w.heap.size w (w2.setCell ⟨w.heap.size, 5, none⟩ (.slice q2 d.pr.length m2)) := hB2.setCell (p := ⟨w.heap.size, 5, none⟩) (Nat.le_refl _) _
  have hz2 : W0.heap.size ≤ (w2.setCell ⟨w.heap.size, 5, none⟩ (.slice q2 d.pr.length m2)).heap.size := by have := b2.size; have := hz1; simp; omega
  generalize (w2.setCell ⟨w.heap.size, 5, none⟩ (.slice q2 d.pr.length m2)) = W2 at hA hR hB2 hz2 o1 o2 ⊢
  refine (hC _ _ d.th hk1 hs1 f3 (h3.bel hB2)).mono ?_
  rintro e w3 ⟨q3, m3, rfl, o3, b3⟩
  replace hA := kept b3 hA
  replace hR := kept b3 hR
  have hB3 : Below w.heap.size w w3 := hB2.trans (b3.mono hB2.size)
  replace o1 := SlAt.keep (o1) (Below.keepX b3)
  replace o2 := SlAt.keep (o2) (Below.keepX b3)
  replace o3 := StmAt.weak o3 (Y := Old W0) (fun b _ hb h => hb (Nat.lt_of_lt_of_le h hz2))
  obtain ⟨k0, k1, k2, k3, k4, k5, k6, k7, kf, kz⟩ := cells8 hA
  go_wp2_with fail
  clear k0 k1 k2 k3 k4 k5 k6 k7 kf kz
  replace hA : (w3.setCell ⟨w.heap.size, 6, none⟩ (.slice q3 d.th.len m3)).heap[w.heap.size]? = some (.cells #[.int .i64 d.op, .string d.x, .string d.y, .string d.p, .slice q1 d.a.length m1, .slice q2 d.pr.length m2, .slice q3 d.th.len m3, .slice qe d.el.len me] 36 (0, 0)) := heap_setCell_same _ _ 6 _ _ _ hA
  replace hR := heap_set (i := 6) (v := .slice q3 d.th.len m3) hR (by omega : w.heap.size + 1 ≠ w.heap.size)
  replace o1 := SlAt.keep (o1) (keep_set (X := Old W0) (p := ⟨w.heap.size, 6, none⟩) hcW (.slice q3 d.th.len m3))
  replace o2 := SlAt.keep (o2) (keep_set (X := Old W0) (p := ⟨w.heap.size, 6, none⟩) hcW (.slice q3 d.th.len m3))
  replace o3 := StmAt.keep (o3) (keep_set (X := Old W0) (p := ⟨w.heap.size, 6, none⟩) hcW (.slice q3 d.th.len m3))
  replace hB3 : Below w.heap.size w (w3.setCell ⟨w.heap.size, 6, none⟩ (.slice q3 d.th.len m3)) := hB3.setCell (p := ⟨w.heap.size, 6, none⟩) (Nat.le_refl _) _
  have hz3 : W0.heap.size ≤ (w3.setCell ⟨w.heap.size, 6, none⟩ (.slice q3 d.th.len m3)).heap.size := by have := b3.size; have := hz2; simp; omega
  generalize (w3.setCell ⟨w.heap.size, 6, none⟩ (.slice q3 d.th.len m3)) = W3 at hA hR hB3 hz3 o1 o2 o3 ⊢
  refine (hC _ _ d.el hk2 hs2 f4 (h4.bel hB3)).mono ?_
  rintro e w4 ⟨q4, m4, rfl, o4, b4⟩
  replace hA := kept b4 hA
  replace hR := kept b4 hR
  have hB4 : Below w.heap.size w w4 := hB3.trans (b4.mono hB3.size)
  replace o1 := SlAt.keep (o1) (Below.keepX b4)
  replace o2 := SlAt.keep (o2) (Below.keepX b4)
  replace o3 := StmAt.keep (o3) (Below.keepX b4)
  replace o4 := StmAt.weak o4 (Y := Old W0) (fun b _ hb h => hb (Nat.lt_of_lt_of_le h hz3))
  obtain ⟨k0, k1, k2, k3, k4, k5, k6, k7, kf, kz⟩ := cells8 hA
  obtain ⟨l0, l1, l2, l3, l4, l5, l6, l7, lf, lz⟩ := cells8 hR
  have hne : w.heap.size ≠ w.heap.size + 1 := by omega
  go_wp2
  have hcW1 : Old W0 (w.heap.size + 1) := by have h1 := hcR; exact h1
  have hQ := put8_at (heap_set (i := 7) (v := .slice q4 d.el.len m4) hR (by omega : w.heap.size + 1 ≠ w.heap.size)) (.int .i64 d.op) (.string d.x) (.string d.y) (.string d.p) (.slice q1 d.a.length m1) (.slice q2 d.pr.length m2) (.slice q3 d.th.len m3) (.slice q4 d.el.len m4)
  have hKp : Keep (Old W0) w4 (put8 (w4.setCell ⟨w.heap.size, 7, none⟩ (.slice q4 d.el.len m4)) (w.heap.size + 1) (.int .i64 d.op) (.string d.x) (.string d.y) (.string d.p) (.slice q1 d.a.length m1) (.slice q2 d.pr.length m2) (.slice q3 d.th.len m3) (.slice q4 d.el.len m4)) := (keep_set (X := Old W0) (p := ⟨w.heap.size, 7, none⟩) hcW _).trans (put8_keep hcW1 _ _ _ _ _ _ _ _)
  obtain ⟨r0, r1, r2, r3, r4, r5, r6, r7, rf, rz⟩ := cells8 hQ
  have hold : ∀ b, ¬ Old W0 b → ¬ Old w b := fun b h h2 => h (Nat.lt_of_lt_of_le h2 hB0.size)
  refine bodyPost_ret (v := .agg #[.int .i64 d.op, .string d.x, .string d.y, .string d.p, .slice q1 d.a.length m1, .slice q2 d.pr.length m2, .slice q3 d.th.len m3, .slice q4 d.el.len m4]) (by simp [results, Try.results24, go_sem, r0, r1, r2, r3, r4, r5, r6, r7]) rfl ⟨q1, m1, q2, m2, q3, m3, q4, m4, rfl, ?_, ?_, ?_, ?_, ?_⟩
  · exact SlAt.weak (SlAt.keep o1 hKp) (fun b _ h => hold b h)
  · exact SlAt.weak (SlAt.keep o2 hKp) (fun b _ h => hold b h)
  · exact StmAt.weak (StmAt.keep o3 hKp) (fun b _ h => hold b h)
  · exact StmAt.weak (StmAt.keep o4 hKp) (fun b _ h => hold b h)
  · exact ((((((((hB4.setCell (p := ⟨w.heap.size, 7, none⟩) (Nat.le_refl _) _).setCell (p := ⟨w.heap.size + 1, 0, none⟩) (Nat.le_succ _) _).setCell (p := ⟨w.heap.size + 1, 1, none⟩) (Nat.le_succ _) _).setCell (p := ⟨w.heap.size + 1, 2, none⟩) (Nat.le_succ _) _).setCell (p := ⟨w.heap.size + 1, 3, none⟩) (Nat.le_succ _) _).setCell (p := ⟨w.heap.size + 1, 4, none⟩) (Nat.le_succ _) _).setCell (p := ⟨w.heap.size + 1, 5, none⟩) (Nat.le_succ _) _).setCell (p := ⟨w.heap.size + 1, 6, none⟩) (Nat.le_succ _) _).setCell (p := ⟨w.heap.size + 1, 7, none⟩) (Nat.le_succ _) _
-- COPIEDEND
end Go.Proofs.Ytcjmjdgcehmigaa
