/-
  The walks of state.mayPut and state.May. Conditions: states of at most 100000 of each thing.
-/
import Derived.Test.YtbaaeobdjiglgaaGreatE5
import Derived.Test.YtbaaeobdjiglgaaGreatGG
set_option linter.unusedVariables false
set_option linter.unusedSimpArgs false
namespace Go.Proofs.YtbaaeobdjiglgaaGreat
open Go.RowKit Go.Sort
namespace M
theorem mayL_one (x : Atm) : mayL [x] = okA x := by
  rw [Bool.eq_iff_iff, may_iff]
  constructor
  · rintro ⟨_, h⟩; exact h x (List.mem_cons_self ..)
  · intro h
    exact ⟨by unfold Rising; simp, fun y hy => by rw [List.mem_singleton.1 hy]; exact h⟩
theorem placeB_yes {x : Atm} (h : x.k = 4 ∨ x.k = 5) : placeB x = mayL [x] := by
  rw [mayL_one]
  unfold placeB okA
  rw [if_pos (by omega), decide_eq_true h, Bool.true_and]
theorem placeB_not {x : Atm} (h4 : x.k ≠ 4) (h5 : x.k ≠ 5) : placeB x = false := by
  unfold placeB
  rw [decide_eq_false (by omega), Bool.false_and]
/-- neighbours rise: all do -/
theorem risK_adj {κ ν : Type} (o : Key κ) : ∀ {l : List (κ × ν)}, (∀ i (h : i + 1 < l.length), o.lt l[i].1 l[i + 1].1 = true) → RisK o l
  | [], _ => List.Pairwise.nil
  | [x], _ => by unfold RisK; simp
  | x :: y :: r, h => by
    have hr : RisK o (y :: r) := risK_adj o fun i hi => h (i + 1) (by simpa using hi)
    have hxy : o.lt x.1 y.1 = true := h 0 (by simp)
    refine List.pairwise_cons.2 ⟨fun z hz => ?_, hr⟩
    rcases List.mem_cons.1 hz with e | e
    · rw [e]; exact hxy
    · exact o.trans hxy ((List.pairwise_cons.1 hr).1 z e)
theorem risK_get {κ ν : Type} (o : Key κ) {l : List (κ × ν)} (h : RisK o l) {i j : Nat} (hi : i < j) (hj : j < l.length) : o.lt (l[i]'(by omega)).1 l[j].1 = true :=
  List.pairwise_iff_getElem.1 h i j (by omega) hj hi
/-- what the program asks of the two lists -/
def okV (vs : List (ByteArray × List Atm)) : Prop := RisK keyN vs ∧ ∀ x ∈ vs, mayL x.2 = true
def okL (ls : List (Atm × Shp)) : Prop := RisK keyA ls ∧ ∀ x ∈ ls, (placeB x.1 && mayS x.2) = true
theorem maySt_live {vs : List (ByteArray × List Atm)} {ls : List (Atm × Shp)} : maySt ⟨false, vs, ls⟩ = true ↔ okV vs ∧ okL ls := by
  unfold maySt okV okL
  simp only [Bool.and_eq_true, decide_eq_true_eq, List.all_eq_true, Bool.not_false, Bool.true_or, and_true]
  constructor
  · rintro ⟨⟨⟨h1, h2⟩, h3⟩, h4⟩; exact ⟨⟨h1, h2⟩, h3, h4⟩
  · rintro ⟨⟨h1, h2⟩, h3, h4⟩; exact ⟨⟨⟨h1, h2⟩, h3⟩, h4⟩
theorem maySt_end {vs : List (ByteArray × List Atm)} {ls : List (Atm × Shp)} (h1 : okV vs) (h2 : okL ls) : true = maySt ⟨false, vs, ls⟩ := (maySt_live.2 ⟨h1, h2⟩).symm
theorem maySt_noV {vs : List (ByteArray × List Atm)} {ls : List (Atm × Shp)} (h : ¬ okV vs) : false = maySt ⟨false, vs, ls⟩ := by
  cases e : maySt ⟨false, vs, ls⟩ with
  | false => rfl
  | true => exact absurd (maySt_live.1 e).1 h
theorem maySt_noL {vs : List (ByteArray × List Atm)} {ls : List (Atm × Shp)} (h : ¬ okL ls) : false = maySt ⟨false, vs, ls⟩ := by
  cases e : maySt ⟨false, vs, ls⟩ with
  | false => rfl
  | true => exact absurd (maySt_live.1 e).2 h
theorem maySt_dead (vs : List (ByteArray × List Atm)) (ls : List (Atm × Shp)) : maySt ⟨true, vs, ls⟩ = (vs.isEmpty && ls.isEmpty) := by
  rw [Bool.eq_iff_iff]
  unfold maySt
  simp only [Bool.and_eq_true, Bool.not_true, Bool.false_or]
  constructor
  · rintro ⟨_, h⟩; exact h
  · rintro ⟨h1, h2⟩
    have e1 : vs = [] := by simpa using h1
    have e2 : ls = [] := by simpa using h2
    subst e1 e2
    exact ⟨⟨⟨⟨by simp [RisK], by simp⟩, by simp [RisK]⟩, by simp⟩, rfl, rfl⟩
end M
theorem smStB {K : Nat} {s : M.Sta} {B : List Bnd} {L : List Lcl} {d : Bool} (h : M.SmSt K s) (e : s = ⟨d, bndOf B, lclOf L⟩) : B.length ≤ K ∧ (∀ x ∈ B, x.vs.length ≤ K) ∧ L.length ≤ K ∧ ∀ x ∈ L, M.Sm K x.s := by
  subst e
  refine ⟨by have := h.vl; simpa [bndOf] using this, fun x hx => h.vv x.p (List.mem_map.2 ⟨x, hx, rfl⟩), by have := h.ll; simpa [lclOf] using this, fun x hx => h.lv x.p (List.mem_map.2 ⟨x, hx, rfl⟩)⟩
theorem atAt_one {W : World} {x : M.Atm} (hx : InR x.n) : AtAt (W.alloc (.cells #[.int .i64 x.k, .int .i64 x.n] 34)) (.slice (some ⟨W.heap.size, 0, none⟩) 1 1) [x] := by
  have h := atAt_new W [x] (by simp) (by intro y hy; rw [List.mem_singleton.1 hy]; exact hx)
  exact h

set_option maxHeartbeats 4000000 in
theorem smayPut_any (w : World) (x : M.Atm) (v : Value) (s : M.Shp) (h : ShAt w v s) (hx : InR x.n) (hK : M.Sm 100000 s) :
    Calls Tryz.prog 53 #[av x, v] w fun e w' => e = .returned (.bool (M.placeB x && M.mayS s)) ∧ Below w.heap.size w w' := by
  obtain ⟨a, c, b, d, rfl⟩ := h.form
  unfold av
  obtain ⟨A1, hA1⟩ : ∃ o, (.cells #[.int .i64 x.k, .int .i64 x.n] 34 : Obj) = o := ⟨_, rfl⟩
  obtain ⟨A2, hA2⟩ : ∃ o, (.cells #[.slice a s.fs.length c, .slice b s.pr.length d] 31 : Obj) = o := ⟨_, rfl⟩
  obtain ⟨W0, hW0⟩ : ∃ W0, (w.alloc A1).alloc A2 = W0 := ⟨_, rfl⟩
  have b1 := (gr_new w A1).below
  have b2 := (gr_new (w.alloc A1) A2).below
  have p3 : W0.heap[w.heap.size]? = some A1 := by rw [← hW0]; exact kept (B := (w.alloc A1).heap.size) (new_at w A1) (by simp) b2
  have p4 : W0.heap[w.heap.size + 1]? = some A2 := by
    rw [← hW0]
    have := new_at (w.alloc A1) A2
    rw [World.size_alloc] at this
    exact this
  have hz : w.heap.size + 2 ≤ W0.heap.size := by rw [← hW0]; simp
  have B0 : Hid (Below w.heap.size w W0) := by unfold Hid; rw [← hW0]; exact b1.trans (b2.mono b1.size)
  rw [← hA1] at p3
  rw [← hA2] at p4
  obtain ⟨W1, hW1⟩ : ∃ W1, W0.alloc A1 = W1 := ⟨_, rfl⟩
  have b3 := (gr_new W0 A1).below
  rw [hW1] at b3
  have T1 : Hid (AtAt W1 (.slice (some ⟨W0.heap.size, 0, none⟩) 1 1) [x]) := by unfold Hid; rw [← hW1, ← hA1]; exact atAt_one hx
  subst hA1 hA2
  have P1 := hid p3
  have P2 := hid p4
  have B1 : Hid (Below w.heap.size w W1) := B0.out.trans (b3.mono B0.out.size)
  have Q2 := hid (kept P2.out (by omega) b3)
  have TS := hid h
  have HK := hid hK
  obtain ⟨x1, x2, _⟩ := cells2 p3
  obtain ⟨y1, y2, _⟩ := cells2 p4
  clear b1 b2 b3 p3 p4 h hK
  have hyes : (x.k = 4 ∨ x.k = 5) → x.k ≠ 4 ∧ x.k = 5 ∨ x.k = 4 := by omega
  rcases Classical.em (x.k = 4 ∨ x.k = 5) with h45 | hno
  · have hpl := M.placeB_yes h45
    rw [hpl]
    have K1 := gr_bel (may_any W1 _ [x] T1.out (by simp))
    rcases hyes h45 with ⟨h4, h5⟩ | h4
    all_goals
      clear hyes h45 hpl
      first
      | have e4 : (x.k == 4) = true := by simpa using h4
        skip
      | have e4 : (x.k == 4) = false := by simpa using h4
        have e5 : (x.k == 5) = true := by simpa using h5
        clear h5
      clear h4
      cases hm : M.mayL [x] with
      | false =>
        rw [hm] at K1
        have HK1 := hid K1
        have HM := hid hm
        clear K1 hm
        go_enter Tryz.func53, Tryz.ntmps53
        go_wp2_with (go_at_call 51; refine stopHere ?_)
        refine stopAt ?_
        refine HK1.out.mono ?_
        rintro e w2 ⟨rfl, hb2⟩
        clear hW0 hW1 x1 x2 y1 y2
        go_wp2
        go_ret
        exact ⟨rfl, B1.out.trans (hb2.mono B1.out.size)⟩
      | true =>
        rw [hm] at K1
        have HK1 := hid K1
        have HM := hid hm
        clear K1 hm
        go_enter Tryz.func53, Tryz.ntmps53
        go_wp2_with (go_at_call 51; refine stopHere ?_)
        refine stopAt ?_
        refine HK1.out.mono ?_
        rintro e w2 ⟨rfl, hb2⟩
        have B2 : Hid (Below w.heap.size w w2) := B1.out.trans (hb2.mono B1.out.size)
        have hz1 : w.heap.size + 1 < W1.heap.size := (Array.getElem?_eq_some_iff.1 Q2.out).1
        obtain ⟨z1, z2, _⟩ := cells2 (kept Q2.out hz1 hb2)
        have K2 := hid (omay_any w2 _ s (TS.out.bel B2.out) HK.out)
        clear hW0 hW1 x1 x2 y1 y2 hb2
        go_wp2_with (go_at_call 41; refine stopHere ?_)
        refine stopAt ?_
        refine K2.out.mono ?_
        rintro e w3 ⟨rfl, hb3⟩
        clear z1 z2
        go_wp2
        go_ret
        exact ⟨rfl, B2.out.trans (hb3.mono B2.out.size)⟩
  · have h4 : x.k ≠ 4 := fun e => hno (.inl e)
    have h5 : x.k ≠ 5 := fun e => hno (.inr e)
    rw [M.placeB_not h4 h5]
    have e4 : (x.k == 4) = false := by simpa using h4
    have e5 : (x.k == 5) = false := by simpa using h5
    clear h4 h5 hno hyes hW1
    go_enter Tryz.func53, Tryz.ntmps53
    go_wp2
    go_ret
    exact ⟨rfl, B0.out⟩

/-- the first j may be, and rise -/
def MayUpB (B : List Bnd) (j : Nat) : Prop := (∀ i (h : i < B.length), i < j → M.mayL B[i].vs = true) ∧ (∀ i (h : i + 1 < B.length), i + 1 < j → M.ltN B[i].nm B[i + 1].nm = true)
def MayUpL (L : List Lcl) (j : Nat) : Prop := (∀ i (h : i < L.length), i < j → (M.placeB L[i].x && M.mayS L[i].s) = true) ∧ (∀ i (h : i + 1 < L.length), i + 1 < j → M.ltA L[i].x L[i + 1].x = true)
theorem MayUpB_zero (R : List Bnd) : MayUpB R 0 := ⟨fun i _ h => absurd h (Nat.not_lt_zero _), fun i _ h => absurd h (Nat.not_lt_zero _)⟩
theorem MayUpB_first {R : List Bnd} (h : 0 < R.length) (ho : M.mayL R[0].vs = true) : MayUpB R 1 := ⟨fun i hi h => by
    obtain rfl : i = 0 := by omega
    exact ho, fun i _ h => absurd h (by omega)⟩
theorem MayUpB_step {R : List Bnd} {t : Nat} (h : MayUpB R (t + 1)) (ht : t + 1 < R.length) (ho : M.mayL R[t + 1].vs = true) (hl : M.ltN R[t].nm R[t + 1].nm = true) : MayUpB R (t + 1 + 1) := ⟨fun i hi hj => by
    rcases Nat.lt_succ_iff_lt_or_eq.1 hj with h' | rfl
    · exact h.1 i hi h'
    · exact ho, fun i hi hj => by
    rcases Nat.lt_succ_iff_lt_or_eq.1 hj with h' | h'
    · exact h.2 i hi h'
    · obtain rfl : i = t := by omega
      exact hl⟩
theorem MayUpB_end {R : List Bnd} {j : Nat} (h : MayUpB R j) (hj : R.length ≤ j) : M.okV (bndOf R) :=
  ⟨M.risK_adj M.keyN fun i hi => by
    rw [bndOf_len] at hi
    rw [bndOf_get R i (by omega), bndOf_get R (i + 1) hi]
    exact h.2 i hi (by omega), fun z hz => by
    obtain ⟨x, hx, rfl⟩ := List.mem_map.1 hz
    obtain ⟨i, hi, rfl⟩ := List.getElem_of_mem hx
    exact h.1 i hi (by omega)⟩
theorem MayUpB_no {R : List Bnd} {j : Nat} (hj : j < R.length) (ho : M.mayL R[j].vs = false) : ¬ M.okV (bndOf R) := fun h => by
  have := h.2 R[j].p (List.mem_map.2 ⟨_, List.getElem_mem hj, rfl⟩)
  have e : M.mayL R[j].vs = true := this
  rw [ho] at e; cases e
theorem MayUpB_fall {R : List Bnd} {t : Nat} (hj : t + 1 < R.length) (ho : M.ltN R[t].nm R[t + 1].nm = false) : ¬ M.okV (bndOf R) := fun h => by
  have := M.risK_get M.keyN h.1 (Nat.lt_succ_self t) (by rw [bndOf_len]; exact hj)
  rw [bndOf_get R t (by omega), bndOf_get R (t + 1) hj] at this
  have e : M.ltN R[t].nm R[t + 1].nm = true := this
  rw [ho] at e; cases e
theorem MayUpL_zero (R : List Lcl) : MayUpL R 0 := ⟨fun i _ h => absurd h (Nat.not_lt_zero _), fun i _ h => absurd h (Nat.not_lt_zero _)⟩
theorem MayUpL_first {R : List Lcl} (h : 0 < R.length) (ho : (M.placeB R[0].x && M.mayS R[0].s) = true) : MayUpL R 1 := ⟨fun i hi h => by
    obtain rfl : i = 0 := by omega
    exact ho, fun i _ h => absurd h (by omega)⟩
theorem MayUpL_step {R : List Lcl} {t : Nat} (h : MayUpL R (t + 1)) (ht : t + 1 < R.length) (ho : (M.placeB R[t + 1].x && M.mayS R[t + 1].s) = true) (hl : M.ltA R[t].x R[t + 1].x = true) : MayUpL R (t + 1 + 1) := ⟨fun i hi hj => by
    rcases Nat.lt_succ_iff_lt_or_eq.1 hj with h' | rfl
    · exact h.1 i hi h'
    · exact ho, fun i hi hj => by
    rcases Nat.lt_succ_iff_lt_or_eq.1 hj with h' | h'
    · exact h.2 i hi h'
    · obtain rfl : i = t := by omega
      exact hl⟩
theorem MayUpL_end {R : List Lcl} {j : Nat} (h : MayUpL R j) (hj : R.length ≤ j) : M.okL (lclOf R) :=
  ⟨M.risK_adj M.keyA fun i hi => by
    rw [lclOf_len] at hi
    rw [lclOf_get R i (by omega), lclOf_get R (i + 1) hi]
    exact h.2 i hi (by omega), fun z hz => by
    obtain ⟨x, hx, rfl⟩ := List.mem_map.1 hz
    obtain ⟨i, hi, rfl⟩ := List.getElem_of_mem hx
    exact h.1 i hi (by omega)⟩
theorem MayUpL_no {R : List Lcl} {j : Nat} (hj : j < R.length) (ho : (M.placeB R[j].x && M.mayS R[j].s) = false) : ¬ M.okL (lclOf R) := fun h => by
  have := h.2 R[j].p (List.mem_map.2 ⟨_, List.getElem_mem hj, rfl⟩)
  have e : (M.placeB R[j].x && M.mayS R[j].s) = true := this
  rw [ho] at e; cases e
theorem MayUpL_fall {R : List Lcl} {t : Nat} (hj : t + 1 < R.length) (ho : M.ltA R[t].x R[t + 1].x = false) : ¬ M.okL (lclOf R) := fun h => by
  have := M.risK_get M.keyA h.1 (Nat.lt_succ_self t) (by rw [lclOf_len]; exact hj)
  rw [lclOf_get R t (by omega), lclOf_get R (t + 1) hj] at this
  have e : M.ltA R[t].x R[t + 1].x = true := this
  rw [ho] at e; cases e
theorem bel_box2 {w : World} {g : Nat} {T : TypeId} {v0 v1 : Value} (h : w.heap[g]? = some (.cells #[v0, v1] T (0, 0))) : (∀ q : BelBy w, q.W.cell? ⟨g, 0, none⟩ = some v0) ∧ (∀ q : BelBy w, q.W.cell? ⟨g, 1, none⟩ = some v1) := by
  obtain ⟨c1, c2, _⟩ := cells2 h
  have hg := (Array.getElem?_eq_some_iff.1 h).1
  exact ⟨bel_cell hg c1, bel_cell hg c2⟩
theorem bel_box3 {w : World} {g : Nat} {T : TypeId} {v0 v1 v2 : Value} (h : w.heap[g]? = some (.cells #[v0, v1, v2] T (0, 0))) : (∀ q : BelBy w, q.W.cell? ⟨g, 0, none⟩ = some v0) ∧ (∀ q : BelBy w, q.W.cell? ⟨g, 1, none⟩ = some v1) ∧ (∀ q : BelBy w, q.W.cell? ⟨g, 2, none⟩ = some v2) := by
  obtain ⟨c1, c2, c3, _⟩ := cells3 h
  have hg := (Array.getElem?_eq_some_iff.1 h).1
  exact ⟨bel_cell hg c1, bel_cell hg c2, bel_cell hg c3⟩
theorem bel_box4 {w : World} {g : Nat} {T : TypeId} {v0 v1 v2 v3 : Value} (h : w.heap[g]? = some (.cells #[v0, v1, v2, v3] T (0, 0))) : (∀ q : BelBy w, q.W.cell? ⟨g, 0, none⟩ = some v0) ∧ (∀ q : BelBy w, q.W.cell? ⟨g, 1, none⟩ = some v1) ∧ (∀ q : BelBy w, q.W.cell? ⟨g, 2, none⟩ = some v2) ∧ (∀ q : BelBy w, q.W.cell? ⟨g, 3, none⟩ = some v3) := by
  obtain ⟨c1, c2, c3, c4, _⟩ := cells4 h
  have hg := (Array.getElem?_eq_some_iff.1 h).1
  exact ⟨bel_cell hg c1, bel_cell hg c2, bel_cell hg c3, bel_cell hg c4⟩
theorem bx_b {w w' : World} {g B : Nat} {o : Obj} (h : w.heap[g]? = some o) (hb : Below B w w') (hB : g < B) : w'.heap[g]? = some o := kept h hB hb

set_option maxHeartbeats 8000000 in
set_option maxRecDepth 100000 in
theorem smay_any (w : World) (v : Value) (s : M.Sta) (h : StAt w v s) (hK : M.SmSt 100000 s) :
    Calls Tryz.prog 30 #[v] w fun e w' => e = .returned (.bool (M.maySt s)) ∧ Below w.heap.size w w' := by
  obtain ⟨B, L, a, c, b, d, hs, rfl, hB, hL⟩ := h.open
  have mixed := mixedP
  obtain ⟨hn, hvs, hm, hls⟩ := smStB hK hs
  have HV := hid hvs
  have HL := hid hls
  have TB := hid hB
  have TL := hid hL
  obtain ⟨dd, hdd⟩ : ∃ x, s.dead = x := ⟨_, rfl⟩
  rw [hdd] at hs ⊢
  subst hs
  clear h hK hvs hls hB hL hdd
  obtain ⟨W0, hW0⟩ : ∃ W0, w.alloc (.cells #[.bool dd, .slice a B.length c, .slice b L.length d] 25) = W0 := ⟨_, rfl⟩
  have B0 : Hid (Below w.heap.size w W0) := by unfold Hid; rw [← hW0]; exact (gr_new _ _).below
  have P0 : Hid (W0.heap[w.heap.size]? = some (.cells #[.bool dd, .slice a B.length c, .slice b L.length d] 25 (0, 0))) := by unfold Hid; rw [← hW0]; exact new_at _ _
  have hz0 : w.heap.size < W0.heap.size := by rw [← hW0]; simp
  obtain ⟨x1, x2, x3, xf⟩ := cells3 P0.out
  cases dd with
  | true =>
    rw [M.maySt_dead]
    have e1 : (bndOf B).isEmpty = decide (B.length = 0) := by cases B <;> simp [bndOf]
    have e2 : (lclOf L).isEmpty = decide (L.length = 0) := by cases L <;> simp [lclOf]
    rw [e1, e2]
    clear e1 e2
    by_cases h1 : B.length = 0
    · by_cases h2 : L.length = 0
      · have f1 : ((B.length : Int) == 0) = true := by simp [h1]
        have f2 : ((L.length : Int) == 0) = true := by simp [h2]
        rw [decide_eq_true h1, decide_eq_true h2]
        clear h1 h2
        go_enter Tryz.func30, Tryz.ntmps30
        go_wp2
        go_ret
        exact ⟨rfl, B0.out⟩
      · have f1 : ((B.length : Int) == 0) = true := by simp [h1]
        have f2 : ((L.length : Int) == 0) = false := by rw [beq_eq_false_iff_ne]; omega
        rw [decide_eq_true h1, decide_eq_false h2]
        clear h1 h2
        go_enter Tryz.func30, Tryz.ntmps30
        go_wp2
        go_ret
        exact ⟨rfl, B0.out⟩
    · have f1 : ((B.length : Int) == 0) = false := by rw [beq_eq_false_iff_ne]; omega
      rw [decide_eq_false h1]
      clear h1
      go_enter Tryz.func30, Tryz.ntmps30
      go_wp2
      go_ret
      exact ⟨rfl, B0.out⟩
  | false =>
    go_enter Tryz.func30, Tryz.ntmps30
    go_wp2
    clear hW0 x1 x2 x3 xf
    go_loopw [22] (fun i w' => ∃ j : Nat, j ≤ B.length ∧ i = .int .i64 j ∧ Hid (MayUpB B j) ∧ Hid (Below W0.heap.size W0 w')) (fun i _ => B.length - (intOf i).toNat)
    case atStart => exact ⟨0, Nat.zero_le _, rfl, MayUpB_zero B, Below.refl _ _⟩
    case round =>
      obtain ⟨j, hj, rfl, hm, hbel⟩ := hrel
      have hBW : Hid (Below w.heap.size w wr) := B0.out.trans (hbel.out.mono (Nat.le_of_lt hz0))
      have hwr : w.heap.size < wr.heap.size := Nat.lt_of_lt_of_le hz0 hbel.out.size
      have PW := hid (kept P0.out hz0 hbel.out)
      by_cases hjl : j < B.length
      · obtain ⟨bb, o, rfl, hlt, hc⟩ := Bs_some (TB.out.bel hBW.out) hjl
        obtain ⟨c1, c2⟩ := hc j hjl
        have HX := hid (((TB.out.bel hBW.out).2 _ (List.getElem_mem hjl)))
        have hxl := HV.out _ (List.getElem_mem hjl)
        have HC := hid hc
        obtain ⟨x, hx⟩ : ∃ x, B[j] = x := ⟨_, rfl⟩
        rw [hx] at c1 c2 HX hxl
        have HXE := hid hx
        clear hx hc
        obtain ⟨W1, hW1⟩ : ∃ W1, wr.alloc (.cells #[.string x.nm, .slice x.a x.vs.length x.c] 47) = W1 := ⟨_, rfl⟩
        have hB1 : Below wr.heap.size wr W1 := by rw [← hW1]; exact (gr_new _ _).below
        have hsz : wr.heap.size < W1.heap.size := by rw [← hW1]; simp
        have n0 : W1.heap[wr.heap.size]? = some (.cells #[.string x.nm, .slice x.a x.vs.length x.c] 47 (0, 0)) := by rw [← hW1]; exact new_at _ _
        have HX1 := hid (HX.out.ext (Ext.of_below hB1))
        have hBW1 : Hid (Below W0.heap.size W0 W1) := hbel.out.trans (hB1.mono hbel.out.size)
        have K1 := fun W (hb : Below W1.heap.size W1 W) => gr_bel (may_any W _ _ (AtAt.bel HX1.out hb) (Nat.le_trans hxl (by omega)))
        unfold Bnd.v at K1
        obtain ⟨N1, N2⟩ := bel_box2 n0
        obtain ⟨Y1, Y2, Y3⟩ := bel_box3 (kept PW.out hwr hB1)
        cases hok : M.mayL x.vs with
        | false =>
          rw [hok] at K1
          have HOK := hid hok
          have HK1 := hid (call_bel K1)
          clear hok K1 n0
          go_wp2_with fail
          clear hW1 c1 c2
          refine wp_region_quiet_bel (by assumption) (by kernel_rfl) ?_
          intro hneq
          repeat (
            with_reducible refine wpQuiet_step (fun K hK => ?_)
            go_simp
            first
              | (with_reducible refine hK _ ?_; clear hK K)
              | (rw [if_neg (by simp [undef])]; with_reducible refine hK _ ?_; clear hK K)
              | (apply Exists.intro
                 refine ⟨fun _ => ?_, hK _ ?_⟩
                 (first | (go_at_call 51; with_reducible exact HK1.out _))
                 clear hK K))
          with_reducible refine wpQuiet_nil ?_
          intro _ hw0
          obtain ⟨pq, hw1⟩ := hw0
          subst hw1
          clear hneq
          go_wp2
          go_ret
          refine ⟨ret_bool ?_, B0.out.trans ((hBW1.out.trans (pq.h.mono hBW1.out.size)).mono (Nat.le_of_lt hz0))⟩
          exact M.maySt_noV (MayUpB_no hjl (by rw [HXE.out]; exact HOK.out))
        | true =>
          rw [hok] at K1
          have HOK := hid hok
          have HK1 := hid (call_bel K1)
          clear hok K1 n0
          rcases Nat.eq_zero_or_pos j with rfl | hj0
          · simp only [Nat.zero_mul, Nat.add_zero] at c1 c2
            go_wp2_with fail
            clear hW1 c1 c2
            refine wp_region_quiet_bel (by assumption) (by kernel_rfl) ?_
            intro hneq
            repeat (
              with_reducible refine wpQuiet_step (fun K hK => ?_)
              go_simp
              first
                | (with_reducible refine hK _ ?_; clear hK K)
                | (rw [if_neg (by simp [undef])]; with_reducible refine hK _ ?_; clear hK K)
                | (apply Exists.intro
                   refine ⟨fun _ => ?_, hK _ ?_⟩
                   (first | (go_at_call 51; with_reducible exact HK1.out _))
                   clear hK K))
            with_reducible refine wpQuiet_nil ?_
            intro _ hw0
            obtain ⟨pq, hw1⟩ := hw0
            subst hw1
            clear hneq
            go_wp2
            refine ⟨⟨1, by omega, by go_num, MayUpB_first hjl (by rw [HXE.out]; exact HOK.out), hBW1.out.trans (pq.h.mono hBW1.out.size)⟩, by simp [intOf]; omega⟩
          · obtain ⟨t, ht⟩ : ∃ t, j = t + 1 := ⟨j - 1, by omega⟩
            have htl : t < B.length := by omega
            have hsub : IntKind.i64.wrap ((j : Int) - 1) = (t : Int) := by rw [IntKind.wrap_i64]; omega
            have hpos : decide ((j : Int) > 0) = true := decide_eq_true (by omega)
            have hpos2 : (0 : Int) < (j : Int) := by omega
            have HT := hid ht
            clear ht
            obtain ⟨d1, d2⟩ := HC.out t htl
            obtain ⟨y, hy⟩ : ∃ y, B[t] = y := ⟨_, rfl⟩
            rw [hy] at d1 d2
            have HY := hid hy
            clear hy
            rw [← hB1.cell (p := ⟨bb, o + t * 2, none⟩) hlt] at d1
            have D1 := bel_cell (Nat.lt_of_lt_of_le hlt hB1.size) d1
            rw [← hB1.cell (p := ⟨bb, o + t * 2 + 1, none⟩) hlt] at d2
            have D2 := bel_cell (Nat.lt_of_lt_of_le hlt hB1.size) d2
            clear d1 d2
            have K2 := fun W (hb : Below W1.heap.size W1 W) => gr_bel (sbyName_any y x W)
            unfold bv at K2
            obtain ⟨r, hr⟩ : ∃ r, cmpN y.nm x.nm = r := ⟨_, rfl⟩
            rw [hr] at K2
            have HR := hid hr
            have HK2 := hid (call_bel K2)
            clear hr K2
            by_cases hge : r ≥ 0
            · have hd : decide (r ≥ 0) = true := decide_eq_true hge
              have hl : Hid (M.ltN y.nm x.nm = false) := by
                unfold Hid
                cases hq : M.ltN y.nm x.nm with
                | false => rfl
                | true => have : r < 0 := by rw [← HR.out]; exact (cmpN_lt _ _).2 hq
                          omega
              go_wp2_with fail
              clear hW1 c1 c2
              refine wp_region_quiet_bel (by assumption) (by kernel_rfl) ?_
              intro hneq
              repeat (
                with_reducible refine wpQuiet_step (fun K hK => ?_)
                go_simp
                first
                  | (with_reducible refine hK _ ?_; clear hK K)
                  | (rw [if_neg (by simp [undef])]; with_reducible refine hK _ ?_; clear hK K)
                  | (apply Exists.intro
                     refine ⟨fun _ => ?_, hK _ ?_⟩
                     (first | (go_at_call 51; with_reducible exact HK1.out _) | (go_at_call 52; with_reducible exact HK2.out _))
                     clear hK K))
              with_reducible refine wpQuiet_nil ?_
              intro _ hw0
              obtain ⟨pq, hw1⟩ := hw0
              subst hw1
              clear hneq
              go_wp2
              go_ret
              obtain rfl := HT.out
              refine ⟨ret_bool ?_, B0.out.trans ((hBW1.out.trans (pq.h.mono hBW1.out.size)).mono (Nat.le_of_lt hz0))⟩
              exact M.maySt_noV (MayUpB_fall hjl (by rw [HXE.out, HY.out]; exact hl.out))
            · have hd : decide (r ≥ 0) = false := decide_eq_false hge
              have hl : Hid (M.ltN y.nm x.nm = true) := by
                unfold Hid
                exact (cmpN_lt _ _).1 (by rw [HR.out]; omega)
              go_wp2_with fail
              clear hW1 c1 c2
              refine wp_region_quiet_bel (by assumption) (by kernel_rfl) ?_
              intro hneq
              repeat (
                with_reducible refine wpQuiet_step (fun K hK => ?_)
                go_simp
                first
                  | (with_reducible refine hK _ ?_; clear hK K)
                  | (rw [if_neg (by simp [undef])]; with_reducible refine hK _ ?_; clear hK K)
                  | (apply Exists.intro
                     refine ⟨fun _ => ?_, hK _ ?_⟩
                     (first | (go_at_call 51; with_reducible exact HK1.out _) | (go_at_call 52; with_reducible exact HK2.out _))
                     clear hK K))
              with_reducible refine wpQuiet_nil ?_
              intro _ hw0
              obtain ⟨pq, hw1⟩ := hw0
              subst hw1
              clear hneq
              go_wp2
              obtain rfl := HT.out
              refine ⟨⟨t + 1 + 1, by omega, by go_num, MayUpB_step hm.out hjl (by rw [HXE.out]; exact HOK.out) (by rw [HXE.out, HY.out]; exact hl.out), hBW1.out.trans (pq.h.mono hBW1.out.size)⟩, by simp [intOf]; omega⟩
      · have HE := hid (MayUpB_end hm.out (by omega : B.length ≤ j))
        obtain ⟨x1, x2, x3, xf⟩ := cells3 PW.out
        obtain ⟨W2, hW2⟩ : ∃ W2, W2 = wr := ⟨_, rfl⟩
        rw [← hW2] at hBW hwr PW x1 x2 x3 xf ⊢
        have hbel0 : Hid (Below W0.heap.size W0 W2) := by rw [hW2]; exact hbel.out
        clear hbel hm hW2
        go_wp2
        clear x1 x2 x3 xf hj hjl
        go_loopw [50] (fun i w' => ∃ j : Nat, j ≤ L.length ∧ i = .int .i64 j ∧ Hid (MayUpL L j) ∧ Hid (Below W0.heap.size W0 w')) (fun i _ => L.length - (intOf i).toNat)
        case atStart => exact ⟨0, Nat.zero_le _, rfl, MayUpL_zero L, hbel0⟩
        case round =>
          clear hBW hwr PW
          obtain ⟨j, hj, rfl, hm, hbel⟩ := hrel
          have hBW : Hid (Below w.heap.size w wr) := B0.out.trans (hbel.out.mono (Nat.le_of_lt hz0))
          have hwr : w.heap.size < wr.heap.size := Nat.lt_of_lt_of_le hz0 hbel.out.size
          have PW := hid (kept P0.out hz0 hbel.out)
          by_cases hjl : j < L.length
          · obtain ⟨bb, o, rfl, hlt, hc⟩ := Ls_some (TL.out.bel hBW.out) hjl
            obtain ⟨c1, c2, c3, c4⟩ := hc j hjl
            have HX := hid (((TL.out.bel hBW.out).2 _ (List.getElem_mem hjl)))
            have hxl := HL.out _ (List.getElem_mem hjl)
            have HC := hid hc
            obtain ⟨x, hx⟩ : ∃ x, L[j] = x := ⟨_, rfl⟩
            rw [hx] at c1 c2 c3 c4 HX hxl
            have HXE := hid hx
            clear hx hc
            obtain ⟨W1, hW1⟩ : ∃ W1, wr.alloc (.cells #[.int .i64 x.x.k, .int .i64 x.x.n, .slice x.fa x.s.fs.length x.fn, .slice x.pa x.s.pr.length x.pn] 36) = W1 := ⟨_, rfl⟩
            have hB1 : Below wr.heap.size wr W1 := by rw [← hW1]; exact (gr_new _ _).below
            have hsz : wr.heap.size < W1.heap.size := by rw [← hW1]; simp
            have n0 : W1.heap[wr.heap.size]? = some (.cells #[.int .i64 x.x.k, .int .i64 x.x.n, .slice x.fa x.s.fs.length x.fn, .slice x.pa x.s.pr.length x.pn] 36 (0, 0)) := by rw [← hW1]; exact new_at _ _
            have HX1 := hid (HX.out.ext (Ext.of_below hB1))
            have hBW1 : Hid (Below W0.heap.size W0 W1) := hbel.out.trans (hB1.mono hbel.out.size)
            have K1 := fun W (hb : Below W1.heap.size W1 W) => smayPut_any W x.x _ x.s (ShAt.bel HX1.out.2 hb) HX1.out.1 hxl
            unfold Lcl.v av at K1
            obtain ⟨N1, N2, N3, N4⟩ := bel_box4 n0
            obtain ⟨Y1, Y2, Y3⟩ := bel_box3 (kept PW.out hwr hB1)
            cases hok : (M.placeB x.x && M.mayS x.s) with
            | false =>
              rw [hok] at K1
              have HOK := hid hok
              have HK1 := hid (call_bel K1)
              clear hok K1 n0
              go_wp2_with fail
              clear hW1 c1 c2 c3 c4
              refine wp_region_quiet_bel (by assumption) (by kernel_rfl) ?_
              intro hneq
              repeat (
                with_reducible refine wpQuiet_step (fun K hK => ?_)
                go_simp
                first
                  | (with_reducible refine hK _ ?_; clear hK K)
                  | (rw [if_neg (by simp [undef])]; with_reducible refine hK _ ?_; clear hK K)
                  | (apply Exists.intro
                     refine ⟨fun _ => ?_, hK _ ?_⟩
                     (first | (go_at_call 53; with_reducible exact HK1.out _))
                     clear hK K))
              with_reducible refine wpQuiet_nil ?_
              intro _ hw0
              obtain ⟨pq, hw1⟩ := hw0
              subst hw1
              clear hneq
              go_wp2
              go_ret
              refine ⟨ret_bool ?_, B0.out.trans ((hBW1.out.trans (pq.h.mono hBW1.out.size)).mono (Nat.le_of_lt hz0))⟩
              exact M.maySt_noL (MayUpL_no hjl (by rw [HXE.out]; exact HOK.out))
            | true =>
              rw [hok] at K1
              have HOK := hid hok
              have HK1 := hid (call_bel K1)
              clear hok K1 n0
              rcases Nat.eq_zero_or_pos j with rfl | hj0
              · simp only [Nat.zero_mul, Nat.add_zero] at c1 c2 c3 c4
                go_wp2_with fail
                clear hW1 c1 c2 c3 c4
                refine wp_region_quiet_bel (by assumption) (by kernel_rfl) ?_
                intro hneq
                repeat (
                  with_reducible refine wpQuiet_step (fun K hK => ?_)
                  go_simp
                  first
                    | (with_reducible refine hK _ ?_; clear hK K)
                    | (rw [if_neg (by simp [undef])]; with_reducible refine hK _ ?_; clear hK K)
                    | (apply Exists.intro
                       refine ⟨fun _ => ?_, hK _ ?_⟩
                       (first | (go_at_call 53; with_reducible exact HK1.out _))
                       clear hK K))
                with_reducible refine wpQuiet_nil ?_
                intro _ hw0
                obtain ⟨pq, hw1⟩ := hw0
                subst hw1
                clear hneq
                go_wp2
                refine ⟨⟨1, by omega, by go_num, MayUpL_first hjl (by rw [HXE.out]; exact HOK.out), hBW1.out.trans (pq.h.mono hBW1.out.size)⟩, by simp [intOf]; omega⟩
              · obtain ⟨t, ht⟩ : ∃ t, j = t + 1 := ⟨j - 1, by omega⟩
                have htl : t < L.length := by omega
                have hsub : IntKind.i64.wrap ((j : Int) - 1) = (t : Int) := by rw [IntKind.wrap_i64]; omega
                have hpos : decide ((j : Int) > 0) = true := decide_eq_true (by omega)
                have hpos2 : (0 : Int) < (j : Int) := by omega
                have HT := hid ht
                clear ht
                obtain ⟨d1, d2, d3, d4⟩ := HC.out t htl
                obtain ⟨y, hy⟩ : ∃ y, L[t] = y := ⟨_, rfl⟩
                rw [hy] at d1 d2 d3 d4
                have HY := hid hy
                clear hy
                rw [← hB1.cell (p := ⟨bb, o + t * 4, none⟩) hlt] at d1
                have D1 := bel_cell (Nat.lt_of_lt_of_le hlt hB1.size) d1
                rw [← hB1.cell (p := ⟨bb, o + t * 4 + 1, none⟩) hlt] at d2
                have D2 := bel_cell (Nat.lt_of_lt_of_le hlt hB1.size) d2
                rw [← hB1.cell (p := ⟨bb, o + t * 4 + 2, none⟩) hlt] at d3
                have D3 := bel_cell (Nat.lt_of_lt_of_le hlt hB1.size) d3
                rw [← hB1.cell (p := ⟨bb, o + t * 4 + 3, none⟩) hlt] at d4
                have D4 := bel_cell (Nat.lt_of_lt_of_le hlt hB1.size) d4
                clear d1 d2 d3 d4
                have K2 := fun W (hb : Below W1.heap.size W1 W) => gr_bel (sbyAtom_any y x W)
                unfold lv at K2
                obtain ⟨r, hr⟩ : ∃ r, ordI y.x x.x = r := ⟨_, rfl⟩
                rw [hr] at K2
                have HR := hid hr
                have HK2 := hid (call_bel K2)
                clear hr K2
                by_cases hge : r ≥ 0
                · have hd : decide (r ≥ 0) = true := decide_eq_true hge
                  have hl : Hid (M.ltA y.x x.x = false) := by
                    unfold Hid
                    cases hq : M.ltA y.x x.x with
                    | false => rfl
                    | true => have : r < 0 := by rw [← HR.out]; exact (ordI_lt _ _).2 hq
                              omega
                  go_wp2_with fail
                  clear hW1 c1 c2 c3 c4
                  refine wp_region_quiet_bel (by assumption) (by kernel_rfl) ?_
                  intro hneq
                  repeat (
                    with_reducible refine wpQuiet_step (fun K hK => ?_)
                    go_simp
                    first
                      | (with_reducible refine hK _ ?_; clear hK K)
                      | (rw [if_neg (by simp [undef])]; with_reducible refine hK _ ?_; clear hK K)
                      | (apply Exists.intro
                         refine ⟨fun _ => ?_, hK _ ?_⟩
                         (first | (go_at_call 53; with_reducible exact HK1.out _) | (go_at_call 54; with_reducible exact HK2.out _))
                         clear hK K))
                  with_reducible refine wpQuiet_nil ?_
                  intro _ hw0
                  obtain ⟨pq, hw1⟩ := hw0
                  subst hw1
                  clear hneq
                  go_wp2
                  go_ret
                  obtain rfl := HT.out
                  refine ⟨ret_bool ?_, B0.out.trans ((hBW1.out.trans (pq.h.mono hBW1.out.size)).mono (Nat.le_of_lt hz0))⟩
                  exact M.maySt_noL (MayUpL_fall hjl (by rw [HXE.out, HY.out]; exact hl.out))
                · have hd : decide (r ≥ 0) = false := decide_eq_false hge
                  have hl : Hid (M.ltA y.x x.x = true) := by
                    unfold Hid
                    exact (ordI_lt _ _).1 (by rw [HR.out]; omega)
                  go_wp2_with fail
                  clear hW1 c1 c2 c3 c4
                  refine wp_region_quiet_bel (by assumption) (by kernel_rfl) ?_
                  intro hneq
                  repeat (
                    with_reducible refine wpQuiet_step (fun K hK => ?_)
                    go_simp
                    first
                      | (with_reducible refine hK _ ?_; clear hK K)
                      | (rw [if_neg (by simp [undef])]; with_reducible refine hK _ ?_; clear hK K)
                      | (apply Exists.intro
                         refine ⟨fun _ => ?_, hK _ ?_⟩
                         (first | (go_at_call 53; with_reducible exact HK1.out _) | (go_at_call 54; with_reducible exact HK2.out _))
                         clear hK K))
                  with_reducible refine wpQuiet_nil ?_
                  intro _ hw0
                  obtain ⟨pq, hw1⟩ := hw0
                  subst hw1
                  clear hneq
                  go_wp2
                  obtain rfl := HT.out
                  refine ⟨⟨t + 1 + 1, by omega, by go_num, MayUpL_step hm.out hjl (by rw [HXE.out]; exact HOK.out) (by rw [HXE.out, HY.out]; exact hl.out), hBW1.out.trans (pq.h.mono hBW1.out.size)⟩, by simp [intOf]; omega⟩
          · have HE2 := hid (MayUpL_end hm.out (by omega : L.length ≤ j))
            go_wp2
            go_ret
            exact ⟨ret_bool (M.maySt_end HE.out HE2.out), hBW.out⟩
end Go.Proofs.YtbaaeobdjiglgaaGreat
