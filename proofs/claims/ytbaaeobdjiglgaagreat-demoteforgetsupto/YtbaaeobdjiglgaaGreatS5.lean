/-
  Regions that draw, whose callees lay blocks of their own; the walks of object.May and of the document's May of shapes. Conditions: shapes of at most 100000 fields of as many atoms.
-/
import Derived.Test.YtbaaeobdjiglgaaGreatS4
import Derived.Test.YtbaaeobdjiglgaaGreatGL
set_option linter.unusedVariables false
set_option linter.unusedSimpArgs false
namespace Go.Proofs.YtbaaeobdjiglgaaGreat
open Go.RowKit Go.Sort

/-- a world in which all that w holds is as it is -/
structure BelBy (w : World) where
  W : World
  h : Below w.heap.size w W
theorem wp_region_quiet_bel {P : Program} {id : Nat} {Q : Exit → Act → World → Prop} {a : Act} {w : World} {l : List Oper} (hm : P.follows .mixedOrders = true) (hB : Region.lexB .any l.toArray = true)
    (h : Nonempty (BelBy w) → wpQuiet P l.toArray (fun w' => ∃ p : BelBy w, w' = p.W) (fun a' => ∀ w', (∃ p : BelBy w, w' = p.W) → Q .normal a' w') l a) : (Code.region id l.toArray true).wp P Q a w :=
  wp_region_quiet (C := fun w' => ∃ p : BelBy w, w' = p.W) hm hB ⟨⟨w.drew, (Gr.refl w).drew.below⟩, rfl⟩ (by simpa using h ⟨⟨w, Below.refl _ _⟩⟩)
theorem bel_cell {w : World} {b p : Nat} {v : Value} (hb : b < w.heap.size) (h : w.cell? ⟨b, p, none⟩ = some v) : ∀ q : BelBy w, q.W.cell? ⟨b, p, none⟩ = some v := fun q => by rw [q.h.cell (p := ⟨b, p, none⟩) hb]; exact h
theorem bel_tri {w : World} {b p : Nat} {x : Cel} (hb : b < w.heap.size) (h : Tri w b p x) : (∀ q : BelBy w, q.W.cell? ⟨b, p, none⟩ = some (.string x.f.nm)) ∧ (∀ q : BelBy w, q.W.cell? ⟨b, p + 1, none⟩ = some (.bool x.f.su)) ∧ (∀ q : BelBy w, q.W.cell? ⟨b, p + 2, none⟩ = some (.slice x.a x.f.vs.length x.c)) :=
  ⟨bel_cell hb h.1, bel_cell hb h.2.1, bel_cell hb h.2.2⟩
/-- a contract, in the form that a region takes -/
theorem call_bel {P : Program} {f : FuncId} {args : Array Value} {w : World} {v : Value} (h : ∀ W, Below w.heap.size w W → Calls P f args W fun e w' => e = .returned v ∧ Below W.heap.size W w') (p : BelBy w) :
    Calls P f args p.W fun e w'' => e = .returned v ∧ ∃ q : BelBy w, w'' = q.W :=
  (h p.W p.h).mono fun _ w'' ⟨he, hb⟩ => ⟨he, ⟨⟨w'', p.h.trans (hb.mono p.h.size)⟩, rfl⟩⟩
theorem gr_bel {P : Program} {f : FuncId} {args : Array Value} {w : World} {v : Value} (h : Calls P f args w fun e w' => e = .returned v ∧ Gr w w') : Calls P f args w fun e w' => e = .returned v ∧ Below w.heap.size w w' :=
  h.mono fun _ _ ⟨he, hg⟩ => ⟨he, hg.below⟩

/-- the first j fields may be, and rise -/
def MayUpF (R : List Cel) (j : Nat) : Prop := (∀ i (h : i < R.length), i < j → M.mayL R[i].f.vs = true) ∧ (∀ i (h : i + 1 < R.length), i + 1 < j → M.ltN R[i].f.nm R[i + 1].f.nm = true)
theorem mayUpF_zero (R : List Cel) : MayUpF R 0 := ⟨fun i _ h => absurd h (Nat.not_lt_zero _), fun i _ h => absurd h (Nat.not_lt_zero _)⟩
theorem mayUpF_first {R : List Cel} (h : 0 < R.length) (ho : M.mayL R[0].f.vs = true) : MayUpF R 1 := ⟨fun i hi h => by
    obtain rfl : i = 0 := by omega
    exact ho, fun i _ h => absurd h (by omega)⟩
theorem mayUpF_step {R : List Cel} {t : Nat} (h : MayUpF R (t + 1)) (ht : t + 1 < R.length) (ho : M.mayL R[t + 1].f.vs = true) (hl : M.ltN R[t].f.nm R[t + 1].f.nm = true) : MayUpF R (t + 1 + 1) := ⟨fun i hi hj => by
    rcases Nat.lt_succ_iff_lt_or_eq.1 hj with h' | rfl
    · exact h.1 i hi h'
    · exact ho, fun i hi hj => by
    rcases Nat.lt_succ_iff_lt_or_eq.1 hj with h' | h'
    · exact h.2 i hi h'
    · obtain rfl : i = t := by omega
      exact hl⟩
theorem risF_adj : ∀ {l : List M.Fld}, (∀ i (h : i + 1 < l.length), M.ltN l[i].nm l[i + 1].nm = true) → M.RisF l
  | [], _ => List.Pairwise.nil
  | [x], _ => by unfold M.RisF; simp
  | x :: y :: r, h => by
    have hr : M.RisF (y :: r) := risF_adj fun i hi => h (i + 1) (by simpa using hi)
    have hxy : M.ltN x.nm y.nm = true := h 0 (by simp)
    refine List.pairwise_cons.2 ⟨fun z hz => ?_, hr⟩
    rcases List.mem_cons.1 hz with e | e
    · rw [e]; exact hxy
    · exact M.ltN_trans hxy ((List.pairwise_cons.1 hr).1 z e)
theorem mayUpF_end {R : List Cel} {j : Nat} (h : MayUpF R j) (hj : R.length ≤ j) : M.RisF (fldOf R) ∧ ∀ f ∈ fldOf R, M.mayL f.vs = true :=
  ⟨risF_adj fun i hi => by
    rw [fldOf_len] at hi
    have := h.2 i hi (by omega)
    simpa [fldOf] using this, fun f hf => by
    obtain ⟨x, hx, rfl⟩ := List.mem_map.1 hf
    obtain ⟨i, hi, rfl⟩ := List.getElem_of_mem hx
    exact h.1 i hi (by omega)⟩
theorem mayF_no {R : List Cel} {pr : List M.Atm} {j : Nat} (hj : j < R.length) (ho : M.mayL R[j].f.vs = false) : M.mayS ⟨fldOf R, pr⟩ = false := by
  cases h : M.mayS ⟨fldOf R, pr⟩ with
  | false => rfl
  | true => have := ((M.mayS_iff _).1 h).2.1 R[j].f (List.mem_map.2 ⟨_, List.getElem_mem hj, rfl⟩); rw [ho] at this; cases this
theorem mayF_fall {R : List Cel} {pr : List M.Atm} {t : Nat} (hj : t + 1 < R.length) (ho : M.ltN R[t].f.nm R[t + 1].f.nm = false) : M.mayS ⟨fldOf R, pr⟩ = false := by
  cases h : M.mayS ⟨fldOf R, pr⟩ with
  | false => rfl
  | true => have := ris_get ((M.mayS_iff _).1 h).1 (Nat.lt_succ_self t) hj; rw [ho] at this; cases this
theorem mayF_end {R : List Cel} {pr : List M.Atm} {j : Nat} (h : MayUpF R j) (hj : R.length ≤ j) : M.mayS ⟨fldOf R, pr⟩ = M.mayL pr := by
  obtain ⟨h1, h2⟩ := mayUpF_end h hj
  rw [Bool.eq_iff_iff, M.mayS_iff]
  exact ⟨fun h => h.2.2, fun h => ⟨h1, h2, h⟩⟩
/-- the opened parts of a shape -/
theorem ShAt.open {w : World} {v : Value} {s : M.Shp} (h : ShAt w v s) : ∃ R a c b d, s = ⟨fldOf R, s.pr⟩ ∧ v = .agg #[.slice a R.length c, .slice b s.pr.length d] ∧ RsAt w (.slice a R.length c) R ∧ AtAt w (.slice b s.pr.length d) s.pr := by
  obtain ⟨vf, vp, rfl, ⟨R, e, hR⟩, hp⟩ := h
  obtain ⟨a, c, rfl⟩ := hR.form
  obtain ⟨b, d, rfl⟩ := hp.form
  exact ⟨R, a, c, b, d, by rw [e], rfl, hR, hp⟩
theorem Rs_some {w : World} {a : Option Addr} {n c : Nat} {R : List Cel} (h : RsAt w (.slice a n c) R) {j : Nat} (hj : j < R.length) : ∃ b o, a = some ⟨b, o, none⟩ ∧ b < w.heap.size ∧ ∀ i (h : i < R.length), Tri w b (o + i * 3) R[i] := by
  obtain ⟨a', cap, e, hH⟩ := h.open
  simp only [Value.slice.injEq] at e
  obtain ⟨rfl, _, _⟩ := e
  exact hH.out (by intro e; rw [e] at hj; simp at hj)
theorem two_cells (W : World) (u v : Value) (t : TypeId) : (W.alloc (.cells #[u, v] t)).cell? ⟨W.heap.size, 0, none⟩ = some u ∧ (W.alloc (.cells #[u, v] t)).cell? ⟨W.heap.size, 1, none⟩ = some v := by
  have hn := heap_alloc_new W (.cells #[u, v] t)
  exact ⟨by rw [Lib.cell_of_heap hn]; rfl, by rw [Lib.cell_of_heap hn]; rfl⟩
theorem two_bel {W W' : World} {g B : Nat} {u v : Value} (h : W.cell? ⟨g, 0, none⟩ = some u ∧ W.cell? ⟨g, 1, none⟩ = some v) (hg : g < B) (hb : Below B W W') : W'.cell? ⟨g, 0, none⟩ = some u ∧ W'.cell? ⟨g, 1, none⟩ = some v :=
  ⟨by rw [hb.cell (p := ⟨g, 0, none⟩) hg]; exact h.1, by rw [hb.cell (p := ⟨g, 1, none⟩) hg]; exact h.2⟩
theorem sm_fs {K : Nat} {s : M.Shp} {R : List Cel} (h : M.Sm K s) (e : s = ⟨fldOf R, s.pr⟩) : R.length ≤ K ∧ (∀ x ∈ R, x.f.vs.length ≤ K) ∧ s.pr.length ≤ K := by
  have h1 := h.1
  have h2 := h.2.1
  rw [e] at h1 h2
  exact ⟨by rw [← fldOf_len]; exact h1, fun x hx => h2 x.f (List.mem_map.2 ⟨x, hx, rfl⟩), h.2.2⟩

set_option maxHeartbeats 2000000 in
theorem omay_any (w : World) (v : Value) (s : M.Shp) (h : ShAt w v s) (hK : M.Sm 100000 s) :
    Calls Tryz.prog 41 #[v] w fun e w' => e = .returned (.bool (M.mayS s)) ∧ Below w.heap.size w w' := by
  obtain ⟨R, a, c, b, d, hs, rfl, hR, hP⟩ := h.open
  have mixed := mixedP
  obtain ⟨hn, hvs, hpn⟩ := sm_fs hK hs
  have HS := hid hs
  have T := hid hR
  have TP := hid hP
  have HV := hid hvs
  obtain ⟨sp, hsp⟩ : ∃ l, s.pr = l := ⟨_, rfl⟩
  rw [hsp] at HS TP hpn ⊢
  clear h hs hK hR hP hvs hsp
  have X0 := hid (two_cells w (.slice a R.length c) (.slice b sp.length d) 31)
  have B0 := hid (gr_new w (.cells #[.slice a R.length c, .slice b sp.length d] 31)).below
  have hz0 : w.heap.size < (w.alloc (.cells #[.slice a R.length c, .slice b sp.length d] 31)).heap.size := by simp
  go_enter Tryz.func41, Tryz.ntmps41
  obtain ⟨W0, hW0⟩ : ∃ W0, w.alloc (.cells #[.slice a R.length c, .slice b sp.length d] 31) = W0 := ⟨_, rfl⟩
  rw [hW0] at X0 B0 hz0
  obtain ⟨x1, x2⟩ := X0.out
  go_wp2
  clear hW0 x1 x2
  go_loopw [8] (fun i w' => ∃ j : Nat, j ≤ R.length ∧ i = .int .i64 j ∧ Hid (MayUpF R j) ∧ Hid (Below W0.heap.size W0 w')) (fun i _ => R.length - (intOf i).toNat)
  case atStart => exact ⟨0, Nat.zero_le _, rfl, mayUpF_zero R, Below.refl _ _⟩
  case round =>
    obtain ⟨j, hj, rfl, hm, hbel⟩ := hrel
    have hBW : Hid (Below w.heap.size w wr) := B0.out.trans (hbel.out.mono (Nat.le_of_lt hz0))
    have hwr : w.heap.size < wr.heap.size := Nat.lt_of_lt_of_le hz0 hbel.out.size
    obtain ⟨x1, x2⟩ := two_bel X0.out hz0 hbel.out
    by_cases hjl : j < R.length
    · obtain ⟨bb, o, rfl, hlt, hc⟩ := Rs_some T.out hjl
      have TR := (hc j hjl).bel hlt hBW.out
      have HX := hid (T.out.1 _ (List.getElem_mem hjl))
      have hxl := HV.out _ (List.getElem_mem hjl)
      obtain ⟨x, hx⟩ : ∃ x, R[j] = x := ⟨_, rfl⟩
      rw [hx] at TR HX hxl
      have HXE := hid hx
      have HC := hid hc
      clear hx hc
      obtain ⟨c1, c2, c3⟩ := TR
      have hbr : bb < wr.heap.size := by omega
      have n0 := new_tri wr (.string x.f.nm) (.bool x.f.su) (.slice x.a x.f.vs.length x.c) 49
      obtain ⟨W1, hW1⟩ : ∃ W1, wr.alloc (.cells #[.string x.f.nm, .bool x.f.su, .slice x.a x.f.vs.length x.c] 49) = W1 := ⟨_, rfl⟩
      have hB1 : Below wr.heap.size wr W1 := by rw [← hW1]; exact (gr_new _ _).below
      have hsz : wr.heap.size < W1.heap.size := by rw [← hW1]; simp
      have HA : Hid (AtAt W1 (.slice x.a x.f.vs.length x.c) x.f.vs) := (AtAt.bel HX.out hBW.out).bel hB1
      have hBW1 : Hid (Below W0.heap.size W0 W1) := hbel.out.trans (hB1.mono hbel.out.size)
      have K1 := fun W (hb : Below W1.heap.size W1 W) => gr_bel (may_any W _ _ (HA.out.bel hb) (Nat.le_trans hxl (by omega)))
      rw [hW1] at n0
      obtain ⟨N1, N2, N3⟩ := bel_tri (x := x) (p := 0) hsz n0
      simp only [Nat.zero_add] at N2 N3
      obtain ⟨y1, y2⟩ := two_bel ⟨x1, x2⟩ hwr hB1
      have Y1 := bel_cell (by omega) y1
      cases hok : M.mayL x.f.vs with
      | false =>
        rw [hok] at K1
        have HOK := hid hok
        have HK1 := hid (call_bel K1)
        clear hok K1 y1 y2 x2 n0
        go_wp2_with fail
        clear hW1 c1 c2 c3 x1
        refine wp_region_quiet_bel (by assumption) (by kernel_rfl) ?_
        intro hneq
        repeat (
          with_reducible refine wpQuiet_step (fun K hK => ?_)
          go_simp
          first
            | (with_reducible refine hK _ ?_; clear hK K)
            | (rw [if_neg (by simp [undef])]; with_reducible refine hK _ ?_; clear hK K)
            | (apply Exists.intro
               refine ⟨fun _ => ?_, hK _ ?_⟩
               (first | (go_at_call 51; with_reducible exact HK1.out _))
               clear hK K))
        with_reducible refine wpQuiet_nil ?_
        intro _ hw0
        obtain ⟨pq, hw1⟩ := hw0
        subst hw1
        clear hneq
        go_wp2
        go_ret
        refine ⟨ret_bool ?_, B0.out.trans ((hBW1.out.trans (pq.h.mono hBW1.out.size)).mono (Nat.le_of_lt hz0))⟩
        rw [HS.out]
        exact (mayF_no hjl (by rw [HXE.out]; exact HOK.out)).symm
      | true =>
        rw [hok] at K1
        have HOK := hid hok
        have HK1 := hid (call_bel K1)
        clear hok K1 y1 y2 x2 n0
        rcases Nat.eq_zero_or_pos j with rfl | hj0
        · simp only [Nat.zero_mul, Nat.add_zero] at c1 c2 c3
          go_wp2_with fail
          clear hW1 c1 c2 c3 x1
          refine wp_region_quiet_bel (by assumption) (by kernel_rfl) ?_
          intro hneq
          repeat (
            with_reducible refine wpQuiet_step (fun K hK => ?_)
            go_simp
            first
              | (with_reducible refine hK _ ?_; clear hK K)
              | (rw [if_neg (by simp [undef])]; with_reducible refine hK _ ?_; clear hK K)
              | (apply Exists.intro
                 refine ⟨fun _ => ?_, hK _ ?_⟩
                 (first | (go_at_call 51; with_reducible exact HK1.out _))
                 clear hK K))
          with_reducible refine wpQuiet_nil ?_
          intro _ hw0
          obtain ⟨pq, hw1⟩ := hw0
          subst hw1
          clear hneq
          go_wp2
          refine ⟨⟨1, by omega, by go_num, mayUpF_first hjl (by rw [HXE.out]; exact HOK.out), hBW1.out.trans (pq.h.mono hBW1.out.size)⟩, by simp [intOf]; omega⟩
        · obtain ⟨t, ht⟩ : ∃ t, j = t + 1 := ⟨j - 1, by omega⟩
          have htl : t < R.length := by omega
          have hsub : IntKind.i64.wrap ((j : Int) - 1) = (t : Int) := by rw [IntKind.wrap_i64]; omega
          have hpos : decide ((j : Int) > 0) = true := decide_eq_true (by omega)
          have hpos2 : (0 : Int) < (j : Int) := by omega
          have HT := hid ht
          clear ht
          have TY := ((HC.out t htl).bel hlt hBW.out).bel hbr hB1
          obtain ⟨y, hy⟩ : ∃ y, R[t] = y := ⟨_, rfl⟩
          rw [hy] at TY
          have HY := hid hy
          clear hy
          obtain ⟨D1, _, _⟩ := bel_tri (by omega) TY
          clear TY
          cases hl : M.ltN y.f.nm x.f.nm with
          | false =>
            have HL := hid hl
            rw [← less_ltN] at hl
            go_wp2_with fail
            clear hW1 c1 c2 c3 x1
            refine wp_region_quiet_bel (by assumption) (by kernel_rfl) ?_
            intro hneq
            repeat (
              with_reducible refine wpQuiet_step (fun K hK => ?_)
              go_simp
              first
                | (with_reducible refine hK _ ?_; clear hK K)
                | (rw [if_neg (by simp [undef])]; with_reducible refine hK _ ?_; clear hK K)
                | (apply Exists.intro
                   refine ⟨fun _ => ?_, hK _ ?_⟩
                   (first | (go_at_call 51; with_reducible exact HK1.out _))
                   clear hK K))
            with_reducible refine wpQuiet_nil ?_
            intro _ hw0
            obtain ⟨pq, hw1⟩ := hw0
            subst hw1
            clear hneq
            go_wp2
            go_ret
            obtain rfl := HT.out
            refine ⟨ret_bool ?_, B0.out.trans ((hBW1.out.trans (pq.h.mono hBW1.out.size)).mono (Nat.le_of_lt hz0))⟩
            rw [HS.out]
            exact (mayF_fall hjl (by rw [HXE.out, HY.out]; exact HL.out)).symm
          | true =>
            have HL := hid hl
            rw [← less_ltN] at hl
            go_wp2_with fail
            clear hW1 c1 c2 c3 x1
            refine wp_region_quiet_bel (by assumption) (by kernel_rfl) ?_
            intro hneq
            repeat (
              with_reducible refine wpQuiet_step (fun K hK => ?_)
              go_simp
              first
                | (with_reducible refine hK _ ?_; clear hK K)
                | (rw [if_neg (by simp [undef])]; with_reducible refine hK _ ?_; clear hK K)
                | (apply Exists.intro
                   refine ⟨fun _ => ?_, hK _ ?_⟩
                   (first | (go_at_call 51; with_reducible exact HK1.out _))
                   clear hK K))
            with_reducible refine wpQuiet_nil ?_
            intro _ hw0
            obtain ⟨pq, hw1⟩ := hw0
            subst hw1
            clear hneq
            go_wp2
            obtain rfl := HT.out
            refine ⟨⟨t + 1 + 1, by omega, by go_num, mayUpF_step hm.out hjl (by rw [HXE.out]; exact HOK.out) (by rw [HXE.out, HY.out]; exact HL.out), hBW1.out.trans (pq.h.mono hBW1.out.size)⟩, by simp [intOf]; omega⟩
    · have K1 := hid (gr_bel (may_any wr _ sp (TP.out.bel hBW.out) (by omega)))
      go_wp2_with (go_at_call 51; refine stopHere ?_)
      refine stopAt ?_
      refine K1.out.mono ?_
      rintro e w3 ⟨rfl, hb3⟩
      go_wp2
      go_ret
      refine ⟨ret_bool ?_, hBW.out.trans (hb3.mono hBW.out.size)⟩
      rw [HS.out]
      exact (mayF_end hm.out (by omega)).symm
end Go.Proofs.YtbaaeobdjiglgaaGreat
