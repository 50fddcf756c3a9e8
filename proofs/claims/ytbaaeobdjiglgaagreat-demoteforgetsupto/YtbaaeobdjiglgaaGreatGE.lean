/-
  The walks of the document's Same over atoms, and of the laws' fixed calls. Conditions: that the table of powers lies as it should.
-/
import Derived.Test.YtbaaeobdjiglgaaGreatGM
set_option linter.unusedVariables false
set_option linter.unusedSimpArgs false
namespace Go.Proofs.YtbaaeobdjiglgaaGreat
open Go.RowKit Go.Sort

theorem take_eq {α : Type} {l m : List α} {j : Nat} (h1 : j < l.length) (h2 : j < m.length) (h : l.take j = m.take j) (he : l[j] = m[j]) : l.take (j + 1) = m.take (j + 1) := by
  rw [List.take_succ_eq_append_getElem h1, List.take_succ_eq_append_getElem h2, h, he]
set_option maxHeartbeats 1000000 in
theorem same_any (w : World) (v1 v2 : Value) (l1 l2 : List M.Atm) (h1 : AtAt w v1 l1) (h2 : AtAt w v2 l2) (n1 : l1.length ≤ 1048576) :
    Calls Tryz.prog 23 #[v1, v2] w fun e w' => e = .returned (.bool (M.sameB l1 l2)) ∧ Below w.heap.size w w' := by
  obtain ⟨_, a1, cap1, rfl, g1⟩ := h1
  obtain ⟨_, a2, cap2, rfl, g2⟩ := h2
  have HC1 : Hid (l1 ≠ [] → ∃ b o, a1 = some ⟨b, o, none⟩ ∧ b < w.heap.size ∧ ∀ i (h : i < l1.length), w.cell? ⟨b, o + i * 2, none⟩ = some (.int .i64 l1[i].k) ∧ w.cell? ⟨b, o + i * 2 + 1, none⟩ = some (.int .i64 l1[i].n)) := by
    intro hne
    rcases g1 with h | ⟨b, o, h1, h2, _, h3⟩
    · exact absurd h hne
    · exact ⟨b, o, h1, h2, h3⟩
  have HC2 : Hid (l2 ≠ [] → ∃ b o, a2 = some ⟨b, o, none⟩ ∧ b < w.heap.size ∧ ∀ i (h : i < l2.length), w.cell? ⟨b, o + i * 2, none⟩ = some (.int .i64 l2[i].k) ∧ w.cell? ⟨b, o + i * 2 + 1, none⟩ = some (.int .i64 l2[i].n)) := by
    intro hne
    rcases g2 with h | ⟨b, o, h1, h2, _, h3⟩
    · exact absurd h hne
    · exact ⟨b, o, h1, h2, h3⟩
  clear g1 g2
  have mixed := mixedP
  have hg1 := guardA
  by_cases hl : l1.length = l2.length
  · have hd : ((l1.length : Int) != (l2.length : Int)) = false := by simp [hl]
    have HL := hid hl
    clear hl
    go_enter Tryz.func23, Tryz.ntmps23
    go_wp2
    go_loopw [5] (fun i w' => ∃ j : Nat, j ≤ l1.length ∧ i = .int .i64 j ∧ Hid (l1.take j = l2.take j) ∧ Hid (∃ n, w' = w.drewN n)) (fun i _ => l1.length - (intOf i).toNat)
    case atStart => exact ⟨0, Nat.zero_le _, rfl, rfl, ⟨0, rfl⟩⟩
    case round =>
      obtain ⟨j, hj, rfl, hm, hw⟩ := hrel
      have hB : Hid (Below w.heap.size w wr) := by
        obtain ⟨n, h⟩ := hw.out
        rw [h]; exact (Gr.refl w).drewN n |>.below
      by_cases hjl : j < l1.length
      · have hjl2 : j < l2.length := by have := HL.out; omega
        obtain ⟨b1, o1, rfl, hlt1, hc1⟩ := HC1.out (by intro e; rw [e] at hjl; simp at hjl)
        obtain ⟨b2, o2, rfl, hlt2, hc2⟩ := HC2.out (by intro e; rw [e] at hjl2; simp at hjl2)
        obtain ⟨c1, c2⟩ := hc1 j hjl
        obtain ⟨d1, d2⟩ := hc2 j hjl2
        rw [← hB.out.cell (p := ⟨b1, o1 + j * 2, none⟩) hlt1] at c1
        rw [← hB.out.cell (p := ⟨b1, o1 + j * 2 + 1, none⟩) hlt1] at c2
        rw [← hB.out.cell (p := ⟨b2, o2 + j * 2, none⟩) hlt2] at d1
        rw [← hB.out.cell (p := ⟨b2, o2 + j * 2 + 1, none⟩) hlt2] at d2
        obtain ⟨x, hx⟩ : ∃ x, l1[j] = x := ⟨_, rfl⟩
        obtain ⟨y, hy⟩ : ∃ y, l2[j] = y := ⟨_, rfl⟩
        rw [hx] at c1 c2
        rw [hy] at d1 d2
        have HX := hid hx
        have HY := hid hy
        clear hx hy hc1 hc2
        have he := fun w' => neq_atm x y w'
        by_cases hxy : x = y
        · have HXY := hid hxy
          rw [decide_eq_true hxy] at he
          simp only [Bool.not_true] at he
          clear hxy
          go_wp2_with fail
          go_quiet (fail)
          go_wp2
          refine ⟨⟨j + 1, by omega, by go_num, take_eq hjl hjl2 hm.out (by rw [HX.out, HY.out, HXY.out]), ?_⟩, by simp [intOf]; omega⟩
          obtain ⟨n, h⟩ := hw.out
          exact ⟨n + nq, by rw [h, World.drewN_drewN]⟩
        · have HXY := hid hxy
          rw [decide_eq_false hxy] at he
          simp only [Bool.not_false] at he
          clear hxy
          go_wp2_with fail
          go_quiet (fail)
          go_wp2
          go_ret
          refine ⟨ret_bool (decide_eq_false ?_).symm, hB.out.trans ((((Gr.refl wr).drewN _).below).mono hB.out.size)⟩
          intro e
          subst e
          exact HXY.out (by rw [← HX.out, ← HY.out])
      · go_wp2
        go_ret
        refine ⟨ret_bool (decide_eq_true ?_).symm, hB.out⟩
        have := hm.out
        rw [List.take_of_length_le (by omega), List.take_of_length_le (by have := HL.out; omega)] at this
        exact this
  · have hd : ((l1.length : Int) != (l2.length : Int)) = true := by simp; omega
    have HN : Hid (l1 ≠ l2) := fun h => hl (by rw [h])
    clear hl
    go_enter Tryz.func23, Tryz.ntmps23
    go_wp2
    go_ret
    exact ⟨ret_bool (decide_eq_false HN.out).symm, Below.refl _ _⟩

/-- a list that is written out -/
theorem atAt_new (w : World) (l : List M.Atm) (hn : l.length ≤ 100) (hr : ∀ x ∈ l, InR x.n) : AtAt (w.alloc (.cells (l.flatMap ac).toArray 34)) (.slice (some ⟨w.heap.size, 0, none⟩) l.length l.length) l := by
  have h1 := heap_alloc_new w (.cells (l.flatMap ac).toArray 34)
  refine ⟨hr, _, _, rfl, .inr ⟨w.heap.size, 0, rfl, by simp, ⟨Nat.le_refl _, by unfold maxLen; omega⟩, fun i hi => ?_⟩⟩
  obtain ⟨e1, e2⟩ := ac_get l i hi
  exact ⟨cell_cur h1 (by rw [Nat.zero_add]; simpa using e1), cell_cur h1 (by rw [Nat.zero_add]; simpa using e2)⟩
end Go.Proofs.YtbaaeobdjiglgaaGreat

/-
  The walks of the document's Has, add, Norm, May, Union, Within and Rename of atoms. Conditions: lists of at most 100000 atoms.
-/
set_option linter.unusedVariables false
set_option linter.unusedSimpArgs false
namespace Go.Proofs.YtbaaeobdjiglgaaGreat
open Go.RowKit Go.Sort

set_option maxHeartbeats 1000000 in
theorem rhas_any (w : World) (v : Value) (l : List M.Atm) (x : M.Atm) (h : AtAt w v l) (hn : l.length ≤ 1048576) :
    Calls Tryz.prog 19 #[v, av x] w fun e w' => e = .returned (.bool (M.has l x)) ∧ Gr w w' := by
  obtain ⟨h0, a, cap, rfl, g⟩ := h
  clear h0
  have mixed := mixedP
  unfold av
  obtain ⟨n1, n2⟩ := new_two w (.int .i64 x.k) (.int .i64 x.n) 34
  simp only [Nat.zero_add] at n2
  rcases g with rfl | ⟨b, o, rfl, hlt, hr, hc⟩
  · clear n1 n2
    go_enter Tryz.func19, Tryz.ntmps19
    go_wp2
    go_loopw [5] (fun i w' => i = .int .i64 0 ∧ Hid (Gr w w')) (fun _ _ => 0)
    case atStart => exact ⟨rfl, (Gr.refl _).alloc _⟩
    case round =>
      obtain ⟨rfl, hg⟩ := hrel
      go_wp2
      go_ret
      exact ⟨rfl, hg.out⟩
  · have HC := hid hc
    clear hc hr
    have H1 := hid n1
    have H2 := hid n2
    clear n1 n2
    go_enter Tryz.func19, Tryz.ntmps19
    go_wp2
    go_loopw [5] (fun i w' => ∃ j : Nat, j ≤ l.length ∧ i = .int .i64 j ∧ Hid (x ∉ l.take j) ∧ Hid (∃ n, w' = (w.alloc (.cells #[.int .i64 x.k, .int .i64 x.n] 34)).drewN n)) (fun i _ => l.length - (intOf i).toNat)
    case atStart => exact ⟨0, Nat.zero_le _, rfl, (by simp [Hid]), ⟨0, rfl⟩⟩
    case round =>
      obtain ⟨j, hj, rfl, hm, hg⟩ := hrel
      obtain ⟨n, hw⟩ := hg.out
      clear hg
      have G0 : Hid (Gr w wr) := by rw [hw]; exact ((Gr.refl _).alloc _).drewN _
      by_cases hjl : j < l.length
      · have n1 : wr.cell? ⟨w.heap.size, 0, none⟩ = some (.int .i64 x.k) := by rw [hw]; exact H1.out
        have n2 : wr.cell? ⟨w.heap.size, 1, none⟩ = some (.int .i64 x.n) := by rw [hw]; exact H2.out
        obtain ⟨c1, c2⟩ := HC.out j hjl
        have c1 := old_cell (.cells #[.int .i64 x.k, .int .i64 x.n] 34) hlt c1
        have c2 := old_cell (.cells #[.int .i64 x.k, .int .i64 x.n] 34) hlt c2
        have d1 : wr.cell? ⟨b, o + j * 2, none⟩ = some (.int .i64 l[j].k) := by rw [hw]; exact c1
        have d2 : wr.cell? ⟨b, o + j * 2 + 1, none⟩ = some (.int .i64 l[j].n) := by rw [hw]; exact c2
        obtain ⟨y, hy⟩ : ∃ y, l[j] = y := ⟨_, rfl⟩
        rw [hy] at d1 d2
        have HY := hid hy
        have HW := hid hw
        clear hy hw c1 c2
        have hg1 := guardA
        have he := fun w' => eql_atm y x w'
        by_cases hxy : y = x
        · have HXY := hid hxy
          rw [decide_eq_true hxy] at he
          clear hxy
          go_wp2_with fail
          go_quiet (fail)
          go_wp2
          go_ret
          refine ⟨ret_bool ?_, G0.out.drewN _⟩
          rw [(M.has_iff l x).2 (by rw [← HXY.out, ← HY.out]; exact List.getElem_mem hjl)]
        · have HXY := hid hxy
          rw [decide_eq_false hxy] at he
          clear hxy
          go_wp2_with fail
          go_quiet (fail)
          go_wp2
          refine ⟨⟨j + 1, by omega, by go_num, ?_, ⟨n + nq, by rw [HW.out, World.drewN_drewN]⟩⟩, by simp [intOf]; omega⟩
          show ¬ _
          rw [List.take_succ_eq_append_getElem hjl, List.mem_append, List.mem_singleton, HY.out]
          rintro (h | h)
          · exact hm.out h
          · exact HXY.out h.symm
      · clear hw
        go_wp2
        go_ret
        refine ⟨ret_bool ?_, G0.out⟩
        have := hm.out
        rw [List.take_of_length_le (by omega)] at this
        rw [show M.has l x = false from decide_eq_false this]

set_option maxHeartbeats 1000000 in
theorem rwithin_any (w : World) (va vb : Value) (la lb : List M.Atm) (ha : AtAt w va la) (hb : AtAt w vb lb) (na : la.length ≤ 100000) (nb : lb.length ≤ 100000) :
    Calls Tryz.prog 47 #[va, vb] w fun e w' => e = .returned (.bool (M.within la lb)) ∧ Below w.heap.size w w' := by
  obtain ⟨r1, a1, c1, rfl, g1⟩ := ha
  have HC1 : Hid (la ≠ [] → ∃ b o, a1 = some ⟨b, o, none⟩ ∧ b < w.heap.size ∧ ∀ i (h : i < la.length), w.cell? ⟨b, o + i * 2, none⟩ = some (.int .i64 la[i].k) ∧ w.cell? ⟨b, o + i * 2 + 1, none⟩ = some (.int .i64 la[i].n)) := by
    intro hne
    rcases g1 with h | ⟨b, o, h1, h2, _, h3⟩
    · exact absurd h hne
    · exact ⟨b, o, h1, h2, h3⟩
  clear g1 r1
  have HB := hid hb
  obtain ⟨a2, c2, rfl⟩ := hb.form
  clear hb
  go_enter Tryz.func47, Tryz.ntmps47
  go_wp2
  go_loopw [5] (fun i w' => ∃ j : Nat, j ≤ la.length ∧ i = .int .i64 j ∧ Hid (M.within (la.take j) lb = true) ∧ Hid (Below w.heap.size w w')) (fun i _ => la.length - (intOf i).toNat)
  case atStart => exact ⟨0, Nat.zero_le _, rfl, rfl, Below.refl _ _⟩
  case round =>
    obtain ⟨j, hj, rfl, hm, hbel⟩ := hrel
    by_cases hjl : j < la.length
    · obtain ⟨b, o, rfl, hlt, hc⟩ := HC1.out (by intro e; rw [e] at hjl; simp at hjl)
      obtain ⟨c1, c2⟩ := hc j hjl
      rw [← hbel.out.cell (p := ⟨b, o + j * 2, none⟩) hlt] at c1
      rw [← hbel.out.cell (p := ⟨b, o + j * 2 + 1, none⟩) hlt] at c2
      obtain ⟨x, hx⟩ : ∃ x, la[j] = x := ⟨_, rfl⟩
      rw [hx] at c1 c2
      have HX := hid hx
      clear hx hc
      have K1 := rhas_any wr _ lb x (HB.out.bel hbel.out) (by omega)
      unfold av at K1
      have hstep : Hid (M.within (la.take (j + 1)) lb = M.has lb x) := by
        unfold Hid
        have := hm.out
        unfold M.within at this ⊢
        rw [List.take_succ_eq_append_getElem hjl, List.all_append, this, HX.out]
        simp
      cases hh : M.has lb x with
      | false =>
        rw [hh] at K1
        have HH := hid hh
        have HK1 := hid K1
        clear hh K1
        go_wp2_with (go_at_call 19; refine stopHere ?_)
        refine stopAt ?_
        refine HK1.out.mono ?_
        rintro e w3 ⟨rfl, hg3⟩
        go_wp2
        go_ret
        refine ⟨ret_bool ?_, hbel.out.trans (hg3.below.mono hbel.out.size)⟩
        symm
        have h1 : M.within (la.take (j + 1)) lb = false := by rw [hstep.out, HH.out]
        cases h2 : M.within la lb with
        | false => rfl
        | true =>
          have : M.within (la.take (j + 1)) lb = true := (M.within_iff _ _).2 fun z hz => (M.within_iff _ _).1 h2 z (List.mem_of_mem_take hz)
          rw [h1] at this; cases this
      | true =>
        rw [hh] at K1
        have HH := hid hh
        have HK1 := hid K1
        clear hh K1
        go_wp2_with (go_at_call 19; refine stopHere ?_)
        refine stopAt ?_
        refine HK1.out.mono ?_
        rintro e w3 ⟨rfl, hg3⟩
        go_wp2
        exact ⟨⟨j + 1, by omega, by go_num, (show _ = _ by rw [hstep.out, HH.out]), hbel.out.trans (hg3.below.mono hbel.out.size)⟩, by simp [intOf]; omega⟩
    · go_wp2
      go_ret
      refine ⟨ret_bool ?_, hbel.out⟩
      have := hm.out
      rw [List.take_of_length_le (by omega)] at this
      exact this.symm
end Go.Proofs.YtbaaeobdjiglgaaGreat
