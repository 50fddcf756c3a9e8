/-
  The order of atoms as the program's order tells it, and the walk of atoms.May. No conditions.
-/
import Derived.Test.YtbaaeobdjiglgaaGreatA2
set_option linter.unusedVariables false
namespace Go.Proofs.YtbaaeobdjiglgaaGreat
open Go.RowKit Go.Sort

theorem ordI_lt (x y : M.Atm) : ordI x y < 0 ↔ M.ltA x y = true := by
  unfold ordI orI cmpI M.ltA
  rw [decide_eq_true_iff]
  by_cases h1 : x.k < y.k
  · simp [h1]
  · by_cases h2 : y.k < x.k
    · simp [h1, h2]; omega
    · have e : x.k = y.k := by omega
      by_cases h3 : x.n < y.n
      · simp [e, h3]
      · by_cases h4 : y.n < x.n <;> simp [e, h3, h4]
theorem ordI_zero (x y : M.Atm) : ordI x y = 0 ↔ x = y := by
  unfold ordI orI cmpI
  by_cases h1 : x.k < y.k
  · have : x ≠ y := fun e => by subst e; omega
    simp [h1, this]
  · by_cases h2 : y.k < x.k
    · have : x ≠ y := fun e => by subst e; omega
      simp [h1, h2, this]
    · have e : x.k = y.k := by omega
      by_cases h3 : x.n < y.n
      · have : x ≠ y := fun e => by subst e; omega
        simp [e, h3, this]
      · by_cases h4 : y.n < x.n
        · have : x ≠ y := fun e => by subst e; omega
          simp [e, h3, h4, this]
        · have := M.atm_ext e (by omega : x.n = y.n)
          subst this; simp
/-- two cells, in every world that comes of it by draws and new blocks -/
theorem two_grown {W : World} {b p : Nat} {u v : Value} (hb : b < W.heap.size) (h0 : W.cell? ⟨b, p, none⟩ = some u) (h1 : W.cell? ⟨b, p + 1, none⟩ = some v) :
    (∀ n os, (grow (W.drewN n) os).cell? ⟨b, p, none⟩ = some u) ∧ (∀ n os, (grow (W.drewN n) os).cell? ⟨b, p + 1, none⟩ = some v) :=
  ⟨fun n os => cell_grown hb h0 n os, fun n os => cell_grown hb h1 n os⟩
theorem new_two (W : World) (u v : Value) (t : TypeId) : (W.alloc (.cells #[u, v] t)).cell? ⟨W.heap.size, 0, none⟩ = some u ∧ (W.alloc (.cells #[u, v] t)).cell? ⟨W.heap.size, 0 + 1, none⟩ = some v := by
  have hn := heap_alloc_new W (.cells #[u, v] t)
  exact ⟨by rw [Lib.cell_of_heap hn]; rfl, by rw [Lib.cell_of_heap hn]; rfl⟩
/-- a contract, in the form that a region takes -/
theorem call_gr {P : Program} {f : FuncId} {args : Array Value} {v : Value} (h : ∀ W, Calls P f args W fun e w' => e = .returned v ∧ Gr W w') (w : World) (n : Nat) (os : Array Obj) :
    Calls P f args (grow (w.drewN n) os) fun e w'' => e = .returned v ∧ ∃ p : GrownBy, w'' = grow (w.drewN p.n) p.os :=
  Calls.grown_of ((h _).mono fun _ _ ⟨he, q, os', hq⟩ => ⟨he, q, os', hq⟩)
/-- an old cell behind a new block -/
theorem old_cell {W : World} {b p : Nat} {v : Value} (o : Obj) (hb : b < W.heap.size) (h : W.cell? ⟨b, p, none⟩ = some v) : (W.alloc o).cell? ⟨b, p, none⟩ = some v := by
  rw [World.cell?_alloc_lt _ _ _ (by exact hb)]; exact h

set_option maxHeartbeats 1000000 in
theorem may_any (w : World) (v : Value) (l : List M.Atm) (h : AtAt w v l) (hn : l.length ≤ 1048576) :
    Calls Tryz.prog 51 #[v] w fun e w' => e = .returned (.bool (M.mayL l)) ∧ Gr w w' := by
  obtain ⟨h0, a, cap, rfl, g⟩ := h
  clear h0
  have mixed := mixedP
  rcases g with rfl | ⟨b, o, rfl, hlt, hr, hc⟩
  · go_enter Tryz.func51, Tryz.ntmps51
    go_wp2
    go_loop [7] (fun i => i = .int .i64 0) (fun _ => 0)
    case atStart => rfl
    case round =>
      subst hrel
      go_wp2
      go_ret
      exact ⟨rfl, Gr.refl _⟩
  · have HC := hid hc
    clear hc hr
    go_enter Tryz.func51, Tryz.ntmps51
    go_wp2
    go_loopw [7] (fun i w' => ∃ j : Nat, j ≤ l.length ∧ i = .int .i64 j ∧ Hid (M.MayUp l j) ∧ Hid (Gr w w')) (fun i _ => l.length - (intOf i).toNat)
    case atStart => exact ⟨0, Nat.zero_le _, rfl, M.mayUp_zero l, Gr.refl _⟩
    case round =>
      obtain ⟨j, hj, rfl, hm, hg⟩ := hrel
      by_cases hjl : j < l.length
      · have hbr : b < wr.heap.size := Nat.lt_of_lt_of_le hlt hg.out.below.size
        obtain ⟨c1, c2⟩ := HC.out j hjl
        rw [← hg.out.below.cell (p := ⟨b, o + j * 2, none⟩) hlt] at c1
        rw [← hg.out.below.cell (p := ⟨b, o + j * 2 + 1, none⟩) hlt] at c2
        obtain ⟨x, hx⟩ : ∃ x, l[j] = x := ⟨_, rfl⟩
        rw [hx] at c1 c2
        have HX := hid hx
        clear hx
        obtain ⟨n1, n2⟩ := new_two wr (.int .i64 x.k) (.int .i64 x.n) 34
        obtain ⟨N1, N2⟩ := two_grown (by simp) n1 n2
        simp only [Nat.zero_add] at N2
        clear n1 n2
        cases hok : M.okA x with
        | false =>
          have HOK := hid hok
          have K1 := fun W => mayBe_any x W
          rw [hok] at K1
          unfold av at K1
          have HK1 := hid K1
          clear hok K1
          go_wp2_with fail
          clear c1 c2 hbr
          have hG := hid (hg.out.alloc (.cells #[.int .i64 x.k, .int .i64 x.n] 34))
          clear hg
          generalize wr.alloc _ = W at N1 N2 hG ⊢
          refine wp_region_quiet_grown (by assumption) (by kernel_rfl) ?_
          repeat (
            with_reducible refine wpQuiet_step (fun K hK => ?_)
            go_simp
            first
              | (with_reducible refine hK _ ?_; clear hK K)
              | (rw [if_neg (by simp [undef])]; with_reducible refine hK _ ?_; clear hK K)
              | (apply Exists.intro
                 refine ⟨fun _ => ?_, hK _ ?_⟩
                 (first | (go_at_call 70; with_reducible exact call_gr HK1.out _ _ _))
                 clear hK K))
          with_reducible refine wpQuiet_nil ?_
          intro _ hw0
          obtain ⟨⟨nq, osq⟩, hw1⟩ := hw0
          subst hw1
          go_wp2
          go_ret
          exact ⟨ret_bool (M.may_not_ok hjl (by rw [HX.out]; exact HOK.out)).symm, (hG.out.drewN _).grow _⟩
        | true =>
          have HOK := hid hok
          have K1 := fun W => mayBe_any x W
          rw [hok] at K1
          unfold av at K1
          have HK1 := hid K1
          clear hok K1
          rcases Nat.eq_zero_or_pos j with rfl | hj0
          · simp only [Nat.zero_mul, Nat.add_zero] at c1 c2
            go_wp2_with fail
            clear c1 c2 hbr
            have hG := hid (hg.out.alloc (.cells #[.int .i64 x.k, .int .i64 x.n] 34))
            clear hg
            generalize wr.alloc _ = W at N1 N2 hG ⊢
            refine wp_region_quiet_grown (by assumption) (by kernel_rfl) ?_
            repeat (
              with_reducible refine wpQuiet_step (fun K hK => ?_)
              go_simp
              first
                | (with_reducible refine hK _ ?_; clear hK K)
                | (rw [if_neg (by simp [undef])]; with_reducible refine hK _ ?_; clear hK K)
                | (apply Exists.intro
                   refine ⟨fun _ => ?_, hK _ ?_⟩
                   (first | (go_at_call 70; with_reducible exact call_gr HK1.out _ _ _))
                   clear hK K))
            with_reducible refine wpQuiet_nil ?_
            intro _ hw0
            obtain ⟨⟨nq, osq⟩, hw1⟩ := hw0
            subst hw1
            go_wp2
            refine ⟨⟨1, by omega, by go_num, M.mayUp_first hjl (by rw [HX.out]; exact HOK.out), (hG.out.drewN _).grow _⟩, by simp [intOf]; omega⟩
          · obtain ⟨t, ht⟩ : ∃ t, j = t + 1 := ⟨j - 1, by omega⟩
            have htl : t < l.length := by omega
            have hsub : IntKind.i64.wrap ((j : Int) - 1) = (t : Int) := by rw [IntKind.wrap_i64]; omega
            have hpos : decide ((j : Int) > 0) = true := decide_eq_true (by omega)
            have hpos2 : (0 : Int) < (j : Int) := by omega
            have HT := hid ht
            clear ht
            obtain ⟨d1, d2⟩ := HC.out t htl
            rw [← hg.out.below.cell (p := ⟨b, o + t * 2, none⟩) hlt] at d1
            rw [← hg.out.below.cell (p := ⟨b, o + t * 2 + 1, none⟩) hlt] at d2
            obtain ⟨y, hy⟩ : ∃ y, l[t] = y := ⟨_, rfl⟩
            rw [hy] at d1 d2
            have HY := hid hy
            clear hy
            obtain ⟨D1, D2⟩ := two_grown (W := wr.alloc (.cells #[.int .i64 x.k, .int .i64 x.n] 34)) (by simp; omega) (old_cell _ hbr d1) (old_cell _ hbr d2)
            have K2 := fun W => order_any y x W
            unfold av at K2
            obtain ⟨r, hr⟩ : ∃ r, ordI y x = r := ⟨_, rfl⟩
            rw [hr] at K2
            have HK2 := hid K2
            have HR := hid hr
            clear K2 hr
            by_cases h0 : 0 ≤ r
            · have hd : decide (0 ≤ r) = true := decide_eq_true h0
              go_wp2_with fail
              clear c1 c2 hbr
              have hG := hid (hg.out.alloc (.cells #[.int .i64 x.k, .int .i64 x.n] 34))
              clear hg d1 d2
              generalize wr.alloc _ = W at N1 N2 D1 D2 hG ⊢
              refine wp_region_quiet_grown (by assumption) (by kernel_rfl) ?_
              repeat (
                with_reducible refine wpQuiet_step (fun K hK => ?_)
                go_simp
                first
                  | (with_reducible refine hK _ ?_; clear hK K)
                  | (rw [if_neg (by simp [undef])]; with_reducible refine hK _ ?_; clear hK K)
                  | (apply Exists.intro
                     refine ⟨fun _ => ?_, hK _ ?_⟩
                     (first | (go_at_call 70; with_reducible exact call_gr HK1.out _ _ _) | (go_at_call 71; with_reducible exact call_gr HK2.out _ _ _))
                     clear hK K))
              with_reducible refine wpQuiet_nil ?_
              intro _ hw0
              obtain ⟨⟨nq, osq⟩, hw1⟩ := hw0
              subst hw1
              go_wp2
              go_ret
              obtain rfl := HT.out
              refine ⟨ret_bool (M.may_not_lt hjl ?_).symm, (hG.out.drewN _).grow _⟩
              rw [HX.out, HY.out]
              cases hl : M.ltA y x with
              | false => rfl
              | true => have := (ordI_lt y x).2 hl; rw [HR.out] at this; omega
            · have hd : decide (0 ≤ r) = false := decide_eq_false h0
              go_wp2_with fail
              clear c1 c2 hbr
              have hG := hid (hg.out.alloc (.cells #[.int .i64 x.k, .int .i64 x.n] 34))
              clear hg d1 d2
              generalize wr.alloc _ = W at N1 N2 D1 D2 hG ⊢
              refine wp_region_quiet_grown (by assumption) (by kernel_rfl) ?_
              repeat (
                with_reducible refine wpQuiet_step (fun K hK => ?_)
                go_simp
                first
                  | (with_reducible refine hK _ ?_; clear hK K)
                  | (rw [if_neg (by simp [undef])]; with_reducible refine hK _ ?_; clear hK K)
                  | (apply Exists.intro
                     refine ⟨fun _ => ?_, hK _ ?_⟩
                     (first | (go_at_call 70; with_reducible exact call_gr HK1.out _ _ _) | (go_at_call 71; with_reducible exact call_gr HK2.out _ _ _))
                     clear hK K))
              with_reducible refine wpQuiet_nil ?_
              intro _ hw0
              obtain ⟨⟨nq, osq⟩, hw1⟩ := hw0
              subst hw1
              go_wp2
              obtain rfl := HT.out
              refine ⟨⟨t + 1 + 1, by omega, by go_num, M.mayUp_step hm.out hjl (by rw [HX.out]; exact HOK.out) ?_, (hG.out.drewN _).grow _⟩, by simp [intOf]; omega⟩
              rw [HX.out, HY.out]
              exact (ordI_lt y x).1 (by rw [HR.out]; omega)
      · go_wp2
        go_ret
        exact ⟨ret_bool (M.mayUp_end hm.out (by omega)).symm, hg.out⟩
end Go.Proofs.YtbaaeobdjiglgaaGreat
