/-
  The walks of slices.IsSortedFunc and slices.BinarySearchFunc over atoms, with atoms.order. Conditions: lists of at most 2^20 atoms; what is searched is sorted.
-/
import Derived.Test.YtcnikcfnfohoeaaA3
set_option linter.unusedVariables false
namespace Go.Proofs.Ytcnikcfnfohoeaa
open Go.RowKit Go.Sort
theorem enters_order : ∀ args w, (callFunc 52 args).run Try.prog w = .ok (.enter 52 args) w := enters_of Try.func52 (by kernel_rfl) rfl
/-- the value of atoms.order -/
def fnOrder : Value := .func (.func 52) #[] #[]

set_option maxHeartbeats 1000000 in
theorem isSorted_any (w : World) (v : Value) (l : List M.Atm) (h : AtAt w v l) (hn : l.length ≤ 1048576) :
    Calls Try.prog 58 #[v, fnOrder] w fun e w' => e = .returned (.bool (M.sortedB l)) ∧ Gr w w' := by
  obtain ⟨h0, a, cap, rfl, g⟩ := h
  clear h0
  have mixed := mixedP
  have eg := enters_order
  unfold fnOrder
  rcases g with rfl | ⟨b, o, rfl, hlt, hr, hc⟩
  · go_enter Try.func58, Try.ntmps58
    go_wp2
    go_loop [5] (fun i => i = .int .i64 (-1)) (fun _ => 0)
    case atStart => rfl
    case round =>
      subst hrel
      go_wp2
      go_ret
      exact ⟨rfl, Gr.refl _⟩
  · have HC := hid hc
    clear hc hr
    go_enter Try.func58, Try.ntmps58
    go_wp2
    go_loopw [5] (fun i w' => ∃ (iz : Int) (j : Nat), i = .int .i64 iz ∧ (0 < iz → iz = j ∧ j < l.length) ∧ (¬ 0 < iz → j = 0) ∧ Hid (M.SortedFrom l j) ∧ Hid (Gr w w')) (fun i _ => (intOf i).toNat)
    case atStart => exact ⟨(l.length : Int) - 1, l.length - 1, by go_num, fun h => ⟨by omega, by omega⟩, fun h => by omega, M.sortedFrom_last _ _ (by omega), Gr.refl _⟩
    case round =>
      obtain ⟨iz, j, rfl, hi1, hi2, hm, hg⟩ := hrel
      by_cases hpos : 0 < iz
      · obtain ⟨rfl, hjl⟩ := hi1 hpos
        clear hi1 hi2
        obtain ⟨t, ht⟩ : ∃ t, j = t + 1 := ⟨j - 1, by omega⟩
        have htl : t < l.length := by omega
        have hbr : b < wr.heap.size := Nat.lt_of_lt_of_le hlt hg.out.below.size
        have hsub : IntKind.i64.wrap ((j : Int) - 1) = (t : Int) := by rw [IntKind.wrap_i64]; omega
        obtain ⟨c1, c2⟩ := HC.out j hjl
        rw [← hg.out.below.cell (p := ⟨b, o + j * 2, none⟩) hlt] at c1
        rw [← hg.out.below.cell (p := ⟨b, o + j * 2 + 1, none⟩) hlt] at c2
        obtain ⟨d1, d2⟩ := HC.out t htl
        rw [← hg.out.below.cell (p := ⟨b, o + t * 2, none⟩) hlt] at d1
        rw [← hg.out.below.cell (p := ⟨b, o + t * 2 + 1, none⟩) hlt] at d2
        obtain ⟨x, hx⟩ : ∃ x, l[j] = x := ⟨_, rfl⟩
        obtain ⟨y, hy⟩ : ∃ y, l[t] = y := ⟨_, rfl⟩
        rw [hx] at c1 c2
        rw [hy] at d1 d2
        have HX := hid hx
        have HY := hid hy
        have HT := hid ht
        clear hx hy ht
        obtain ⟨C1, C2⟩ := two_grown hbr c1 c2
        obtain ⟨D1, D2⟩ := two_grown hbr d1 d2
        clear c1 c2 d1 d2
        have K2 := fun W => order_any x y W
        unfold av at K2
        obtain ⟨r, hr⟩ : ∃ r, ordI x y = r := ⟨_, rfl⟩
        rw [hr] at K2
        have HK2 := hid K2
        have HR := hid hr
        clear K2 hr
        by_cases h0 : r < 0
        · have hd : decide (r < 0) = true := decide_eq_true h0
          go_wp2_with fail
          refine wp_region_quiet_grown (by assumption) (by kernel_rfl) ?_
          repeat (
            with_reducible refine wpQuiet_step (fun K hK => ?_)
            go_simp
            first
              | (with_reducible refine hK _ ?_; clear hK K)
              | (rw [if_neg (by simp [undef])]; with_reducible refine hK _ ?_; clear hK K)
              | (apply Exists.intro
                 refine ⟨fun _ => ?_, hK _ ?_⟩
                 (first | (go_at_fn 52; with_reducible exact call_gr HK2.out _ _ _))
                 clear hK K))
          with_reducible refine wpQuiet_nil ?_
          intro _ hw0
          obtain ⟨⟨nq, osq⟩, hw1⟩ := hw0
          subst hw1
          go_wp2
          go_ret
          obtain rfl := HT.out
          refine ⟨ret_bool (M.sorted_not hjl ?_).symm, (hg.out.drewN _).grow _⟩
          rw [HX.out, HY.out]
          exact (ordI_lt x y).1 (by rw [HR.out]; exact h0)
        · have hd : decide (r < 0) = false := decide_eq_false h0
          go_wp2_with fail
          refine wp_region_quiet_grown (by assumption) (by kernel_rfl) ?_
          repeat (
            with_reducible refine wpQuiet_step (fun K hK => ?_)
            go_simp
            first
              | (with_reducible refine hK _ ?_; clear hK K)
              | (rw [if_neg (by simp [undef])]; with_reducible refine hK _ ?_; clear hK K)
              | (apply Exists.intro
                 refine ⟨fun _ => ?_, hK _ ?_⟩
                 (first | (go_at_fn 52; with_reducible exact call_gr HK2.out _ _ _))
                 clear hK K))
          with_reducible refine wpQuiet_nil ?_
          intro _ hw0
          obtain ⟨⟨nq, osq⟩, hw1⟩ := hw0
          subst hw1
          go_wp2
          obtain rfl := HT.out
          refine ⟨⟨(t : Int), t, by go_num, fun h => ⟨rfl, htl⟩, fun h => by omega, M.sortedFrom_step hm.out hjl ?_, (hg.out.drewN _).grow _⟩, by simp [intOf]⟩
          rw [HX.out, HY.out]
          cases hl : M.ltA x y with
          | false => rfl
          | true => have := (ordI_lt x y).2 hl; rw [HR.out] at this; omega
      · obtain rfl := hi2 hpos
        clear hi1 hi2
        go_wp2
        go_ret
        exact ⟨ret_bool (M.sorted_end hm.out).symm, hg.out⟩

set_option maxHeartbeats 1000000 in
theorem search_any (w : World) (v : Value) (l : List M.Atm) (x : M.Atm) (h : AtAt w v l) (hn : l.length ≤ 1048576) (hs : M.Steady l) :
    Calls Try.prog 59 #[v, av x, fnOrder] w fun e w' => ∃ p, e = .returned (.tuple #[.int .i64 p, .bool (M.has l x)]) ∧ Gr w w' := by
  obtain ⟨h0, a, cap, rfl, g⟩ := h
  clear h0
  have mixed := mixedP
  have eg := enters_order
  unfold fnOrder av
  have HS := hid hs
  clear hs
  obtain ⟨n1, n2⟩ := new_two w (.int .i64 x.k) (.int .i64 x.n) 37
  rcases g with rfl | ⟨b, o, rfl, hlt, hr, hc⟩
  · clear n1 n2
    go_enter Try.func59, Try.ntmps59
    go_wp2
    go_loopw [9, 10] (fun i j w' => i = .int .i64 0 ∧ j = .int .i64 0 ∧ Hid (Gr w w')) (fun _ _ _ => 0)
    case atStart => exact ⟨rfl, rfl, (Gr.refl _).alloc _⟩
    case round =>
      obtain ⟨rfl, rfl, hg⟩ := hrel
      go_wp2_with fail
      refine wp_region_quiet_grown (by assumption) (by kernel_rfl) ?_
      repeat (
        with_reducible refine wpQuiet_step (fun K hK => ?_)
        go_simp
        first
          | (with_reducible refine hK _ ?_; clear hK K)
          | (rw [if_neg (by simp [undef])]; with_reducible refine hK _ ?_; clear hK K)
          | (apply Exists.intro
             refine ⟨fun _ => ?_, hK _ ?_⟩
             (fail)
             clear hK K))
      with_reducible refine wpQuiet_nil ?_
      intro _ hw0
      obtain ⟨⟨nq, osq⟩, hw1⟩ := hw0
      subst hw1
      go_wp2
      go_ret2
      exact ⟨_, rfl, (hg.out.drewN _).grow _⟩
  · have HC := hid hc
    clear hc hr
    have H1 := hid n1
    have H2 := hid n2
    clear n1 n2
    go_enter Try.func59, Try.ntmps59
    go_wp2
    go_loopw [9, 10] (fun i j w' => ∃ lo hi : Nat, i = .int .i64 lo ∧ j = .int .i64 hi ∧ lo ≤ hi ∧ hi ≤ l.length ∧ Hid (M.BsI l x lo hi) ∧ Hid (Gr (w.alloc (.cells #[.int .i64 x.k, .int .i64 x.n] 37)) w')) (fun i j _ => (intOf j).toNat - (intOf i).toNat)
    case atStart => exact ⟨0, l.length, rfl, rfl, Nat.zero_le _, Nat.le_refl _, M.bs_start l x, Gr.refl _⟩
    case round =>
      obtain ⟨lo, hi, rfl, rfl, hlh, hin, hI, hg⟩ := hrel
      have hbr : b < (w.alloc (.cells #[.int .i64 x.k, .int .i64 x.n] 37)).heap.size := by simp; omega
      have hz := hg.out.below.size
      have n1 := H1.out
      have n2 := H2.out
      rw [← hg.out.below.cell (p := ⟨w.heap.size, 0, none⟩) (by simp)] at n1
      rw [← hg.out.below.cell (p := ⟨w.heap.size, 0 + 1, none⟩) (by simp)] at n2
      have hwr : w.heap.size < wr.heap.size := by simp at hz; omega
      have hbw : b < wr.heap.size := by omega
      obtain ⟨N1, N2⟩ := two_grown hwr n1 n2
      simp only [Nat.zero_add] at N2
      clear n1 n2 hz
      have cells : ∀ m (hm : m < l.length), (∀ n os, (grow (wr.drewN n) os).cell? ⟨b, o + m * 2, none⟩ = some (.int .i64 l[m].k)) ∧ (∀ n os, (grow (wr.drewN n) os).cell? ⟨b, o + m * 2 + 1, none⟩ = some (.int .i64 l[m].n)) := by
        intro m hm
        obtain ⟨c1, c2⟩ := HC.out m hm
        have c1 := old_cell (.cells #[.int .i64 x.k, .int .i64 x.n] 37) hlt c1
        have c2 := old_cell (.cells #[.int .i64 x.k, .int .i64 x.n] 37) hlt c2
        rw [← hg.out.below.cell (p := ⟨b, o + m * 2, none⟩) hbr] at c1
        rw [← hg.out.below.cell (p := ⟨b, o + m * 2 + 1, none⟩) hbr] at c2
        exact two_grown hbw c1 c2
      have HCE := hid cells
      clear cells hbr
      have G0 : Hid (Gr w wr) := ((Gr.refl w).alloc _).trans hg.out
      by_cases hlt2 : lo < hi
      · obtain ⟨m, hm⟩ : ∃ m, (lo + hi) / 2 = m := ⟨_, rfl⟩
        have hml : m < l.length := by omega
        have hlo : lo ≤ m := by omega
        have hhi : m < hi := by omega
        have he : ((lo : Int) + (hi : Int)) / 2 = (m : Int) := by omega
        obtain ⟨C1, C2⟩ := HCE.out m hml
        obtain ⟨y, hy⟩ : ∃ y, l[m] = y := ⟨_, rfl⟩
        rw [hy] at C1 C2
        have HY := hid hy
        clear hy hm
        have K2 := fun W => order_any y x W
        unfold av at K2
        obtain ⟨r, hr⟩ : ∃ r, ordI y x = r := ⟨_, rfl⟩
        rw [hr] at K2
        have HK2 := hid K2
        have HR := hid hr
        clear K2 hr
        by_cases h0 : r < 0
        · have hd : decide (r < 0) = true := decide_eq_true h0
          go_wp2_with fail
          refine wp_region_quiet_grown (by assumption) (by kernel_rfl) ?_
          repeat (
            with_reducible refine wpQuiet_step (fun K hK => ?_)
            go_simp
            first
              | (with_reducible refine hK _ ?_; clear hK K)
              | (rw [if_neg (by simp [undef])]; with_reducible refine hK _ ?_; clear hK K)
              | (apply Exists.intro
                 refine ⟨fun _ => ?_, hK _ ?_⟩
                 (first | (go_at_fn 52; with_reducible exact call_gr HK2.out _ _ _))
                 clear hK K))
          with_reducible refine wpQuiet_nil ?_
          intro _ hw0
          obtain ⟨⟨nq, osq⟩, hw1⟩ := hw0
          subst hw1
          go_wp2
          refine ⟨⟨m + 1, hi, by go_num, rfl, by omega, hin, M.bs_up HS.out hI.out hml ?_, (hg.out.drewN _).grow _⟩, by simp [intOf]; omega⟩
          rw [HY.out]
          exact (ordI_lt y x).1 (by rw [HR.out]; exact h0)
        · have hd : decide (r < 0) = false := decide_eq_false h0
          go_wp2_with fail
          refine wp_region_quiet_grown (by assumption) (by kernel_rfl) ?_
          repeat (
            with_reducible refine wpQuiet_step (fun K hK => ?_)
            go_simp
            first
              | (with_reducible refine hK _ ?_; clear hK K)
              | (rw [if_neg (by simp [undef])]; with_reducible refine hK _ ?_; clear hK K)
              | (apply Exists.intro
                 refine ⟨fun _ => ?_, hK _ ?_⟩
                 (first | (go_at_fn 52; with_reducible exact call_gr HK2.out _ _ _))
                 clear hK K))
          with_reducible refine wpQuiet_nil ?_
          intro _ hw0
          obtain ⟨⟨nq, osq⟩, hw1⟩ := hw0
          subst hw1
          go_wp2
          refine ⟨⟨lo, m, rfl, by go_num, by omega, by omega, M.bs_down HS.out hI.out hml ?_, (hg.out.drewN _).grow _⟩, by simp [intOf]; omega⟩
          rw [HY.out]
          cases hl : M.ltA y x with
          | false => rfl
          | true => have := (ordI_lt y x).2 hl; rw [HR.out] at this; omega
      · obtain rfl : hi = lo := by omega
        by_cases hn2 : hi < l.length
        · obtain ⟨C1, C2⟩ := HCE.out hi hn2
          obtain ⟨y, hy⟩ : ∃ y, l[hi] = y := ⟨_, rfl⟩
          rw [hy] at C1 C2
          have HY := hid hy
          clear hy
          have K2 := fun W => order_any y x W
          unfold av at K2
          obtain ⟨r, hr⟩ : ∃ r, ordI y x = r := ⟨_, rfl⟩
          rw [hr] at K2
          have HK2 := hid K2
          have HR := hid hr
          clear K2 hr
          have hfin : M.has l x = (r == 0) := by
            rw [M.bs_end HS.out hI.out hn2, HY.out, Bool.eq_iff_iff, decide_eq_true_iff, beq_iff_eq, ← HR.out, ordI_zero]
          have HF := hid hfin
          clear hfin
          go_wp2_with fail
          refine wp_region_quiet_grown (by assumption) (by kernel_rfl) ?_
          repeat (
            with_reducible refine wpQuiet_step (fun K hK => ?_)
            go_simp
            first
              | (with_reducible refine hK _ ?_; clear hK K)
              | (rw [if_neg (by simp [undef])]; with_reducible refine hK _ ?_; clear hK K)
              | (apply Exists.intro
                 refine ⟨fun _ => ?_, hK _ ?_⟩
                 (first | (go_at_fn 52; with_reducible exact call_gr HK2.out _ _ _))
                 clear hK K))
          with_reducible refine wpQuiet_nil ?_
          intro _ hw0
          obtain ⟨⟨nq, osq⟩, hw1⟩ := hw0
          subst hw1
          go_wp2
          go_ret2
          rw [HF.out]
          exact ⟨_, rfl, (G0.out.drewN _).grow _⟩
        · have hfin := hid (M.bs_out HS.out hI.out hn2)
          go_wp2_with fail
          refine wp_region_quiet_grown (by assumption) (by kernel_rfl) ?_
          repeat (
            with_reducible refine wpQuiet_step (fun K hK => ?_)
            go_simp
            first
              | (with_reducible refine hK _ ?_; clear hK K)
              | (rw [if_neg (by simp [undef])]; with_reducible refine hK _ ?_; clear hK K)
              | (apply Exists.intro
                 refine ⟨fun _ => ?_, hK _ ?_⟩
                 (fail)
                 clear hK K))
          with_reducible refine wpQuiet_nil ?_
          intro _ hw0
          obtain ⟨⟨nq, osq⟩, hw1⟩ := hw0
          subst hw1
          go_wp2
          go_ret2
          rw [hfin.out]
          exact ⟨_, rfl, (G0.out.drewN _).grow _⟩
end Go.Proofs.Ytcnikcfnfohoeaa
