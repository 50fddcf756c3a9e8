/-
  The walks of slices.BinarySearchFunc over fields, with object.byName, and of object.place and object.find. Conditions: fields that rise, at most 2^20 of them.
-/
import Derived.Test.YtbaaeobdjiglgaaGreatS2
set_option linter.unusedVariables false
set_option linter.unusedSimpArgs false
namespace Go.Proofs.YtbaaeobdjiglgaaGreat
open Go.RowKit Go.Sort
def stopped (P : Prop) : Prop := P
theorem stopHere {P : Prop} (h : stopped P) : P := h
theorem stopAt {P : Prop} (h : P) : stopped P := h
theorem enters_byName : ∀ args w, (callFunc 79 args).run Tryz.prog w = .ok (.enter 79 args) w := enters_of Tryz.func79 (by kernel_rfl) rfl
/-- the value of object.byName -/
def fnByName : Value := .func (.func 79) #[] #[]

/-- below the name up to lo, not below it from hi on -/
def BsF (R : List Cel) (n : ByteArray) (lo hi : Nat) : Prop := (∀ t (h : t < R.length), t < lo → M.ltN R[t].f.nm n = true) ∧ (∀ t (h : t < R.length), hi ≤ t → M.ltN R[t].f.nm n = false)
theorem bsF_start (R : List Cel) (n : ByteArray) : BsF R n 0 R.length := ⟨fun t _ h => absurd h (Nat.not_lt_zero _), fun t h1 h2 => absurd h1 (by omega)⟩
theorem ris_get {R : List Cel} (h : M.RisF (fldOf R)) {i j : Nat} (hi : i < j) (hj : j < R.length) : M.ltN (R[i]'(by omega)).f.nm R[j].f.nm = true := by
  have := List.pairwise_iff_getElem.1 h i j (by rw [fldOf_len]; omega) (by rw [fldOf_len]; exact hj) hi
  simpa [fldOf] using this
theorem bsF_up {R : List Cel} {n : ByteArray} {lo hi m : Nat} (hs : M.RisF (fldOf R)) (h : BsF R n lo hi) (hm : m < R.length) (hl : M.ltN R[m].f.nm n = true) : BsF R n (m + 1) hi := ⟨fun t ht htm => by
    rcases Nat.lt_succ_iff_lt_or_eq.1 htm with h' | rfl
    · exact M.ltN_trans (ris_get hs h' hm) hl
    · exact hl, h.2⟩
theorem bsF_down {R : List Cel} {n : ByteArray} {lo hi m : Nat} (hs : M.RisF (fldOf R)) (h : BsF R n lo hi) (hm : m < R.length) (hl : M.ltN R[m].f.nm n = false) : BsF R n lo m := ⟨h.1, fun t ht htm => by
    rcases Nat.lt_or_eq_of_le htm with h' | rfl
    · cases h2 : M.ltN R[t].f.nm n with
      | false => rfl
      | true => have := M.ltN_trans (ris_get hs h' ht) h2; rw [hl] at this; cases this
    · exact hl⟩
/-- where the name stands, or would stand -/
def PlaceIs (R : List Cel) (n : ByteArray) (p : Nat) (th : Bool) : Prop := p ≤ R.length ∧ BsF R n p p ∧ th = decide (∃ h : p < R.length, R[p].f.nm = n)
theorem place_get {R : List Cel} {n : ByteArray} {p : Nat} (hs : M.RisF (fldOf R)) (h : PlaceIs R n p true) : ∃ hp : p < R.length, M.getF (fldOf R) n = some R[p].f := by
  obtain ⟨hp, e⟩ := of_decide_eq_true h.2.2.symm
  refine ⟨hp, ?_⟩
  rw [← e]
  exact M.getF_of_mem hs (List.mem_map.2 ⟨_, List.getElem_mem hp, rfl⟩)
theorem place_none {R : List Cel} {n : ByteArray} {p : Nat} (hs : M.RisF (fldOf R)) (h : PlaceIs R n p false) : M.getF (fldOf R) n = none := by
  rw [M.getF_none]
  intro f hf e
  obtain ⟨x, hx, rfl⟩ := List.mem_map.1 hf
  obtain ⟨i, hi, rfl⟩ := List.getElem_of_mem hx
  have hd := of_decide_eq_false h.2.2.symm
  rcases Nat.lt_trichotomy i p with h' | h' | h'
  · have := h.2.1.1 i hi h'
    rw [e, M.ltN_irrefl] at this; cases this
  · subst h'; exact hd ⟨hi, e⟩
  · have h1 := h.2.1.2 p (by omega) (Nat.le_refl _)
    have h2 := ris_get hs h' hi
    rw [e] at h2
    rw [h2] at h1; cases h1

set_option maxHeartbeats 1000000 in
theorem searchF_any (w : World) (v : Value) (R : List Cel) (x : Cel) (h : RsAt w v R) (hn : R.length ≤ 1048576) (hs : M.RisF (fldOf R)) :
    Calls Tryz.prog 99 #[v, fv x, fnByName] w fun e w' => ∃ (p : Nat) (th : Bool), e = .returned (.tuple #[.int .i64 p, .bool th]) ∧ PlaceIs R x.f.nm p th ∧ Gr w w' := by
  obtain ⟨h0, a, cap, rfl, g⟩ := h
  clear h0
  have mixed := mixedP
  have eg := enters_byName
  unfold fnByName fv
  have HS := hid hs
  clear hs
  obtain ⟨n1, n2, n3⟩ := new_tri w (.string x.f.nm) (.bool x.f.su) (.slice x.a x.f.vs.length x.c) 49
  rcases g with rfl | ⟨b, o, rfl, hlt, hr, hc⟩
  · clear n1 n2 n3
    go_enter Tryz.func99, Tryz.ntmps99
    go_wp2
    go_loopw [9, 10] (fun i j w' => i = .int .i64 0 ∧ j = .int .i64 0 ∧ Hid (Gr w w')) (fun _ _ _ => 0)
    case atStart => exact ⟨rfl, rfl, (Gr.refl _).alloc _⟩
    case round =>
      obtain ⟨rfl, rfl, hg⟩ := hrel
      go_wp2_with fail
      refine wp_region_quiet_grown (by assumption) (by kernel_rfl) ?_
      repeat (
        with_reducible refine wpQuiet_step (fun K hK => ?_)
        go_simp
        first
          | (with_reducible refine hK _ ?_; clear hK K)
          | (rw [if_neg (by simp [undef])]; with_reducible refine hK _ ?_; clear hK K)
          | (apply Exists.intro
             refine ⟨fun _ => ?_, hK _ ?_⟩
             (fail)
             clear hK K))
      with_reducible refine wpQuiet_nil ?_
      intro _ hw0
      obtain ⟨⟨nq, osq⟩, hw1⟩ := hw0
      subst hw1
      go_wp2
      go_ret2
      exact ⟨0, false, rfl, ⟨Nat.le_refl _, bsF_start _ _, by simp⟩, (hg.out.drewN _).grow _⟩
  · have HC := hid hc
    clear hc hr
    have H1 := hid n1
    have H2 := hid n2
    have H3 := hid n3
    clear n1 n2 n3
    go_enter Tryz.func99, Tryz.ntmps99
    go_wp2
    go_loopw [9, 10] (fun i j w' => ∃ lo hi : Nat, i = .int .i64 lo ∧ j = .int .i64 hi ∧ lo ≤ hi ∧ hi ≤ R.length ∧ Hid (BsF R x.f.nm lo hi) ∧ Hid (Gr (w.alloc (.cells #[.string x.f.nm, .bool x.f.su, .slice x.a x.f.vs.length x.c] 49)) w')) (fun i j _ => (intOf j).toNat - (intOf i).toNat)
    case atStart => exact ⟨0, R.length, rfl, rfl, Nat.zero_le _, Nat.le_refl _, bsF_start R _, Gr.refl _⟩
    case round =>
      obtain ⟨lo, hi, rfl, rfl, hlh, hin, hI, hg⟩ := hrel
      have hbr : b < (w.alloc (.cells #[.string x.f.nm, .bool x.f.su, .slice x.a x.f.vs.length x.c] 49)).heap.size := by simp; omega
      have hz := hg.out.below.size
      have n1 := H1.out
      have n2 := H2.out
      have n3 := H3.out
      rw [← hg.out.below.cell (p := ⟨w.heap.size, 0, none⟩) (by simp)] at n1
      rw [← hg.out.below.cell (p := ⟨w.heap.size, 1, none⟩) (by simp)] at n2
      rw [← hg.out.below.cell (p := ⟨w.heap.size, 2, none⟩) (by simp)] at n3
      have hwr : w.heap.size < wr.heap.size := by simp at hz; omega
      have hbw : b < wr.heap.size := by omega
      obtain ⟨N1, N2, N3⟩ := tri_grown (p := 0) hwr n1 n2 n3
      simp only [Nat.zero_add] at N2 N3
      clear n1 n2 n3 hz
      have cells : ∀ m (hm : m < R.length), (∀ n os, (grow (wr.drewN n) os).cell? ⟨b, o + m * 3, none⟩ = some (.string R[m].f.nm)) ∧ (∀ n os, (grow (wr.drewN n) os).cell? ⟨b, o + m * 3 + 1, none⟩ = some (.bool R[m].f.su)) ∧ (∀ n os, (grow (wr.drewN n) os).cell? ⟨b, o + m * 3 + 2, none⟩ = some (.slice R[m].a R[m].f.vs.length R[m].c)) := by
        intro m hm
        have c := (HC.out m hm).bel hlt (((Gr.refl w).alloc (.cells #[.string x.f.nm, .bool x.f.su, .slice x.a x.f.vs.length x.c] 49)).below)
        obtain ⟨c1, c2, c3⟩ := c.bel hbr hg.out.below
        exact tri_grown hbw c1 c2 c3
      have HCE := hid cells
      clear cells hbr
      have G0 : Hid (Gr w wr) := ((Gr.refl w).alloc _).trans hg.out
      by_cases hlt2 : lo < hi
      · obtain ⟨m, hm⟩ : ∃ m, (lo + hi) / 2 = m := ⟨_, rfl⟩
        have hml : m < R.length := by omega
        have hlo : lo ≤ m := by omega
        have hhi : m < hi := by omega
        have he : ((lo : Int) + (hi : Int)) / 2 = (m : Int) := by omega
        obtain ⟨C1, C2, C3⟩ := HCE.out m hml
        obtain ⟨y, hy⟩ : ∃ y, R[m] = y := ⟨_, rfl⟩
        rw [hy] at C1 C2 C3
        have HY := hid hy
        clear hy hm
        have K2 := fun W => byName_any y x W
        unfold fv at K2
        obtain ⟨r, hr⟩ : ∃ r, cmpN y.f.nm x.f.nm = r := ⟨_, rfl⟩
        rw [hr] at K2
        have HK2 := hid K2
        have HR := hid hr
        clear K2 hr
        by_cases h0 : r < 0
        · have hd : decide (r < 0) = true := decide_eq_true h0
          go_wp2_with fail
          refine wp_region_quiet_grown (by assumption) (by kernel_rfl) ?_
          repeat (
            with_reducible refine wpQuiet_step (fun K hK => ?_)
            go_simp
            first
              | (with_reducible refine hK _ ?_; clear hK K)
              | (rw [if_neg (by simp [undef])]; with_reducible refine hK _ ?_; clear hK K)
              | (apply Exists.intro
                 refine ⟨fun _ => ?_, hK _ ?_⟩
                 (first | (go_at_fn 79; with_reducible exact call_gr HK2.out _ _ _))
                 clear hK K))
          with_reducible refine wpQuiet_nil ?_
          intro _ hw0
          obtain ⟨⟨nq, osq⟩, hw1⟩ := hw0
          subst hw1
          go_wp2
          refine ⟨⟨m + 1, hi, by go_num, rfl, by omega, hin, bsF_up HS.out hI.out hml ?_, (hg.out.drewN _).grow _⟩, by simp [intOf]; omega⟩
          rw [HY.out]
          exact (cmpN_lt _ _).1 (by rw [HR.out]; exact h0)
        · have hd : decide (r < 0) = false := decide_eq_false h0
          go_wp2_with fail
          refine wp_region_quiet_grown (by assumption) (by kernel_rfl) ?_
          repeat (
            with_reducible refine wpQuiet_step (fun K hK => ?_)
            go_simp
            first
              | (with_reducible refine hK _ ?_; clear hK K)
              | (rw [if_neg (by simp [undef])]; with_reducible refine hK _ ?_; clear hK K)
              | (apply Exists.intro
                 refine ⟨fun _ => ?_, hK _ ?_⟩
                 (first | (go_at_fn 79; with_reducible exact call_gr HK2.out _ _ _))
                 clear hK K))
          with_reducible refine wpQuiet_nil ?_
          intro _ hw0
          obtain ⟨⟨nq, osq⟩, hw1⟩ := hw0
          subst hw1
          go_wp2
          refine ⟨⟨lo, m, rfl, by go_num, by omega, by omega, bsF_down HS.out hI.out hml ?_, (hg.out.drewN _).grow _⟩, by simp [intOf]; omega⟩
          rw [HY.out]
          cases hl : M.ltN y.f.nm x.f.nm with
          | false => rfl
          | true => have := (cmpN_lt _ _).2 hl; rw [HR.out] at this; omega
      · obtain rfl : hi = lo := by omega
        by_cases hn2 : hi < R.length
        · obtain ⟨C1, C2, C3⟩ := HCE.out hi hn2
          obtain ⟨y, hy⟩ : ∃ y, R[hi] = y := ⟨_, rfl⟩
          rw [hy] at C1 C2 C3
          have HY := hid hy
          clear hy
          have K2 := fun W => byName_any y x W
          unfold fv at K2
          obtain ⟨r, hr⟩ : ∃ r, cmpN y.f.nm x.f.nm = r := ⟨_, rfl⟩
          rw [hr] at K2
          have HK2 := hid K2
          have HR := hid hr
          clear K2 hr
          have HF : Hid (PlaceIs R x.f.nm hi (r == 0)) := ⟨hin, hI.out, by
            rw [Bool.eq_iff_iff, decide_eq_true_iff, beq_iff_eq, ← HR.out, cmpN_zero]
            constructor
            · intro e; exact ⟨hn2, by rw [HY.out]; exact e⟩
            · rintro ⟨_, e⟩; rw [HY.out] at e; exact e⟩
          go_wp2_with fail
          refine wp_region_quiet_grown (by assumption) (by kernel_rfl) ?_
          repeat (
            with_reducible refine wpQuiet_step (fun K hK => ?_)
            go_simp
            first
              | (with_reducible refine hK _ ?_; clear hK K)
              | (rw [if_neg (by simp [undef])]; with_reducible refine hK _ ?_; clear hK K)
              | (apply Exists.intro
                 refine ⟨fun _ => ?_, hK _ ?_⟩
                 (first | (go_at_fn 79; with_reducible exact call_gr HK2.out _ _ _))
                 clear hK K))
          with_reducible refine wpQuiet_nil ?_
          intro _ hw0
          obtain ⟨⟨nq, osq⟩, hw1⟩ := hw0
          subst hw1
          go_wp2
          go_ret2
          exact ⟨_, _, rfl, HF.out, (G0.out.drewN _).grow _⟩
        · have HF : Hid (PlaceIs R x.f.nm hi false) := ⟨hin, hI.out, by symm; rw [decide_eq_false_iff_not]; rintro ⟨h, _⟩; exact hn2 h⟩
          go_wp2_with fail
          refine wp_region_quiet_grown (by assumption) (by kernel_rfl) ?_
          repeat (
            with_reducible refine wpQuiet_step (fun K hK => ?_)
            go_simp
            first
              | (with_reducible refine hK _ ?_; clear hK K)
              | (rw [if_neg (by simp [undef])]; with_reducible refine hK _ ?_; clear hK K)
              | (apply Exists.intro
                 refine ⟨fun _ => ?_, hK _ ?_⟩
                 (fail)
                 clear hK K))
          with_reducible refine wpQuiet_nil ?_
          intro _ hw0
          obtain ⟨⟨nq, osq⟩, hw1⟩ := hw0
          subst hw1
          go_wp2
          go_ret2
          exact ⟨_, _, rfl, HF.out, (G0.out.drewN _).grow _⟩

def keyCel (n : ByteArray) : Cel := ⟨⟨n, false, []⟩, none, 0⟩
set_option maxHeartbeats 1000000 in
theorem place_any (w : World) (v : Value) (R : List Cel) (n : ByteArray) (h : RsAt w v R) (hn : R.length ≤ 1048576) (hs : M.RisF (fldOf R)) :
    Calls Tryz.prog 91 #[v, .string n] w fun e w' => ∃ (p : Nat) (th : Bool), e = .returned (.tuple #[.int .i64 p, .bool th]) ∧ PlaceIs R n p th ∧ Gr w w' := by
  have T := hid h
  obtain ⟨a, cap, rfl⟩ := h.form
  clear h
  have K := searchF_any w _ R (keyCel n) T.out hn hs
  unfold fnByName fv keyCel at K
  have HK := hid K
  clear K
  go_enter Tryz.func91, Tryz.ntmps91
  go_wp2_with (go_at_call 99; refine stopHere ?_)
  refine stopAt ?_
  refine HK.out.mono ?_
  rintro e w1 ⟨p, th, rfl, hP, hg⟩
  have HP := hid hP
  have HG := hid hg
  clear hP hg
  go_wp2
  go_ret2
  exact ⟨_, _, rfl, HP.out, HG.out⟩

end Go.Proofs.YtbaaeobdjiglgaaGreat
