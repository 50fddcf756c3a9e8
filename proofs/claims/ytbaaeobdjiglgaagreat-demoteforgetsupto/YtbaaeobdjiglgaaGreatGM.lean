/-
  The walks of atoms.Union and atoms.Norm: the one rising list of the atoms of both that may be. Conditions: lists of at most 100000 atoms.
-/
import Derived.Test.YtbaaeobdjiglgaaGreatA7
import Derived.Test.YtbaaeobdjiglgaaGreatS3
set_option linter.unusedVariables false
set_option linter.unusedSimpArgs false
namespace Go.Proofs.YtbaaeobdjiglgaaGreat
open Go.RowKit Go.Sort

/-- what v points to lies behind B -/
def Fresh (B : Nat) (v : Value) : Prop := ∀ b o s n c, v = .slice (some ⟨b, o, s⟩) n c → B ≤ b
theorem fresh_mk {B g o n c : Nat} (h : B ≤ g) : Fresh B (.slice (some ⟨g, o, none⟩) n c) := fun b o s n c e => by
  simp only [Value.slice.injEq, Option.some.injEq, Addr.mk.injEq] at e
  rw [← e.1.1]; exact h
theorem Fresh.mono {B B' : Nat} {v : Value} (h : Fresh B v) (hb : B' ≤ B) : Fresh B' v := fun b o s n c e => Nat.le_trans hb (h b o s n c e)
theorem owns_keep {w w' : World} {base size n : Nat} {e : TypeId} {v : Value} {xs : List Value} (h : w.ownsRow base e size v n xs) (hb : Below w.heap.size w w') : w'.ownsRow base e size v n xs := by
  refine ⟨h.1, ?_⟩
  rcases h.2 with h | ⟨g, cap, cur, hv, h1, h2, h3⟩
  · exact .inl h
  · exact .inr ⟨g, cap, cur, hv, h1, by rw [hb.block g (Array.getElem?_eq_some_iff.1 h2).1]; exact h2, h3⟩
theorem new_ac (W : World) (x : M.Atm) (t : TypeId) : ∀ j u, (ac x)[j]? = some u → (W.alloc (.cells #[.int .i64 x.k, .int .i64 x.n] t)).cell? ((⟨W.heap.size, 0, none⟩ : Addr).add j) = some u := by
  obtain ⟨n1, n2⟩ := new_two W (.int .i64 x.k) (.int .i64 x.n) t
  intro j u hu
  rw [add_at]
  match j, hu with
  | 0, hu => simp [ac] at hu; rw [← hu]; exact n1
  | 1, hu => simp [ac] at hu; rw [← hu]; exact n2
  | j + 2, hu => simp [ac] at hu
theorem index2 (u v : Option Addr) (n m c d : Nat) (W : World) : (Instr.index 97 (.agg #[.slice u n c, .slice v m d]) (.int .i64 0)).run Tryz.prog W = .ok (.slice u n c) W ∧ (Instr.index 97 (.agg #[.slice u n c, .slice v m d]) (.int .i64 1)).run Tryz.prog W = .ok (.slice v m d) W := by
  constructor <;> simp [Instr.index, part, asIntOf, run_underlying Tryz.underlying97, Tryz.sizeOf29, Tryz.isAgg29]
/-- what is in the list when k of the two are through -/
def parts (la lb : List M.Atm) : Nat → List M.Atm
  | 0 => []
  | 1 => la.filter M.okA
  | _ => la.filter M.okA ++ lb.filter M.okA
theorem OwnA.cellsF {w : World} {g cap : Nat} {l : List M.Atm} (h : OwnA w g cap l) : CellsF w g 0 l.length (fun i => l.getD i ⟨0, 0⟩) := by
  obtain ⟨cur, h1, h2, h3, h4, h5⟩ := h
  intro i hi
  obtain ⟨e1, e2⟩ := h5 i hi
  have e : l.getD i ⟨0, 0⟩ = l[i] := by simp [List.getD, hi]
  simp only [e, Nat.zero_add]
  exact ⟨cell_cur h1 e1, cell_cur h1 e2, Lib.frozen_of_heap h1 _, Lib.frozen_of_heap h1 _⟩

set_option maxHeartbeats 4000000 in
set_option maxRecDepth 100000 in
theorem union_new (w : World) (va vb : Value) (la lb : List M.Atm) (ha : AtAt w va la) (hb : AtAt w vb lb) (na : la.length ≤ 100000) (nb : lb.length ≤ 100000) :
    Calls Tryz.prog 60 #[va, vb] w fun e w' => ∃ v, e = .returned v ∧ AtAt w' v (M.norm (la ++ lb)) ∧ Fresh w.heap.size v ∧ Below w.heap.size w w' := by
  obtain ⟨i0, hi, hz0, hz1, hz2⟩ := info_parts infoAtom
  have eg := enters_order
  obtain ⟨r1, a1, c1, rfl, g1⟩ := ha
  obtain ⟨r2, a2, c2, rfl, g2⟩ := hb
  have HC1 : Hid (la ≠ [] → ∃ b o, a1 = some ⟨b, o, none⟩ ∧ b < w.heap.size ∧ ∀ i (h : i < la.length), w.cell? ⟨b, o + i * 2, none⟩ = some (.int .i64 la[i].k) ∧ w.cell? ⟨b, o + i * 2 + 1, none⟩ = some (.int .i64 la[i].n)) := by
    intro hne
    rcases g1 with h | ⟨b, o, h1, h2, _, h3⟩
    · exact absurd h hne
    · exact ⟨b, o, h1, h2, h3⟩
  have HC2 : Hid (lb ≠ [] → ∃ b o, a2 = some ⟨b, o, none⟩ ∧ b < w.heap.size ∧ ∀ i (h : i < lb.length), w.cell? ⟨b, o + i * 2, none⟩ = some (.int .i64 lb[i].k) ∧ w.cell? ⟨b, o + i * 2 + 1, none⟩ = some (.int .i64 lb[i].n)) := by
    intro hne
    rcases g2 with h | ⟨b, o, h1, h2, _, h3⟩
    · exact absurd h hne
    · exact ⟨b, o, h1, h2, h3⟩
  have R1 := hid r1
  have R2 := hid r2
  clear g1 g2 r1 r2
  go_enter Tryz.func60, Tryz.ntmps60
  go_wp2_with (at_make; refine wpList_make_own _ rfl _ _ 29 rfl w.heap.size 34 i0 _ 2 Tryz.underlying29 hi hz0 hz1 _ _ _ (la.length + lb.length) rfl rfl (by omega) (by rw [hz2]; omega) (by unfold maxLen; omega) (Nat.le_refl _) ?_; intro w1 hown1 hgrow1)
  have hcap : la.length + lb.length ≤ la.length + lb.length := Nat.le_refl _
  obtain ⟨cap, hcp⟩ : ∃ cap, la.length + lb.length = cap := ⟨_, rfl⟩
  rw [hcp] at hown1 hcap
  simp only [hcp]
  have hbel := hid ((Below.refl w.heap.size w).grown hgrow1 (Nat.le_refl _) (fun k e => by cases e))
  obtain ⟨g, hgw⟩ : ∃ g, w.heap.size = g := ⟨_, rfl⟩
  have hg0 : w.heap.size ≤ g := by omega
  rw [show (some ⟨w.heap.size, 0, none⟩ : Option Addr) = some ⟨g, 0, none⟩ by rw [hgw]] at hown1 ⊢
  clear hgw hgrow1
  have hown := hid hown1
  have HCP := hid hcp
  clear hown1 hcp
  go_loopw [19, 5] (fun i v w' => ∃ (kz : Int) (k : Nat) (acc : List M.Atm), (kz = 0 ∧ k = 0 ∨ kz = 1 ∧ k = 1 ∨ kz = 2 ∧ k = 2) ∧ i = .int .i64 kz ∧ v = .slice (some ⟨g, 0, none⟩) acc.length cap ∧ Hid (acc = parts la lb k) ∧ Hid (w'.ownsRow w.heap.size 34 2 (.slice (some ⟨g, 0, none⟩) acc.length cap) acc.length (acc.flatMap ac)) ∧ Hid (Below w.heap.size w w')) (fun i _ _ => 2 - (intOf i).toNat)
  case atStart => exact ⟨0, 0, [], .inl ⟨rfl, rfl⟩, rfl, rfl, rfl, hown, hbel⟩
  case round =>
    clear hown hbel
    obtain ⟨kz, k, acc, hcase, rfl, rfl, hacc, hown, hbel⟩ := hrel
    have hix0 := fun W => (index2 a1 a2 la.length lb.length c1 c2 W).1
    have hix1 := fun W => (index2 a1 a2 la.length lb.length c1 c2 W).2
    rcases hcase with ⟨rfl, rfl⟩ | ⟨rfl, rfl⟩ | ⟨rfl, rfl⟩
    · go_wp2
      go_loopw [24, 5] (fun i v w' => ∃ (j : Nat) (acc : List M.Atm), j ≤ la.length ∧ i = .int .i64 j ∧ v = .slice (some ⟨g, 0, none⟩) acc.length cap ∧ Hid (acc = [] ++ (la.take j).filter M.okA) ∧ Hid (w'.ownsRow w.heap.size 34 2 (.slice (some ⟨g, 0, none⟩) acc.length cap) acc.length (acc.flatMap ac)) ∧ Hid (Below w.heap.size w w')) (fun i _ _ => la.length - (intOf i).toNat)
      case atStart => exact ⟨0, acc, Nat.zero_le _, rfl, rfl, (show _ = _ by rw [hacc.out]; simp [parts]), hown, hbel⟩
      case round =>
        clear hacc hown hbel
        obtain ⟨j, acc, hj, rfl, rfl, hacc, hown, hbel⟩ := hrel
        by_cases hjl : j < la.length
        · obtain ⟨b, o, rfl, hlt, hc⟩ := HC1.out (by intro e; rw [e] at hjl; simp at hjl)
          obtain ⟨c1, c2⟩ := hc j hjl
          rw [← hbel.out.cell (p := ⟨b, o + j * 2, none⟩) hlt] at c1
          rw [← hbel.out.cell (p := ⟨b, o + j * 2 + 1, none⟩) hlt] at c2
          obtain ⟨x, hx⟩ : ∃ x, la[j] = x := ⟨_, rfl⟩
          rw [hx] at c1 c2
          have HX := hid hx
          clear hx hc
          obtain ⟨n1, n2⟩ := new_two wr (.int .i64 x.k) (.int .i64 x.n) 34
          simp only [Nat.zero_add] at n2
          have hstep : Hid (la.take (j + 1) = la.take j ++ [x]) := by unfold Hid; rw [List.take_succ_eq_append_getElem hjl, HX.out]
          have K1 := mayBe_any x (wr.alloc (.cells #[.int .i64 x.k, .int .i64 x.n] 34))
          unfold av at K1
          have hb1 := hid (hbel.out.alloc hbel.out.size (.cells #[.int .i64 x.k, .int .i64 x.n] 34))
          have ho1 := hid (owns_keep hown.out ((Gr.refl wr).alloc (.cells #[.int .i64 x.k, .int .i64 x.n] 34)).below)
          clear hown hbel
          cases hok : M.okA x with
          | false =>
            rw [hok] at K1
            have HOK := hid hok
            have HK1 := hid K1
            clear hok K1
            go_wp2_with (go_at_call 70; refine stopHere ?_)
            refine stopAt ?_
            refine HK1.out.mono ?_
            rintro e w3 ⟨rfl, hg3⟩
            go_wp2
            refine ⟨⟨j + 1, acc, by omega, by go_num, rfl, ?_, owns_keep ho1.out hg3.below, hb1.out.trans (hg3.below.mono hb1.out.size)⟩, by simp [intOf]; omega⟩
            show _ = _
            rw [hstep.out, List.filter_append, hacc.out]
            simp [HOK.out]
          | true =>
            rw [hok] at K1
            have HOK := hid hok
            have HK1 := hid K1
            clear hok K1
            go_wp2_with (go_at_call 70; refine stopHere ?_)
            refine stopAt ?_
            refine HK1.out.mono ?_
            rintro e w3 ⟨rfl, hg3⟩
            rw [← hg3.below.cell (p := ⟨wr.heap.size, 0, none⟩) (by simp)] at n1
            rw [← hg3.below.cell (p := ⟨wr.heap.size, 1, none⟩) (by simp)] at n2
            have hb3 := hid (hb1.out.trans (hg3.below.mono hb1.out.size))
            have ho3 := hid (owns_keep ho1.out hg3.below)
            have HCPX := HCP.out
            have hlen : acc.length + 1 ≤ cap := by
              have h1 := hacc.out
              have h2 := List.length_filter_le M.okA (la.take j)
              have h3 := List.length_filter_le M.okA la
              rw [h1]
              simp only [List.length_append, List.length_take, List.length_nil] at *
              omega
            clear hb1 ho1 hg3 HCPX
            go_wp2_with (at_builtin; refine wpList_append_fits _ rfl _ _ 29 rfl w.heap.size 34 i0 2 Tryz.underlying29 hi hz1 g acc.length cap (acc.flatMap ac) rfl (owns_keep ho3.out ((Gr.refl w3).alloc _).below) ⟨w3.heap.size, 0, none⟩ 1 1 (ac x) rfl rfl (new_ac w3 x _) (by intro u hu; simp [ac] at hu; rcases hu with rfl | rfl <;> rfl) hlen ?_; intro w4 hown4 hgrow4)
            refine ⟨⟨j + 1, acc ++ [x], by omega, by go_num, by simp, ?_, ?_, ?_⟩, by simp [intOf]; omega⟩
            · show _ = _
              rw [hstep.out, List.filter_append, hacc.out]
              simp [HOK.out]
            · show World.ownsRow _ _ _ _ _ _ _
              rw [List.flatMap_append, List.length_append]
              simpa [ac] using hown4
            · exact (hb3.out.alloc hb3.out.size _).grown hgrow4 (by simp; have := hb3.out.size; omega) (fun k e => by cases e; omega)
        · have hje : j = la.length := by omega
          go_wp2
          refine ⟨⟨1, 1, acc, by omega, by go_num, rfl, ?_, hown, hbel⟩, by simp [intOf]⟩
          show _ = _
          rw [hacc.out, hje, List.take_length]
          simp [parts]
    · go_wp2
      go_loopw [24, 5] (fun i v w' => ∃ (j : Nat) (acc : List M.Atm), j ≤ lb.length ∧ i = .int .i64 j ∧ v = .slice (some ⟨g, 0, none⟩) acc.length cap ∧ Hid (acc = la.filter M.okA ++ (lb.take j).filter M.okA) ∧ Hid (w'.ownsRow w.heap.size 34 2 (.slice (some ⟨g, 0, none⟩) acc.length cap) acc.length (acc.flatMap ac)) ∧ Hid (Below w.heap.size w w')) (fun i _ _ => lb.length - (intOf i).toNat)
      case atStart => exact ⟨0, acc, Nat.zero_le _, rfl, rfl, (show _ = _ by rw [hacc.out]; simp [parts]), hown, hbel⟩
      case round =>
        clear hacc hown hbel
        obtain ⟨j, acc, hj, rfl, rfl, hacc, hown, hbel⟩ := hrel
        by_cases hjl : j < lb.length
        · obtain ⟨b, o, rfl, hlt, hc⟩ := HC2.out (by intro e; rw [e] at hjl; simp at hjl)
          obtain ⟨c1, c2⟩ := hc j hjl
          rw [← hbel.out.cell (p := ⟨b, o + j * 2, none⟩) hlt] at c1
          rw [← hbel.out.cell (p := ⟨b, o + j * 2 + 1, none⟩) hlt] at c2
          obtain ⟨x, hx⟩ : ∃ x, lb[j] = x := ⟨_, rfl⟩
          rw [hx] at c1 c2
          have HX := hid hx
          clear hx hc
          obtain ⟨n1, n2⟩ := new_two wr (.int .i64 x.k) (.int .i64 x.n) 34
          simp only [Nat.zero_add] at n2
          have hstep : Hid (lb.take (j + 1) = lb.take j ++ [x]) := by unfold Hid; rw [List.take_succ_eq_append_getElem hjl, HX.out]
          have K1 := mayBe_any x (wr.alloc (.cells #[.int .i64 x.k, .int .i64 x.n] 34))
          unfold av at K1
          have hb1 := hid (hbel.out.alloc hbel.out.size (.cells #[.int .i64 x.k, .int .i64 x.n] 34))
          have ho1 := hid (owns_keep hown.out ((Gr.refl wr).alloc (.cells #[.int .i64 x.k, .int .i64 x.n] 34)).below)
          clear hown hbel
          cases hok : M.okA x with
          | false =>
            rw [hok] at K1
            have HOK := hid hok
            have HK1 := hid K1
            clear hok K1
            go_wp2_with (go_at_call 70; refine stopHere ?_)
            refine stopAt ?_
            refine HK1.out.mono ?_
            rintro e w3 ⟨rfl, hg3⟩
            go_wp2
            refine ⟨⟨j + 1, acc, by omega, by go_num, rfl, ?_, owns_keep ho1.out hg3.below, hb1.out.trans (hg3.below.mono hb1.out.size)⟩, by simp [intOf]; omega⟩
            show _ = _
            rw [hstep.out, List.filter_append, hacc.out]
            simp [HOK.out]
          | true =>
            rw [hok] at K1
            have HOK := hid hok
            have HK1 := hid K1
            clear hok K1
            go_wp2_with (go_at_call 70; refine stopHere ?_)
            refine stopAt ?_
            refine HK1.out.mono ?_
            rintro e w3 ⟨rfl, hg3⟩
            rw [← hg3.below.cell (p := ⟨wr.heap.size, 0, none⟩) (by simp)] at n1
            rw [← hg3.below.cell (p := ⟨wr.heap.size, 1, none⟩) (by simp)] at n2
            have hb3 := hid (hb1.out.trans (hg3.below.mono hb1.out.size))
            have ho3 := hid (owns_keep ho1.out hg3.below)
            have HCPX := HCP.out
            have hlen : acc.length + 1 ≤ cap := by
              have h1 := hacc.out
              have h2 := List.length_filter_le M.okA (lb.take j)
              have h3 := List.length_filter_le M.okA la
              rw [h1]
              simp only [List.length_append, List.length_take, List.length_nil] at *
              omega
            clear hb1 ho1 hg3 HCPX
            go_wp2_with (at_builtin; refine wpList_append_fits _ rfl _ _ 29 rfl w.heap.size 34 i0 2 Tryz.underlying29 hi hz1 g acc.length cap (acc.flatMap ac) rfl (owns_keep ho3.out ((Gr.refl w3).alloc _).below) ⟨w3.heap.size, 0, none⟩ 1 1 (ac x) rfl rfl (new_ac w3 x _) (by intro u hu; simp [ac] at hu; rcases hu with rfl | rfl <;> rfl) hlen ?_; intro w4 hown4 hgrow4)
            refine ⟨⟨j + 1, acc ++ [x], by omega, by go_num, by simp, ?_, ?_, ?_⟩, by simp [intOf]; omega⟩
            · show _ = _
              rw [hstep.out, List.filter_append, hacc.out]
              simp [HOK.out]
            · show World.ownsRow _ _ _ _ _ _ _
              rw [List.flatMap_append, List.length_append]
              simpa [ac] using hown4
            · exact (hb3.out.alloc hb3.out.size _).grown hgrow4 (by simp; have := hb3.out.size; omega) (fun k e => by cases e; omega)
        · have hje : j = lb.length := by omega
          go_wp2
          refine ⟨⟨2, 2, acc, by omega, by go_num, rfl, ?_, hown, hbel⟩, by simp [intOf]⟩
          show _ = _
          rw [hacc.out, hje, List.take_length]
          simp [parts]
    · go_wp2_with (first | (go_at_call 80; refine stopHere ?_) | (go_at_fn 80; refine stopHere ?_))
      refine stopAt ?_
      obtain ⟨hOA, _, _⟩ := OwnA.of_owns hown.out
      have hal : acc.length ≤ 1048576 := by
        rw [hacc.out]
        have h2 := List.length_filter_le M.okA la
        have h3 := List.length_filter_le M.okA lb
        simp only [parts, List.length_append]
        omega
      have hcm : cap ≤ maxLen := by have := HCP.out; unfold maxLen; omega
      refine (sort_any wr g cap acc hOA hal).mono ?_
      rintro e w2 ⟨rfl, d, hst, hmem, hdl, hOD, hgr⟩
      have hb2 := hid (hbel.out.grown hgr hbel.out.size (fun k e => by cases e; omega))
      have hgsz : g < w2.heap.size := by obtain ⟨cur, h1, _⟩ := hOD; exact (Array.getElem?_eq_some_iff.1 h1).1
      have hdcap : d.length ≤ cap := by obtain ⟨cur, _, h2, _⟩ := hOD; exact h2
      have hOF := hid hOD.cellsF
      have hfin : Hid (M.cpl d = M.norm (la ++ lb)) := M.cpl_norm hst fun z => by
        rw [hmem, hacc.out]
        simp only [parts, List.mem_append, List.mem_filter]
        constructor
        · rintro (h | h)
          · exact ⟨.inl h.1, h.2⟩
          · exact ⟨.inr h.1, h.2⟩
        · rintro ⟨h | h, h'⟩
          · exact .inl ⟨h, h'⟩
          · exact .inr ⟨h, h'⟩
      have hrd : Hid (∀ x ∈ d, InR x.n) := fun x hx => by
        have := (hmem x).1 hx
        rw [hacc.out] at this
        simp only [parts, List.mem_append, List.mem_filter] at this
        rcases this with h | h
        · exact R1.out x h.1
        · exact R2.out x h.1
      rw [← hdl]
      clear hst hmem hOD hgr hOA hacc hown hbel hdl hal
      go_wp2_with (first | (go_at_call 81; refine stopHere ?_))
      refine stopAt ?_
      refine (compact_any w2 g 0 cap d _ hOF.out (fun i hi => by simp [List.getD, hi]) hgsz hdcap hcm hrd.out (by have := HCP.out; omega)).mono ?_
      rintro e w3 ⟨K9, c9, rfl, hA, hgr3⟩
      rw [hfin.out] at hA
      have hAA := hid hA
      clear hA
      go_wp2
      go_ret
      exact ⟨_, rfl, hAA.out, fresh_mk hg0, hb2.out.grown hgr3 hb2.out.size (fun k e => by cases e; omega)⟩

theorem union_any (w : World) (va vb : Value) (la lb : List M.Atm) (ha : AtAt w va la) (hb : AtAt w vb lb) (na : la.length ≤ 100000) (nb : lb.length ≤ 100000) :
    Calls Tryz.prog 60 #[va, vb] w fun e w' => ∃ v, e = .returned v ∧ AtAt w' v (M.norm (la ++ lb)) ∧ Below w.heap.size w w' :=
  (union_new w va vb la lb ha hb na nb).mono fun _ _ ⟨v, h1, h2, _, h3⟩ => ⟨v, h1, h2, h3⟩

set_option maxHeartbeats 1000000 in
theorem norm_new (w : World) (va : Value) (la : List M.Atm) (ha : AtAt w va la) (na : la.length ≤ 100000) :
    Calls Tryz.prog 67 #[va] w fun e w' => ∃ v, e = .returned v ∧ AtAt w' v (M.norm la) ∧ Fresh w.heap.size v ∧ Below w.heap.size w w' := by
  have hu := union_new w va (.slice none 0 0) la [] ha ⟨by simp, none, 0, rfl, .inl rfl⟩ na (by simp)
  rw [List.append_nil] at hu
  obtain ⟨a, cap, rfl⟩ := ha.form
  clear ha
  go_enter Tryz.func67, Tryz.ntmps67
  go_wp2_with (go_at_call 60; refine stopHere ?_)
  refine stopAt ?_
  refine hu.mono ?_
  rintro e w' ⟨v, rfl, hA, hF, hB⟩
  have hAA := hid hA
  have hFF := hid hF
  obtain ⟨q, m, rfl⟩ := hA.form
  clear hA hF
  go_wp2
  go_ret
  exact ⟨_, rfl, hAA.out, hFF.out, hB⟩
theorem norm_any (w : World) (va : Value) (la : List M.Atm) (ha : AtAt w va la) (na : la.length ≤ 100000) :
    Calls Tryz.prog 67 #[va] w fun e w' => ∃ v, e = .returned v ∧ AtAt w' v (M.norm la) ∧ Below w.heap.size w w' :=
  (norm_new w va la ha na).mono fun _ _ ⟨v, h1, h2, _, h3⟩ => ⟨v, h1, h2, h3⟩
end Go.Proofs.YtbaaeobdjiglgaaGreat

/-
  The walks of atoms.Within, Has and Rename. Conditions: lists of at most 100000 atoms.
-/
set_option linter.unusedVariables false
set_option linter.unusedSimpArgs false
namespace Go.Proofs.YtbaaeobdjiglgaaGreat
open Go.RowKit Go.Sort

/-- the first j of l renamed -/
def renTo (l : List M.Atm) (s : Int) (j : Nat) : Nat → M.Atm := fun i => if i < j then M.ren s (l.getD i ⟨0, 0⟩) else l.getD i ⟨0, 0⟩
theorem renTo_map (l : List M.Atm) (s : Int) : (List.range l.length).map (renTo l s l.length) = l.map (M.ren s) := by
  apply List.ext_getElem
  · simp
  · intro i h1 h2
    simp at h1 h2 ⊢
    unfold renTo
    rw [if_pos h1]
    simp [List.getD, h1]
theorem CellsF.congr {W : World} {g o n : Nat} {f h : Nat → M.Atm} (hc : CellsF W g o n f) (he : ∀ i, i < n → f i = h i) : CellsF W g o n h := fun i hi => by rw [← he i hi]; exact hc i hi
theorem CellsF.kind {W : World} {g o n K : Nat} {f : Nat → M.Atm} (h : CellsF W g o n f) (hK : K < n) (z : Int) :
    CellsF (W.setCell ⟨g, o + K * 2, none⟩ (.int .i64 z)) g o n (upd f K ⟨z, (f K).n⟩) := by
  intro i hi
  obtain ⟨c1, c2, c3, c4⟩ := h i hi
  refine ⟨?_, ?_, by rw [World.frozen?_setCell]; exact c3, by rw [World.frozen?_setCell]; exact c4⟩
  · unfold upd
    by_cases e : i = K
    · subst e
      rw [if_pos rfl]; exact World.cell?_setCell_same _ _ _ c1
    · rw [if_neg e, World.cell?_setCell_other _ _ _ _ (by simp <;> omega)]; exact c1
  · rw [World.cell?_setCell_other _ _ _ _ (by simp <;> omega)]
    unfold upd
    by_cases e : i = K
    · subst e
      rw [if_pos rfl]; exact c2
    · rw [if_neg e]; exact c2
theorem CellsF.bel {W W' : World} {g o n : Nat} {f : Nat → M.Atm} (h : CellsF W g o n f) (hg : g < W.heap.size) (hb : Below W.heap.size W W') : CellsF W' g o n f := by
  intro i hi
  obtain ⟨c1, c2, c3, c4⟩ := h i hi
  refine ⟨?_, ?_, ?_, ?_⟩
  · rw [hb.cell (p := ⟨g, o + i * 2, none⟩) hg]; exact c1
  · rw [hb.cell (p := ⟨g, o + i * 2 + 1, none⟩) hg]; exact c2
  · rw [hb.frozen (p := ⟨g, o + i * 2, none⟩) hg]; exact c3
  · rw [hb.frozen (p := ⟨g, o + i * 2 + 1, none⟩) hg]; exact c4
theorem renTo_step {l : List M.Atm} {s : Int} {j : Nat} (hj : j < l.length) (h : M.ren s l[j] = l[j]) : ∀ i, renTo l s j i = renTo l s (j + 1) i := by
  intro i
  unfold renTo
  by_cases e : i = j
  · subst e
    rw [if_neg (by omega), if_pos (by omega)]
    have : l.getD i ⟨0, 0⟩ = l[i] := by simp [List.getD, hj]
    rw [this, h]
  · by_cases h1 : i < j
    · rw [if_pos h1, if_pos (by omega)]
    · rw [if_neg h1, if_neg (by omega)]
theorem renTo_put {l : List M.Atm} {s : Int} {j : Nat} (hj : j < l.length) (h : l[j].k = 4 ∧ l[j].n = s) : ∀ i, upd (renTo l s j) j ⟨5, (renTo l s j j).n⟩ i = renTo l s (j + 1) i := by
  intro i
  have hd : l.getD j ⟨0, 0⟩ = l[j] := by simp [List.getD, hj]
  unfold upd renTo
  by_cases e : i = j
  · subst e
    rw [if_pos rfl, if_neg (by omega), if_pos (by omega), hd]
    unfold M.ren
    rw [if_pos h]
  · rw [if_neg e]
    by_cases h1 : i < j
    · rw [if_pos h1, if_pos (by omega)]
    · rw [if_neg h1, if_neg (by omega)]
set_option maxHeartbeats 2000000 in
set_option maxRecDepth 100000 in
theorem rename_new (w : World) (va : Value) (la : List M.Atm) (s : Int) (ha : AtAt w va la) (na : la.length ≤ 100000) :
    Calls Tryz.prog 55 #[va, .int .i64 s] w fun e w' => ∃ v, e = .returned v ∧ AtAt w' v (M.rename la s) ∧ Fresh w.heap.size v ∧ Below w.heap.size w w' := by
  have K0 := hid (clone_any w va la ha (by omega))
  have RA := hid ha.1
  obtain ⟨a1, c1, rfl⟩ := ha.form
  clear ha
  go_enter Tryz.func55, Tryz.ntmps55
  go_wp2_with (first | (go_at_call 75; refine stopHere ?_))
  refine stopAt ?_
  refine K0.out.mono ?_
  rintro e w1 ⟨v1, rfl, hown1, hb1⟩
  have hbw1 := hid hb1
  rcases owns_form hown1 with ⟨rfl, h0⟩ | ⟨g, cap, rfl⟩
  · have hl0 : la = [] := List.length_eq_zero_iff.1 h0
    subst hl0
    have K1 := hid (norm_new w1 (.slice none 0 0) [] ⟨by simp, none, 0, rfl, .inl rfl⟩ (by simp))
    clear hown1 hb1
    go_wp2
    go_loopw [11] (fun i w' => i = .int .i64 0 ∧ w' = w1) (fun _ _ => 0)
    case atStart => exact ⟨rfl, rfl⟩
    case round =>
      obtain ⟨rfl, rfl⟩ := hrel
      go_wp2_with (first | (go_at_call 67; refine stopHere ?_))
      refine stopAt ?_
      refine K1.out.mono ?_
      rintro e w3 ⟨v3, rfl, hA, hF, hb3⟩
      have hAA := hid hA
      have hFF := hid hF
      obtain ⟨q, m, rfl⟩ := hA.form
      clear hA hF
      go_wp2
      go_ret
      exact ⟨_, rfl, hAA.out, hFF.out.mono hbw1.out.size, hbw1.out.trans (hb3.mono hbw1.out.size)⟩
  · obtain ⟨hOA, hgb, _⟩ := OwnA.of_owns hown1
    have hOF := hid hOA.cellsF
    have hcm : la.length ≤ cap ∧ cap ≤ maxLen := by obtain ⟨cur, _, h2, h3, _⟩ := hOA; exact ⟨h2, h3⟩
    have hg1 : g < w1.heap.size := by obtain ⟨cur, h1, _⟩ := hOA; exact (Array.getElem?_eq_some_iff.1 h1).1
    clear hOA hown1 hb1
    go_wp2
    go_loopw [11] (fun i w' => ∃ j : Nat, j ≤ la.length ∧ i = .int .i64 j ∧ Hid (CellsF w' g 0 la.length (renTo la s j)) ∧ Hid (g < w'.heap.size) ∧ Hid (Below w.heap.size w w')) (fun i _ => la.length - (intOf i).toNat)
    case atStart => exact ⟨0, Nat.zero_le _, rfl, hOF.out.congr (fun i _ => by unfold renTo; rw [if_neg (Nat.not_lt_zero _)]), hg1, hbw1⟩
    case round =>
      obtain ⟨j, hj, rfl, hCF, hgs, hbel⟩ := hrel
      by_cases hjl : j < la.length
      · obtain ⟨c1, c2, c3, _⟩ := hCF.out j hjl
        have hgs' := hgs.out
        have hx : renTo la s j j = la[j] := by unfold renTo; rw [if_neg (Nat.lt_irrefl _)]; simp [List.getD, hjl]
        rw [hx] at c1 c2
        simp only [Nat.zero_add] at c1 c2 c3
        obtain ⟨x, hx2⟩ : ∃ x, la[j] = x := ⟨_, rfl⟩
        rw [hx2] at c1 c2
        have HX := hid hx2
        clear hx hx2
        have hCF1 := hid (hCF.out.bel hgs.out ((Gr.refl wr).alloc (.cells #[.int .i64 x.k, .int .i64 x.n] 34)).below)
        have hb1 := hid (hbel.out.alloc hbel.out.size (.cells #[.int .i64 x.k, .int .i64 x.n] 34))
        have hgs1 : Hid (g < (wr.alloc (.cells #[.int .i64 x.k, .int .i64 x.n] 34)).heap.size) := by unfold Hid; simp; omega
        by_cases h4 : x.k = 4
        · by_cases hs : x.n = s
          · have HH : Hid (x.k = 4 ∧ x.n = s) := ⟨h4, hs⟩
            have hd1 : (x.k == 4) = true := by simp [h4]
            have hd2 : (x.n == s) = true := by simp [hs]
            clear h4 hs
            go_wp2
            have hsz : (wr.setCell ⟨g, j * 2, none⟩ (.int .i64 5)).heap.size = wr.heap.size := by simp [World.setCell]
            refine ⟨⟨j + 1, by omega, by go_num, ?_, ?_, ?_⟩, by simp [intOf]; omega⟩
            · have := hCF.out.kind hjl 5
              simp only [Nat.zero_add] at this
              exact (this.bel (by rw [hsz]; exact hgs') ((Gr.refl _).alloc _).below).congr fun i _ => renTo_put hjl (by rw [HX.out]; exact HH.out) i
            · show _ < _
              rw [World.size_alloc, hsz]; omega
            · have hbs := hbel.out.setCell (p := ⟨g, j * 2, none⟩) hgb (.int .i64 5)
              exact hbs.alloc hbs.size _
          · have HH : Hid (¬ (x.k = 4 ∧ x.n = s)) := fun h => hs h.2
            have hd1 : (x.k == 4) = true := by simp [h4]
            have hd2 : (x.n == s) = false := by simp [hs]
            clear h4 hs hCF hbel
            go_wp2
            exact ⟨⟨j + 1, by omega, by go_num, hCF1.out.congr fun i _ => renTo_step hjl (by rw [HX.out]; unfold M.ren; rw [if_neg HH.out]) i, hgs1, hb1⟩, by simp [intOf]; omega⟩
        · have HH : Hid (¬ (x.k = 4 ∧ x.n = s)) := fun h => h4 h.1
          have hd1 : (x.k == 4) = false := by simp [h4]
          clear h4 hCF hbel
          go_wp2
          exact ⟨⟨j + 1, by omega, by go_num, hCF1.out.congr fun i _ => renTo_step hjl (by rw [HX.out]; unfold M.ren; rw [if_neg HH.out]) i, hgs1, hb1⟩, by simp [intOf]; omega⟩
      · obtain rfl : j = la.length := by omega
        have hAt : AtAt wr (.slice (some ⟨g, 0, none⟩) la.length cap) (la.map (M.ren s)) := hCF.out.at (renTo_map la s) hgs.out hcm.1 hcm.2 (fun y hy => by
          obtain ⟨z, hz, rfl⟩ := List.mem_map.1 hy
          have := RA.out z hz
          unfold M.ren
          split
          · exact this
          · exact this)
        have K1 := hid (norm_new wr _ _ hAt (by simpa using na))
        clear hAt
        go_wp2_with (first | (go_at_call 67; refine stopHere ?_))
        refine stopAt ?_
        refine K1.out.mono ?_
        rintro e w3 ⟨v3, rfl, hA, hF, hb3⟩
        have hAA := hid hA
        have hFF := hid hF
        obtain ⟨q, m, rfl⟩ := hA.form
        clear hA hF
        go_wp2
        go_ret
        exact ⟨_, rfl, hAA.out, hFF.out.mono hbel.out.size, hbel.out.trans (hb3.mono hbel.out.size)⟩
theorem rename_any (w : World) (va : Value) (la : List M.Atm) (s : Int) (ha : AtAt w va la) (na : la.length ≤ 100000) :
    Calls Tryz.prog 55 #[va, .int .i64 s] w fun e w' => ∃ v, e = .returned v ∧ AtAt w' v (M.rename la s) ∧ Below w.heap.size w w' :=
  (rename_new w va la s ha na).mono fun _ _ ⟨v, h1, h2, _, h3⟩ => ⟨v, h1, h2, h3⟩
end Go.Proofs.YtbaaeobdjiglgaaGreat
