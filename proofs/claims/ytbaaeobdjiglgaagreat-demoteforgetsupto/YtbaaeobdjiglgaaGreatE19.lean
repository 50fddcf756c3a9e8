/-
  The walk of the document's Same of states. Conditions: a first state of at most 100000 of each thing.
-/
import Derived.Test.YtbaaeobdjiglgaaGreatE6
import Derived.Test.YtbaaeobdjiglgaaGreatS9
set_option linter.unusedVariables false
set_option linter.unusedSimpArgs false
namespace Go.Proofs.YtbaaeobdjiglgaaGreat
open Go.RowKit Go.Sort
/-- are two states the same? -/
def M.sameSt (s t : M.Sta) : Bool := decide (s = t)
theorem M.sta_eq {d e : Bool} {a b : List (ByteArray × List M.Atm)} {l m : List (M.Atm × M.Shp)} : ((⟨d, a, l⟩ : M.Sta) = ⟨e, b, m⟩) ↔ d = e ∧ a = b ∧ l = m := by simp
theorem M.same_no {s t : M.Sta} (h : ¬ s = t) : false = M.sameSt s t := (decide_eq_false h).symm
theorem M.same_yes {s t : M.Sta} (h : s = t) : true = M.sameSt s t := (decide_eq_true h).symm
theorem takeB_step {B Q : List Bnd} {j : Nat} {x y : Bnd} (h1 : j < B.length) (h2 : j < Q.length) (h : (bndOf B).take j = (bndOf Q).take j) (hx : B[j] = x) (hy : Q[j] = y) (e : x.p = y.p) : (bndOf B).take (j + 1) = (bndOf Q).take (j + 1) := by
  refine take_eq (by rw [bndOf_len]; exact h1) (by rw [bndOf_len]; exact h2) h ?_
  rw [bndOf_get B j h1, bndOf_get Q j h2, hx, hy, e]
theorem takeL_step {B Q : List Lcl} {j : Nat} {x y : Lcl} (h1 : j < B.length) (h2 : j < Q.length) (h : (lclOf B).take j = (lclOf Q).take j) (hx : B[j] = x) (hy : Q[j] = y) (e : x.p = y.p) : (lclOf B).take (j + 1) = (lclOf Q).take (j + 1) := by
  refine take_eq (by rw [lclOf_len]; exact h1) (by rw [lclOf_len]; exact h2) h ?_
  rw [lclOf_get B j h1, lclOf_get Q j h2, hx, hy, e]
theorem neB {B Q : List Bnd} {j : Nat} {x y : Bnd} (h1 : j < B.length) (h2 : j < Q.length) (hx : B[j] = x) (hy : Q[j] = y) (ne : x.p ≠ y.p) : bndOf B ≠ bndOf Q := fun e => ne (by
  have e3 : (bndOf B)[j]'(by rw [bndOf_len]; exact h1) = (bndOf Q)[j]'(by rw [bndOf_len]; exact h2) := by simp only [e]
  rw [bndOf_get B j h1, bndOf_get Q j h2, hx, hy] at e3
  exact e3)
theorem neL {B Q : List Lcl} {j : Nat} {x y : Lcl} (h1 : j < B.length) (h2 : j < Q.length) (hx : B[j] = x) (hy : Q[j] = y) (ne : x.p ≠ y.p) : lclOf B ≠ lclOf Q := fun e => ne (by
  have e3 : (lclOf B)[j]'(by rw [lclOf_len]; exact h1) = (lclOf Q)[j]'(by rw [lclOf_len]; exact h2) := by simp only [e]
  rw [lclOf_get B j h1, lclOf_get Q j h2, hx, hy] at e3
  exact e3)

set_option maxHeartbeats 8000000 in
set_option maxRecDepth 100000 in
theorem rsameSt_any (w : World) (v1 v2 : Value) (s t : M.Sta) (h1 : StAt w v1 s) (h2 : StAt w v2 t) (K1 : M.SmSt 100000 s) :
    Calls Tryz.prog 10 #[v1, v2] w fun e w' => e = .returned (.bool (M.sameSt s t)) ∧ Below w.heap.size w w' := by
  obtain ⟨B, L, a, c, b, d, hs, rfl, hB, hL⟩ := h1.open
  obtain ⟨Q, J, a', c', b', d', ht, rfl, hQ, hJ⟩ := h2.open
  have mixed := mixedP
  obtain ⟨hn, hvs, hm, hls⟩ := smStB K1 hs
  have HV := hid hvs
  have HL := hid hls
  have TB := hid hB
  have TL := hid hL
  have TQ := hid hQ
  have TJ := hid hJ
  obtain ⟨sd, hsd⟩ : ∃ x, s.dead = x := ⟨_, rfl⟩
  obtain ⟨td, htd⟩ : ∃ x, t.dead = x := ⟨_, rfl⟩
  rw [hsd] at hs ⊢
  rw [htd] at ht ⊢
  subst hs ht
  clear h1 h2 K1 hvs hls hB hL hQ hJ hsd htd
  obtain ⟨A1, hA1⟩ : ∃ o, (.cells #[.bool sd, .slice a B.length c, .slice b L.length d] 25 : Obj) = o := ⟨_, rfl⟩
  obtain ⟨A2, hA2⟩ : ∃ o, (.cells #[.bool td, .slice a' Q.length c', .slice b' J.length d'] 25 : Obj) = o := ⟨_, rfl⟩
  obtain ⟨W0, hW0⟩ : ∃ W0, (w.alloc A1).alloc A2 = W0 := ⟨_, rfl⟩
  have b1 := (gr_new w A1).below
  have b2 := (gr_new (w.alloc A1) A2).below
  have p3 : W0.heap[w.heap.size]? = some A1 := by rw [← hW0]; exact kept (B := (w.alloc A1).heap.size) (new_at w A1) (by simp) b2
  have p4 : W0.heap[w.heap.size + 1]? = some A2 := by
    rw [← hW0]
    have := new_at (w.alloc A1) A2
    rw [World.size_alloc] at this
    exact this
  have hz : w.heap.size + 1 < W0.heap.size := by rw [← hW0]; simp
  have B0 : Hid (Below w.heap.size w W0) := by unfold Hid; rw [← hW0]; exact b1.trans (b2.mono b1.size)
  rw [← hA1] at p3
  rw [← hA2] at p4
  subst hA1 hA2
  have P1 := hid p3
  have P2 := hid p4
  obtain ⟨x1, x2, x3, _⟩ := cells3 p3
  obtain ⟨y1, y2, y3, _⟩ := cells3 p4
  clear b1 b2 p3 p4
  by_cases hd : sd = td
  · subst hd
    have e0 : (sd != sd) = false := by simp
    by_cases hlB : B.length = Q.length
    · have e1 : ((B.length : Int) != (Q.length : Int)) = false := by rw [hlB]; simp
      have HLB := hid hlB
      clear hlB
      by_cases hlL : L.length = J.length
      · have e2 : ((L.length : Int) != (J.length : Int)) = false := by rw [hlL]; simp
        have HLL := hid hlL
        clear hlL
        go_enter Tryz.func10, Tryz.ntmps10
        go_wp2
        clear hW0 x1 x2 x3 y1 y2 y3 e0 e1 e2
        go_loopw [5] (fun i w' => ∃ j : Nat, j ≤ B.length ∧ i = .int .i64 j ∧ Hid ((bndOf B).take j = (bndOf Q).take j) ∧ Hid (Below W0.heap.size W0 w')) (fun i _ => B.length - (intOf i).toNat)
        case atStart => exact ⟨0, Nat.zero_le _, rfl, rfl, Below.refl _ _⟩
        case round =>
          obtain ⟨j, hj, rfl, hm', hbel⟩ := hrel
          have hBW : Hid (Below w.heap.size w wr) := B0.out.trans (hbel.out.mono (by omega))
          have hzr := hbel.out.size
          have PW1 := hid (kept P1.out (by omega) hbel.out)
          have PW2 := hid (kept P2.out hz hbel.out)
          by_cases hjl : j < B.length
          · have hjl2 : j < Q.length := by have := HLB.out; omega
            obtain ⟨b1, o1, rfl, hlt1, hc1⟩ := Bs_some (TB.out.bel hBW.out) hjl
            obtain ⟨b2, o2, rfl, hlt2, hc2⟩ := Bs_some (TQ.out.bel hBW.out) hjl2
            obtain ⟨c1, c2⟩ := hc1 j hjl
            obtain ⟨d1, d2⟩ := hc2 j hjl2
            have HX := hid ((TB.out.bel hBW.out).2 _ (List.getElem_mem hjl))
            have HY := hid ((TQ.out.bel hBW.out).2 _ (List.getElem_mem hjl2))
            have hxl := HV.out _ (List.getElem_mem hjl)
            obtain ⟨x, hx⟩ : ∃ x, B[j] = x := ⟨_, rfl⟩
            obtain ⟨y, hy⟩ : ∃ y, Q[j] = y := ⟨_, rfl⟩
            rw [hx] at c1 c2 HX hxl
            rw [hy] at d1 d2 HY
            have HXE := hid hx
            have HYE := hid hy
            clear hx hy hc1 hc2
            obtain ⟨X1, X2, X3⟩ := bel_box3 PW1.out
            obtain ⟨x1, x2, x3, _⟩ := cells3 PW1.out
            obtain ⟨Y1, Y2, Y3⟩ := bel_box3 PW2.out
            have C1 := bel_cell hlt1 c1
            have D1 := bel_cell hlt2 d1
            have C2 := bel_cell hlt1 c2
            have D2 := bel_cell hlt2 d2
            clear c1 c2 d1 d2
            have hji2 : (j : Int) < (Q.length : Int) := by omega
            have KS := fun W (hb : Below wr.heap.size wr W) => same_any W _ _ x.vs y.vs (AtAt.bel HX.out hb) (AtAt.bel HY.out hb) (by omega)
            unfold Bnd.v at KS
            by_cases h1 : x.nm = y.nm
            · have h1b : (!(x.nm.toList == y.nm.toList)) = false := by rw [same_name]; simp [h1]
              have h1c : (x.nm.toList == y.nm.toList) = true := by rw [same_name]; simp [h1]
              have H1 := hid h1
              clear h1
              cases h3 : M.sameB x.vs y.vs with
              | true =>
                rw [h3] at KS
                have HKS := hid (call_bel KS)
                have H3 := hid h3
                clear h3 KS
                go_wp2_with fail
                clear x1 x2 x3
                refine wp_region_quiet_bel (by assumption) (by kernel_rfl) ?_
                intro hneq
                repeat (
                  with_reducible refine wpQuiet_step (fun K hK => ?_)
                  go_simp
                  first
                    | (with_reducible refine hK _ ?_; clear hK K)
                    | (rw [if_neg (by simp [undef])]; with_reducible refine hK _ ?_; clear hK K)
                    | (apply Exists.intro
                       refine ⟨fun _ => ?_, hK _ ?_⟩
                       (first | (go_at_call 23; with_reducible exact HKS.out _))
                       clear hK K))
                with_reducible refine wpQuiet_nil ?_
                intro _ hw0
                obtain ⟨pq, hw1⟩ := hw0
                subst hw1
                clear hneq
                go_wp2
                exact ⟨⟨j + 1, by omega, by go_num, hid (takeB_step hjl hjl2 hm'.out HXE.out HYE.out (by unfold Bnd.p; rw [H1.out, of_decide_eq_true H3.out])), hid (hbel.out.trans (pq.h.mono hbel.out.size))⟩, by simp [intOf]; omega⟩
              | false =>
                rw [h3] at KS
                have HKS := hid (call_bel KS)
                have H3 := hid h3
                clear h3 KS
                go_wp2_with fail
                clear x1 x2 x3
                refine wp_region_quiet_bel (by assumption) (by kernel_rfl) ?_
                intro hneq
                repeat (
                  with_reducible refine wpQuiet_step (fun K hK => ?_)
                  go_simp
                  first
                    | (with_reducible refine hK _ ?_; clear hK K)
                    | (rw [if_neg (by simp [undef])]; with_reducible refine hK _ ?_; clear hK K)
                    | (apply Exists.intro
                       refine ⟨fun _ => ?_, hK _ ?_⟩
                       (first | (go_at_call 23; with_reducible exact HKS.out _))
                       clear hK K))
                with_reducible refine wpQuiet_nil ?_
                intro _ hw0
                obtain ⟨pq, hw1⟩ := hw0
                subst hw1
                clear hneq
                go_wp2
                go_ret
                exact ⟨ret_bool (M.same_no fun e => neB hjl hjl2 HXE.out HYE.out (fun e => of_decide_eq_false H3.out (congrArg Prod.snd e)) (M.sta_eq.1 e).2.1), hBW.out.trans (pq.h.mono hBW.out.size)⟩
            · have h1b : (!(x.nm.toList == y.nm.toList)) = true := by rw [same_name]; simp [h1]
              have h1c : (x.nm.toList == y.nm.toList) = false := by rw [same_name]; simp [h1]
              have H1 := hid h1
              clear h1 KS
              go_wp2_with fail
              clear x1 x2 x3
              refine wp_region_quiet_bel (by assumption) (by kernel_rfl) ?_
              intro hneq
              repeat (
                with_reducible refine wpQuiet_step (fun K hK => ?_)
                go_simp
                first
                  | (with_reducible refine hK _ ?_; clear hK K)
                  | (rw [if_neg (by simp [undef])]; with_reducible refine hK _ ?_; clear hK K)
                  | (apply Exists.intro
                     refine ⟨fun _ => ?_, hK _ ?_⟩
                     (fail)
                     clear hK K))
              with_reducible refine wpQuiet_nil ?_
              intro _ hw0
              obtain ⟨pq, hw1⟩ := hw0
              subst hw1
              clear hneq
              go_wp2
              go_ret
              exact ⟨ret_bool (M.same_no fun e => neB hjl hjl2 HXE.out HYE.out (fun e => H1.out (congrArg Prod.fst e)) (M.sta_eq.1 e).2.1), hBW.out.trans (pq.h.mono hBW.out.size)⟩
          · have HBE : Hid (bndOf B = bndOf Q) := by
              have h := hm'.out
              have h2 := HLB.out
              rw [List.take_of_length_le (by rw [bndOf_len]; omega), List.take_of_length_le (by rw [bndOf_len]; omega)] at h
              exact h
            obtain ⟨x1, x2, x3, _⟩ := cells3 PW1.out
            obtain ⟨y1, y2, y3, _⟩ := cells3 PW2.out
            obtain ⟨W2, hW2⟩ : ∃ W2, W2 = wr := ⟨_, rfl⟩
            rw [← hW2] at x1 x2 x3 y1 y2 y3 ⊢
            have hbel0 : Hid (Below W0.heap.size W0 W2) := by rw [hW2]; exact hbel.out
            clear hbel hm' hW2 hBW PW1 PW2 hzr
            go_wp2
            clear x1 x2 x3 y1 y2 y3 hj hjl
            go_loopw [6] (fun i w' => ∃ j : Nat, j ≤ L.length ∧ i = .int .i64 j ∧ Hid ((lclOf L).take j = (lclOf J).take j) ∧ Hid (Below W0.heap.size W0 w')) (fun i _ => L.length - (intOf i).toNat)
            case atStart => exact ⟨0, Nat.zero_le _, rfl, rfl, hbel0⟩
            case round =>
              obtain ⟨j, hj, rfl, hm', hbel⟩ := hrel
              have hBW : Hid (Below w.heap.size w wr) := B0.out.trans (hbel.out.mono (by omega))
              have hzr := hbel.out.size
              have PW1 := hid (kept P1.out (by omega) hbel.out)
              have PW2 := hid (kept P2.out hz hbel.out)
              by_cases hjl : j < L.length
              · have hjl2 : j < J.length := by have := HLL.out; omega
                obtain ⟨b1, o1, rfl, hlt1, hc1⟩ := Ls_some (TL.out.bel hBW.out) hjl
                obtain ⟨b2, o2, rfl, hlt2, hc2⟩ := Ls_some (TJ.out.bel hBW.out) hjl2
                obtain ⟨c1, c2, c3, c4⟩ := hc1 j hjl
                obtain ⟨d1, d2, d3, d4⟩ := hc2 j hjl2
                have HX := hid ((TL.out.bel hBW.out).2 _ (List.getElem_mem hjl))
                have HY := hid ((TJ.out.bel hBW.out).2 _ (List.getElem_mem hjl2))
                have hxl := HL.out _ (List.getElem_mem hjl)
                obtain ⟨x, hx⟩ : ∃ x, L[j] = x := ⟨_, rfl⟩
                obtain ⟨y, hy⟩ : ∃ y, J[j] = y := ⟨_, rfl⟩
                rw [hx] at c1 c2 c3 c4 HX hxl
                rw [hy] at d1 d2 d3 d4 HY
                have HXE := hid hx
                have HYE := hid hy
                clear hx hy hc1 hc2
                obtain ⟨X1, X2, X3⟩ := bel_box3 PW1.out
                obtain ⟨x1, x2, x3, _⟩ := cells3 PW1.out
                obtain ⟨Y1, Y2, Y3⟩ := bel_box3 PW2.out
                have C1 := bel_cell hlt1 c1
                have D1 := bel_cell hlt2 d1
                have C2 := bel_cell hlt1 c2
                have D2 := bel_cell hlt2 d2
                have C3 := bel_cell hlt1 c3
                have D3 := bel_cell hlt2 d3
                have C4 := bel_cell hlt1 c4
                have D4 := bel_cell hlt2 d4
                clear c1 c2 c3 c4 d1 d2 d3 d4
                have hji2 : (j : Int) < (J.length : Int) := by omega
                have KS := fun W (hb : Below wr.heap.size wr W) => rsameS_any W _ _ x.s y.s (ShAt.bel HX.out.2 hb) (ShAt.bel HY.out.2 hb) hxl
                unfold Lcl.v at KS
                by_cases h1 : x.x = y.x
                · have he : ∀ W, (binOp .neq 34 (.agg #[.int .i64 x.x.k, .int .i64 x.x.n]) (.agg #[.int .i64 y.x.k, .int .i64 y.x.n])).run Tryz.prog W = .ok (.bool false) W := fun W => by have := neq_atm x.x y.x W; simpa [h1] using this
                  have H1 := hid h1
                  clear h1
                  cases h3 : M.sameS x.s y.s with
                  | true =>
                    rw [h3] at KS
                    have HKS := hid (call_bel KS)
                    have H3 := hid h3
                    clear h3 KS
                    go_wp2_with fail
                    clear x1 x2 x3
                    refine wp_region_quiet_bel (by assumption) (by kernel_rfl) ?_
                    intro hneq
                    repeat (
                      with_reducible refine wpQuiet_step (fun K hK => ?_)
                      go_simp
                      first
                        | (with_reducible refine hK _ ?_; clear hK K)
                        | (rw [if_neg (by simp [undef])]; with_reducible refine hK _ ?_; clear hK K)
                        | (apply Exists.intro
                           refine ⟨fun _ => ?_, hK _ ?_⟩
                           (first | (go_at_call 21; with_reducible exact HKS.out _))
                           clear hK K))
                    with_reducible refine wpQuiet_nil ?_
                    intro _ hw0
                    obtain ⟨pq, hw1⟩ := hw0
                    subst hw1
                    clear hneq
                    go_wp2
                    exact ⟨⟨j + 1, by omega, by go_num, hid (takeL_step hjl hjl2 hm'.out HXE.out HYE.out (by unfold Lcl.p; rw [H1.out, of_decide_eq_true H3.out])), hid (hbel.out.trans (pq.h.mono hbel.out.size))⟩, by simp [intOf]; omega⟩
                  | false =>
                    rw [h3] at KS
                    have HKS := hid (call_bel KS)
                    have H3 := hid h3
                    clear h3 KS
                    go_wp2_with fail
                    clear x1 x2 x3
                    refine wp_region_quiet_bel (by assumption) (by kernel_rfl) ?_
                    intro hneq
                    repeat (
                      with_reducible refine wpQuiet_step (fun K hK => ?_)
                      go_simp
                      first
                        | (with_reducible refine hK _ ?_; clear hK K)
                        | (rw [if_neg (by simp [undef])]; with_reducible refine hK _ ?_; clear hK K)
                        | (apply Exists.intro
                           refine ⟨fun _ => ?_, hK _ ?_⟩
                           (first | (go_at_call 21; with_reducible exact HKS.out _))
                           clear hK K))
                    with_reducible refine wpQuiet_nil ?_
                    intro _ hw0
                    obtain ⟨pq, hw1⟩ := hw0
                    subst hw1
                    clear hneq
                    go_wp2
                    go_ret
                    exact ⟨ret_bool (M.same_no fun e => neL hjl hjl2 HXE.out HYE.out (fun e => of_decide_eq_false H3.out (congrArg Prod.snd e)) (M.sta_eq.1 e).2.2), hBW.out.trans (pq.h.mono hBW.out.size)⟩
                · have he : ∀ W, (binOp .neq 34 (.agg #[.int .i64 x.x.k, .int .i64 x.x.n]) (.agg #[.int .i64 y.x.k, .int .i64 y.x.n])).run Tryz.prog W = .ok (.bool true) W := fun W => by have := neq_atm x.x y.x W; simpa [h1] using this
                  have H1 := hid h1
                  clear h1 KS
                  go_wp2_with fail
                  clear x1 x2 x3
                  refine wp_region_quiet_bel (by assumption) (by kernel_rfl) ?_
                  intro hneq
                  repeat (
                    with_reducible refine wpQuiet_step (fun K hK => ?_)
                    go_simp
                    first
                      | (with_reducible refine hK _ ?_; clear hK K)
                      | (rw [if_neg (by simp [undef])]; with_reducible refine hK _ ?_; clear hK K)
                      | (apply Exists.intro
                         refine ⟨fun _ => ?_, hK _ ?_⟩
                         (fail)
                         clear hK K))
                  with_reducible refine wpQuiet_nil ?_
                  intro _ hw0
                  obtain ⟨pq, hw1⟩ := hw0
                  subst hw1
                  clear hneq
                  go_wp2
                  go_ret
                  exact ⟨ret_bool (M.same_no fun e => neL hjl hjl2 HXE.out HYE.out (fun e => H1.out (congrArg Prod.fst e)) (M.sta_eq.1 e).2.2), hBW.out.trans (pq.h.mono hBW.out.size)⟩
              · have HLE : Hid (lclOf L = lclOf J) := by
                  have h := hm'.out
                  have h2 := HLL.out
                  rw [List.take_of_length_le (by rw [lclOf_len]; omega), List.take_of_length_le (by rw [lclOf_len]; omega)] at h
                  exact h
                obtain ⟨x1, x2, x3, _⟩ := cells3 PW1.out
                go_wp2
                go_ret
                exact ⟨ret_bool (M.same_yes (M.sta_eq.2 ⟨rfl, HBE.out, HLE.out⟩)), hBW.out⟩
      · have e2 : ((L.length : Int) != (J.length : Int)) = true := by rw [bne_iff_ne]; omega
        have HLL := hid hlL
        clear hlL
        go_enter Tryz.func10, Tryz.ntmps10
        go_wp2
        go_ret
        refine ⟨ret_bool (M.same_no fun e => HLL.out ?_), B0.out⟩
        have := congrArg List.length (M.sta_eq.1 e).2.2
        rw [lclOf_len, lclOf_len] at this
        exact this
    · have e1 : ((B.length : Int) != (Q.length : Int)) = true := by rw [bne_iff_ne]; omega
      have HLB := hid hlB
      clear hlB
      go_enter Tryz.func10, Tryz.ntmps10
      go_wp2
      go_ret
      refine ⟨ret_bool (M.same_no fun e => HLB.out ?_), B0.out⟩
      have := congrArg List.length (M.sta_eq.1 e).2.1
      rw [bndOf_len, bndOf_len] at this
      exact this
  · have e0 : (sd != td) = true := by rw [bne_iff_ne]; exact hd
    have HD := hid hd
    go_enter Tryz.func10, Tryz.ntmps10
    go_wp2
    go_ret
    exact ⟨ret_bool (M.same_no fun e => HD.out (M.sta_eq.1 e).1), B0.out⟩
end Go.Proofs.YtbaaeobdjiglgaaGreat
