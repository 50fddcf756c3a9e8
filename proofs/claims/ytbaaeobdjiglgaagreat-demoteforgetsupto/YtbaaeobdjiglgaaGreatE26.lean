/-
  The walk of the law's speaks. Conditions: states of at most 100000 of each thing.
-/
import Derived.Test.YtbaaeobdjiglgaaGreatE20
import Derived.Test.YtbaaeobdjiglgaaGreatGA
import Derived.Test.YtbaaeobdjiglgaaGreatE25
set_option linter.unusedVariables false
set_option linter.unusedSimpArgs false
namespace Go.Proofs.YtbaaeobdjiglgaaGreat
open Go.RowKit Go.Sort
namespace M
def spk (z : Atm × Shp) (x : Atm) : Bool := decide (z.1 = x) || has z.2.pr x || z.2.fs.any fun f => has f.vs x
theorem speaks_eq (s : Sta) (x : Atm) : speaksSt s x = (s.vs.any (fun z => has z.2 x) || s.ls.any (spk · x)) := rfl
end M
theorem speaks_v {d : Bool} {B : List Bnd} {ls : List (M.Atm × M.Shp)} {x : M.Atm} {j : Nat} {y : Bnd} (h : j < B.length) (hy : B[j] = y) (e : M.has y.vs x = true) : true = M.speaksSt ⟨d, bndOf B, ls⟩ x := by
  rw [M.speaks_eq]
  have : (bndOf B).any (fun z => M.has z.2 x) = true := List.any_eq_true.2 ⟨y.p, List.mem_map.2 ⟨_, by rw [← hy]; exact List.getElem_mem h, rfl⟩, e⟩
  show _ = ((bndOf B).any _ || _)
  rw [this]; rfl
theorem speaks_l {d : Bool} {vs : List (ByteArray × List M.Atm)} {L : List Lcl} {x : M.Atm} {j : Nat} {y : Lcl} (h : j < L.length) (hy : L[j] = y) (e : M.spk y.p x = true) : true = M.speaksSt ⟨d, vs, lclOf L⟩ x := by
  rw [M.speaks_eq]
  have : (lclOf L).any (M.spk · x) = true := List.any_eq_true.2 ⟨y.p, List.mem_map.2 ⟨_, by rw [← hy]; exact List.getElem_mem h, rfl⟩, e⟩
  show _ = (_ || (lclOf L).any _)
  rw [this, Bool.or_true]
theorem speaks_no {d : Bool} {B : List Bnd} {L : List Lcl} {x : M.Atm} (h1 : ∀ i (h : i < B.length), M.has B[i].vs x = false) (h2 : ∀ i (h : i < L.length), M.spk L[i].p x = false) : false = M.speaksSt ⟨d, bndOf B, lclOf L⟩ x := by
  rw [M.speaks_eq]
  have e1 : (bndOf B).any (fun z => M.has z.2 x) = false := List.any_eq_false.2 fun z hz => by
    obtain ⟨y, hy, rfl⟩ := List.mem_map.1 hz
    obtain ⟨i, hi, rfl⟩ := List.getElem_of_mem hy
    rw [show (Bnd.p B[i]).2 = B[i].vs from rfl, h1 i hi]; decide
  have e2 : (lclOf L).any (M.spk · x) = false := List.any_eq_false.2 fun z hz => by
    obtain ⟨y, hy, rfl⟩ := List.mem_map.1 hz
    obtain ⟨i, hi, rfl⟩ := List.getElem_of_mem hy
    rw [h2 i hi]; decide
  show false = ((bndOf B).any _ || (lclOf L).any _)
  rw [e1, e2]; rfl
theorem upTo_step {p : Nat → Prop} {j : Nat} (h : ∀ i, i < j → p i) (hj : p j) : ∀ i, i < j + 1 → p i := fun i hi => by
  rcases Nat.lt_succ_iff_lt_or_eq.1 hi with h' | rfl
  · exact h i h'
  · exact hj

set_option maxHeartbeats 8000000 in
set_option maxRecDepth 100000 in
theorem speaks_any (w : World) (v : Value) (s : M.Sta) (x : M.Atm) (h : StAt w v s) (hK : M.SmSt 100000 s) :
    Calls Tryz.prog 17 #[v, av x] w fun e w' => e = .returned (.bool (M.speaksSt s x)) ∧ Below w.heap.size w w' := by
  obtain ⟨B, L, a, c, b, d, hs, rfl, hB, hL⟩ := h.open
  have mixed := mixedP
  obtain ⟨hn, hvs, hm, hls⟩ := smStB hK hs
  have HV := hid hvs
  have HL := hid hls
  have TB := hid hB
  have TL := hid hL
  obtain ⟨dd, hdd⟩ : ∃ x, s.dead = x := ⟨_, rfl⟩
  rw [hdd] at hs ⊢
  subst hs
  clear h hK hvs hls hB hL hdd
  unfold av
  obtain ⟨A1, hA1⟩ : ∃ o, (.cells #[.bool dd, .slice a B.length c, .slice b L.length d] 25 : Obj) = o := ⟨_, rfl⟩
  obtain ⟨A2, hA2⟩ : ∃ o, (.cells #[.int .i64 x.k, .int .i64 x.n] 34 : Obj) = o := ⟨_, rfl⟩
  obtain ⟨W0, hW0⟩ : ∃ W0, (w.alloc A1).alloc A2 = W0 := ⟨_, rfl⟩
  have b1 := (gr_new w A1).below
  have b2 := (gr_new (w.alloc A1) A2).below
  have p3 : W0.heap[w.heap.size]? = some A1 := by rw [← hW0]; exact kept (B := (w.alloc A1).heap.size) (new_at w A1) (by simp) b2
  have p4 : W0.heap[w.heap.size + 1]? = some A2 := by
    rw [← hW0]
    have := new_at (w.alloc A1) A2
    rw [World.size_alloc] at this
    exact this
  have hz : w.heap.size + 1 < W0.heap.size := by rw [← hW0]; simp
  have B0 : Hid (Below w.heap.size w W0) := by unfold Hid; rw [← hW0]; exact b1.trans (b2.mono b1.size)
  rw [← hA1] at p3
  rw [← hA2] at p4
  subst hA1 hA2
  have P1 := hid p3
  have P2 := hid p4
  clear b1 b2 p3 p4
  go_enter Tryz.func17, Tryz.ntmps17
  go_wp2
  clear hW0
  go_loopw [5] (fun i w' => ∃ j : Nat, j ≤ B.length ∧ i = .int .i64 j ∧ Hid (∀ i, i < j → ∀ h : i < B.length, M.has B[i].vs x = false) ∧ Hid (Below W0.heap.size W0 w')) (fun i _ => B.length - (intOf i).toNat)
  case atStart => exact ⟨0, Nat.zero_le _, rfl, fun i h => absurd h (Nat.not_lt_zero _), Below.refl _ _⟩
  case round =>
    obtain ⟨j, hj, rfl, hI, hbel⟩ := hrel
    have hBW : Hid (Below w.heap.size w wr) := B0.out.trans (hbel.out.mono (by omega))
    have PW1 := hid (kept P1.out (by omega) hbel.out)
    have PW2 := hid (kept P2.out (by omega) hbel.out)
    obtain ⟨x1, x2, x3, xf⟩ := cells3 PW1.out
    by_cases hjl : j < B.length
    · obtain ⟨bb, o, rfl, hlt, hc⟩ := Bs_some (TB.out.bel hBW.out) hjl
      obtain ⟨c1, c2⟩ := hc j hjl
      have HX := hid ((TB.out.bel hBW.out).2 _ (List.getElem_mem hjl))
      have hxl := HV.out _ (List.getElem_mem hjl)
      obtain ⟨y, hy⟩ : ∃ y, B[j] = y := ⟨_, rfl⟩
      rw [hy] at c1 c2 HX hxl
      have HYE := hid hy
      clear hy hc
      obtain ⟨Y1, Y2, Y3⟩ := bel_box3 PW1.out
      obtain ⟨Z1, Z2⟩ := bel_box2 PW2.out
      have N1 := bel_cell hlt c1
      have N2 := bel_cell hlt c2
      clear c1 c2
      have K1 := fun W (hb : Below wr.heap.size wr W) => gr_bel (rhas_any W _ y.vs x (AtAt.bel HX.out hb) (by omega))
      unfold Bnd.v av at K1
      cases hhas : M.has y.vs x with
      | true =>
        rw [hhas] at K1
        have HH := hid hhas
        have HK1 := hid (call_bel K1)
        clear hhas K1 hxl
        as_aux_lemma =>
          go_wp2_with fail
          clear x1 x2 x3 xf
          refine wp_region_quiet_bel (by assumption) (by kernel_rfl) ?_
          intro hneq
          repeat (
            with_reducible refine wpQuiet_step (fun K hK => ?_)
            go_simp
            first
              | (with_reducible refine hK _ ?_; clear hK K)
              | (rw [if_neg (by simp [undef])]; with_reducible refine hK _ ?_; clear hK K)
              | (apply Exists.intro
                 refine ⟨fun _ => ?_, hK _ ?_⟩
                 (first | (go_at_call 19; with_reducible exact HK1.out _))
                 clear hK K))
          with_reducible refine wpQuiet_nil ?_
          intro _ hw0
          obtain ⟨pq, hw1⟩ := hw0
          subst hw1
          clear hneq
          go_wp2
          go_ret
          exact ⟨ret_bool (speaks_v hjl HYE.out HH.out), hBW.out.trans (pq.h.mono hBW.out.size)⟩
      | false =>
        rw [hhas] at K1
        have HH := hid hhas
        have HK1 := hid (call_bel K1)
        clear hhas K1 hxl
        as_aux_lemma =>
          go_wp2_with fail
          clear x1 x2 x3 xf
          refine wp_region_quiet_bel (by assumption) (by kernel_rfl) ?_
          intro hneq
          repeat (
            with_reducible refine wpQuiet_step (fun K hK => ?_)
            go_simp
            first
              | (with_reducible refine hK _ ?_; clear hK K)
              | (rw [if_neg (by simp [undef])]; with_reducible refine hK _ ?_; clear hK K)
              | (apply Exists.intro
                 refine ⟨fun _ => ?_, hK _ ?_⟩
                 (first | (go_at_call 19; with_reducible exact HK1.out _))
                 clear hK K))
          with_reducible refine wpQuiet_nil ?_
          intro _ hw0
          obtain ⟨pq, hw1⟩ := hw0
          subst hw1
          clear hneq
          go_wp2
          exact ⟨⟨j + 1, by omega, by go_num, hid (upTo_step hI.out fun h => by rw [HYE.out]; exact HH.out), hid (hbel.out.trans (pq.h.mono hbel.out.size))⟩, by simp [intOf]; omega⟩
    · have HVN : Hid (∀ i (h : i < B.length), M.has B[i].vs x = false) := fun i h => hI.out i (by omega) h
      obtain ⟨W2, hW2⟩ : ∃ W2, W2 = wr := ⟨_, rfl⟩
      rw [← hW2] at x1 x2 x3 xf ⊢
      have hbel0 : Hid (Below W0.heap.size W0 W2) := by rw [hW2]; exact hbel.out
      clear hbel hI hW2 hBW PW1 PW2
      go_wp2
      clear x1 x2 x3 xf hj hjl
      go_loopw [6] (fun i w' => ∃ j : Nat, j ≤ L.length ∧ i = .int .i64 j ∧ Hid (∀ i, i < j → ∀ h : i < L.length, M.spk L[i].p x = false) ∧ Hid (Below W0.heap.size W0 w')) (fun i _ => L.length - (intOf i).toNat)
      case atStart => exact ⟨0, Nat.zero_le _, rfl, fun i h => absurd h (Nat.not_lt_zero _), hbel0⟩
      case round =>
        clear hbel0
        obtain ⟨j, hj, rfl, hI, hbel⟩ := hrel
        have hBW : Hid (Below w.heap.size w wr) := B0.out.trans (hbel.out.mono (by omega))
        have PW1 := hid (kept P1.out (by omega) hbel.out)
        have PW2 := hid (kept P2.out (by omega) hbel.out)
        obtain ⟨x1, x2, x3, xf⟩ := cells3 PW1.out
        by_cases hjl : j < L.length
        · obtain ⟨bb, o, rfl, hlt, hc⟩ := Ls_some (TL.out.bel hBW.out) hjl
          obtain ⟨c1, c2, c3, c4⟩ := hc j hjl
          have HX := hid ((TL.out.bel hBW.out).2 _ (List.getElem_mem hjl)).2
          have hxl := HL.out _ (List.getElem_mem hjl)
          obtain ⟨y, hy⟩ : ∃ y, L[j] = y := ⟨_, rfl⟩
          rw [hy] at c1 c2 c3 c4 HX hxl
          have HYE := hid hy
          clear hy hc
          obtain ⟨yx, ys, yfa, yfn, ypa, ypn⟩ := y
          have HSM : Hid (M.Sm 100000 ys) := hxl
          simp only at c1 c2 c3 c4
          obtain ⟨⟨R, hR, hRs⟩, hPr⟩ := ShAt.parts HX.out
          have HR : Hid (fldOf R = ys.fs) := hR
          have HRL : Hid (R.length = ys.fs.length) := by unfold Hid; rw [← HR.out, fldOf_len]
          have HRS : Hid (RsAt wr (.slice yfa ys.fs.length yfn) R) := hRs
          have HPR : Hid (AtAt wr (.slice ypa ys.pr.length ypn) ys.pr) := hPr
          clear hR hRs hPr HX hxl
          obtain ⟨Y1, Y2, Y3⟩ := bel_box3 PW1.out
          obtain ⟨Z1, Z2⟩ := bel_box2 PW2.out
          have N1 := bel_cell hlt c1
          have N2 := bel_cell hlt c2
          have N3 := bel_cell hlt c3
          have N4 := bel_cell hlt c4
          clear c1 c2 c3 c4
          have hpl : ys.pr.length ≤ 1048576 := Nat.le_trans HSM.out.2.2 (by decide)
          have K1 := fun W (hb : Below wr.heap.size wr W) => gr_bel (rhas_any W _ ys.pr x (AtAt.bel HPR.out hb) hpl)
          unfold av at K1
          have hg1 := guardA
          have he := fun w' => eql_atm yx x w'
          by_cases hxy : yx = x
          · have HXY := hid hxy
            rw [decide_eq_true hxy] at he
            clear hxy K1 hpl
            as_aux_lemma =>
              go_wp2_with fail
              clear x1 x2 x3 xf
              refine wp_region_quiet_bel (by assumption) (by kernel_rfl) ?_
              intro hneq
              repeat (
                with_reducible refine wpQuiet_step (fun K hK => ?_)
                go_simp
                first
                  | (with_reducible refine hK _ ?_; clear hK K)
                  | (rw [if_neg (by simp [undef])]; with_reducible refine hK _ ?_; clear hK K)
                  | (apply Exists.intro
                     refine ⟨fun _ => ?_, hK _ ?_⟩
                     (fail)
                     clear hK K))
              with_reducible refine wpQuiet_nil ?_
              intro _ hw0
              obtain ⟨pq, hw1⟩ := hw0
              subst hw1
              clear hneq
              go_wp2
              go_ret
              exact ⟨ret_bool (speaks_l hjl HYE.out (by unfold M.spk Lcl.p; rw [decide_eq_true HXY.out]; rfl)), hBW.out.trans (pq.h.mono hBW.out.size)⟩
          have HXY := hid hxy
          rw [decide_eq_false hxy] at he
          clear hxy
          cases hhas : M.has ys.pr x with
          | true =>
            rw [hhas] at K1
            have HH := hid hhas
            have HK1 := hid (call_bel K1)
            clear hhas K1 hpl
            as_aux_lemma =>
              go_wp2_with fail
              clear x1 x2 x3 xf
              refine wp_region_quiet_bel (by assumption) (by kernel_rfl) ?_
              intro hneq
              repeat (
                with_reducible refine wpQuiet_step (fun K hK => ?_)
                go_simp
                first
                  | (with_reducible refine hK _ ?_; clear hK K)
                  | (rw [if_neg (by simp [undef])]; with_reducible refine hK _ ?_; clear hK K)
                  | (apply Exists.intro
                     refine ⟨fun _ => ?_, hK _ ?_⟩
                     (first | (go_at_call 19; with_reducible exact HK1.out _))
                     clear hK K))
              with_reducible refine wpQuiet_nil ?_
              intro _ hw0
              obtain ⟨pq, hw1⟩ := hw0
              subst hw1
              clear hneq
              go_wp2
              go_ret
              exact ⟨ret_bool (speaks_l hjl HYE.out (by unfold M.spk Lcl.p; rw [HH.out, Bool.or_true]; rfl)), hBW.out.trans (pq.h.mono hBW.out.size)⟩
          | false =>
            rw [hhas] at K1
            have HH := hid hhas
            have HK1 := hid (call_bel K1)
            clear hhas K1 hpl
            as_aux_lemma =>
              go_wp2_with fail
              clear x1 x2 x3 xf
              refine wp_region_quiet_bel (by assumption) (by kernel_rfl) ?_
              intro hneq
              repeat (
                with_reducible refine wpQuiet_step (fun K hK => ?_)
                go_simp
                first
                  | (with_reducible refine hK _ ?_; clear hK K)
                  | (rw [if_neg (by simp [undef])]; with_reducible refine hK _ ?_; clear hK K)
                  | (apply Exists.intro
                     refine ⟨fun _ => ?_, hK _ ?_⟩
                     (first | (go_at_call 19; with_reducible exact HK1.out _))
                     clear hK K))
              with_reducible refine wpQuiet_nil ?_
              intro _ hw0
              obtain ⟨pq, hw1⟩ := hw0
              subst hw1
              clear hneq
              obtain ⟨W3, hW3⟩ : ∃ W, W = pq.W := ⟨_, rfl⟩
              have hb3 : Below wr.heap.size wr W3 := by rw [hW3]; exact pq.h
              have HB3 : Hid (Below W0.heap.size W0 W3) := hbel.out.trans (hb3.mono hbel.out.size)
              have HBW3 : Hid (Below w.heap.size w W3) := hBW.out.trans (hb3.mono hBW.out.size)
              have HRS3 := hid (HRS.out.bel hb3)
              have Q1 := hid (bx_bel PW1.out hb3)
              have Q2 := hid (bx_bel PW2.out hb3)
              have hlt3 : bb < W3.heap.size := Nat.lt_of_lt_of_le hlt hb3.size
              have C3 : Hid (W3.cell? ⟨bb, o + j * 4 + 2, none⟩ = some (.slice yfa ys.fs.length yfn)) := by unfold Hid; rw [hW3]; exact N3 pq
              have hwz1 : w.heap.size < W3.heap.size := (Array.getElem?_eq_some_iff.1 Q1.out).1
              have hwz2 : w.heap.size + 1 < W3.heap.size := (Array.getElem?_eq_some_iff.1 Q2.out).1
              rw [← hW3]
              clear hW3 HRS HPR N1 N2 N3 N4 Y1 Y2 Y3 Z1 Z2 he hg1 HK1 hb3 hbel hBW PW1 PW2
              go_wp2
              clear hlt
              go_loopw [7] (fun i w' => ∃ k : Nat, k ≤ ys.fs.length ∧ i = .int .i64 k ∧ Hid (∀ i, i < k → ∀ h : i < R.length, M.has R[i].f.vs x = false) ∧ Hid (Below W3.heap.size W3 w')) (fun i _ => ys.fs.length - (intOf i).toNat)
              case atStart => exact ⟨0, Nat.zero_le _, rfl, fun i h => absurd h (Nat.not_lt_zero _), Below.refl _ _⟩
              case round =>
                obtain ⟨k, hk, rfl, hJ, hbk⟩ := hrel
                have HN : ys.fs.length ≤ 100000 := HSM.out.1
                have PK1 := hid (kept Q1.out hwz1 hbk.out)
                have PK2 := hid (kept Q2.out hwz2 hbk.out)
                have c3 : wr.cell? ⟨bb, o + j * 4 + 2, none⟩ = some (.slice yfa ys.fs.length yfn) := by rw [hbk.out.cell (p := ⟨bb, o + j * 4 + 2, none⟩) hlt3]; exact C3.out
                obtain ⟨x1, x2, x3, xf⟩ := cells3 PK1.out
                have hltk : bb < wr.heap.size := Nat.lt_of_lt_of_le hlt3 hbk.out.size
                by_cases hkl : k < ys.fs.length
                · have hkR : k < R.length := by have := HRL.out; omega
                  obtain ⟨b2, o2, rfl, hlt2, hc2⟩ := Rs_some (HRS3.out.bel hbk.out) hkR
                  obtain ⟨e1, e2, e3⟩ := hc2 k hkR
                  have HY := hid ((HRS3.out.bel hbk.out).1 _ (List.getElem_mem hkR))
                  have HMEM : Hid (R[k].f ∈ ys.fs) := by unfold Hid; rw [← HR.out]; exact List.mem_map.2 ⟨_, List.getElem_mem hkR, rfl⟩
                  obtain ⟨f, hf⟩ : ∃ y, R[k] = y := ⟨_, rfl⟩
                  rw [hf] at e1 e2 e3 HY HMEM
                  have HFE := hid hf
                  clear hf hc2
                  have hfl : f.f.vs.length ≤ 1048576 := Nat.le_trans (HSM.out.2.1 _ HMEM.out) (by decide)
                  have K1 := fun W (hb : Below wr.heap.size wr W) => gr_bel (rhas_any W _ f.f.vs x (AtAt.bel HY.out hb) hfl)
                  unfold av Cel.v at K1
                  obtain ⟨Y1, Y2, Y3⟩ := bel_box3 PK1.out
                  obtain ⟨Z1, Z2⟩ := bel_box2 PK2.out
                  have N3 := bel_cell hltk c3
                  have M1 := bel_cell hlt2 e1
                  have M2 := bel_cell hlt2 e2
                  have M3 := bel_cell hlt2 e3
                  clear e1 e2 e3
                  cases hh2 : M.has f.f.vs x with
                  | true =>
                    rw [hh2] at K1
                    have HH2 := hid hh2
                    have HK1 := hid (call_bel K1)
                    clear hh2 K1 hfl
                    as_aux_lemma =>
                      go_wp2_with fail
                      clear x1 x2 x3 xf c3
                      refine wp_region_quiet_bel (by assumption) (by kernel_rfl) ?_
                      intro hneq
                      repeat (
                        with_reducible refine wpQuiet_step (fun K hK => ?_)
                        go_simp
                        first
                          | (with_reducible refine hK _ ?_; clear hK K)
                          | (rw [if_neg (by simp [undef])]; with_reducible refine hK _ ?_; clear hK K)
                          | (apply Exists.intro
                             refine ⟨fun _ => ?_, hK _ ?_⟩
                             (first | (go_at_call 19; with_reducible exact HK1.out _))
                             clear hK K))
                      with_reducible refine wpQuiet_nil ?_
                      intro _ hw0
                      obtain ⟨pq, hw1⟩ := hw0
                      subst hw1
                      clear hneq
                      go_wp2
                      go_ret
                      refine ⟨ret_bool (speaks_l hjl HYE.out ?_), HBW3.out.trans ((hbk.out.trans (pq.h.mono hbk.out.size)).mono HBW3.out.size)⟩
                      unfold M.spk Lcl.p
                      rw [List.any_eq_true.2 ⟨_, HMEM.out, HH2.out⟩, Bool.or_true]
                  | false =>
                    rw [hh2] at K1
                    have HH2 := hid hh2
                    have HK1 := hid (call_bel K1)
                    clear hh2 K1 hfl
                    as_aux_lemma =>
                      go_wp2_with fail
                      clear x1 x2 x3 xf c3
                      refine wp_region_quiet_bel (by assumption) (by kernel_rfl) ?_
                      intro hneq
                      repeat (
                        with_reducible refine wpQuiet_step (fun K hK => ?_)
                        go_simp
                        first
                          | (with_reducible refine hK _ ?_; clear hK K)
                          | (rw [if_neg (by simp [undef])]; with_reducible refine hK _ ?_; clear hK K)
                          | (apply Exists.intro
                             refine ⟨fun _ => ?_, hK _ ?_⟩
                             (first | (go_at_call 19; with_reducible exact HK1.out _))
                             clear hK K))
                      with_reducible refine wpQuiet_nil ?_
                      intro _ hw0
                      obtain ⟨pq, hw1⟩ := hw0
                      subst hw1
                      clear hneq
                      go_wp2
                      exact ⟨⟨k + 1, by omega, by go_num, hid (upTo_step hJ.out fun h => by rw [HFE.out]; exact HH2.out), hid (hbk.out.trans (pq.h.mono hbk.out.size))⟩, by simp [intOf]; omega⟩
                · have HNO : Hid (M.spk (yx, ys) x = false) := by
                    unfold Hid M.spk
                    rw [decide_eq_false HXY.out, HH.out]
                    have : (ys.fs.any fun f => M.has f.vs x) = false := List.any_eq_false.2 fun f hf => by
                      rw [← HR.out] at hf
                      obtain ⟨g, hg, rfl⟩ := List.mem_map.1 hf
                      obtain ⟨i, hi, rfl⟩ := List.getElem_of_mem hg
                      rw [hJ.out i (by have := HRL.out; omega) hi]; decide
                    show (false || false || ys.fs.any fun f => M.has f.vs x) = false
                    rw [this]; rfl
                  as_aux_lemma =>
                    go_wp2
                    exact ⟨⟨j + 1, by omega, by go_num, hid (upTo_step hI.out fun h => by rw [HYE.out]; exact HNO.out), hid (HB3.out.trans (hbk.out.mono HB3.out.size))⟩, by simp [intOf]; omega⟩
        · have HNL : Hid (∀ i (h : i < L.length), M.spk L[i].p x = false) := fun i h => hI.out i (by omega) h
          as_aux_lemma =>
            go_wp2
            go_ret
            exact ⟨ret_bool (speaks_no HVN.out HNL.out), hBW.out⟩
end Go.Proofs.YtbaaeobdjiglgaaGreat
