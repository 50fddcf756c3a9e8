/-
  The walk of the document's Text of states. Conditions: states of at most 100000 of each thing, whose text has less than 2^62 bytes.
-/
import Derived.Test.YtbaaeobdjiglgaaGreatE20
import Derived.Test.YtbaaeobdjiglgaaGreatB5
import Derived.Test.YtbaaeobdjiglgaaGreatGA
import Derived.Test.YtbaaeobdjiglgaaGreatBx
set_option linter.unusedVariables false
set_option linter.unusedSimpArgs false
namespace Go.Proofs.YtbaaeobdjiglgaaGreat
open Go.RowKit Go.Sort
namespace M
theorem flat_take_le {α : Type} (f : α → List UInt8) (l : List α) (i : Nat) : ((l.take i).flatMap f).length ≤ (l.flatMap f).length := by
  have : (l.flatMap f).length = ((l.take i).flatMap f).length + ((l.drop i).flatMap f).length := by
    rw [← List.length_append, ← List.flatMap_append, List.take_append_drop]
  omega
theorem txV_le {s : Sta} (h : s.dead = false) (i : Nat) : (txV s i).length ≤ (textSt s).length := by
  rw [text_live h, List.length_append]
  exact Nat.le_trans (flat_take_le varT s.vs i) (Nat.le_add_right _ _)
theorem txL_le {s : Sta} (h : s.dead = false) (i : Nat) : (txL s i).length ≤ (textSt s).length := by
  rw [text_live h]
  unfold txL
  rw [List.length_append, List.length_append]
  have := flat_take_le (fun z : Atm × Shp => locT z ++ [10]) s.ls i
  omega
theorem txF_le (t : List UInt8) (z : Atm × Shp) (j : Nat) : (txF t z j).length ≤ (txF t z z.2.fs.length).length := by
  unfold txF
  have := flat_take_le fldT z.2.fs j
  simp only [List.length_append, List.take_length]
  omega
theorem mark_eq (f : Fld) : fldT f = [32] ++ f.nm.data.toList ++ (if f.su then [33, 40] else [63, 40]) ++ textB f.vs ++ [41] := by
  unfold fldT
  cases f.su <;> simp
end M
theorem txB_step {d : Bool} {B : List Bnd} {ls : List (M.Atm × M.Shp)} {j : Nat} {x : Bnd} {t : ByteArray} (h : j < B.length) (hx : B[j] = x) (hT : t.data.toList = M.txV ⟨d, bndOf B, ls⟩ j) :
    M.txV ⟨d, bndOf B, ls⟩ (j + 1) = t.data.toList ++ (x.nm.data.toList ++ [58, 32] ++ M.textB x.vs ++ [10]) := by
  have e := M.txV_next ⟨d, bndOf B, ls⟩ j (by rw [bndOf_len]; exact h)
  have e2 : (bndOf B)[j]'(by rw [bndOf_len]; exact h) = x.p := by rw [bndOf_get B j h, hx]
  rw [e, hT]
  show _ ++ (((bndOf B)[j]'(by rw [bndOf_len]; exact h)).1.data.toList ++ _ ++ M.textB ((bndOf B)[j]'(by rw [bndOf_len]; exact h)).2 ++ _) = _
  rw [e2]
  rfl
theorem txL_step {d : Bool} {L : List Lcl} {vs : List (ByteArray × List M.Atm)} {j : Nat} {x : Lcl} (h : j < L.length) (hx : L[j] = x) :
    M.txL ⟨d, vs, lclOf L⟩ (j + 1) = M.txF (M.txL ⟨d, vs, lclOf L⟩ j) x.p x.s.fs.length ++ ([32, 112, 114, 111, 116, 111, 32, 40] ++ M.textB x.s.pr ++ [41] ++ [10]) := by
  have e := M.txL_next ⟨d, vs, lclOf L⟩ j (by rw [lclOf_len]; exact h)
  have e2 : (lclOf L)[j]'(by rw [lclOf_len]; exact h) = x.p := by rw [lclOf_get L j h, hx]
  rw [e]
  show M.txF _ ((lclOf L)[j]'(by rw [lclOf_len]; exact h)) ((lclOf L)[j]'(by rw [lclOf_len]; exact h)).2.fs.length ++ (_ ++ M.textB ((lclOf L)[j]'(by rw [lclOf_len]; exact h)).2.pr ++ _ ++ _) = _
  rw [e2]
  rfl
theorem txF_step {t : List UInt8} {z : M.Atm × M.Shp} {R : List Cel} {j : Nat} {y : Cel} (hR : fldOf R = z.2.fs) (h : j < R.length) (hy : R[j] = y) :
    M.txF t z (j + 1) = M.txF t z j ++ M.fldT y.f := by
  have hl : j < z.2.fs.length := by rw [← hR, fldOf_len]; exact h
  rw [M.txF_next t z j hl]
  have e : z.2.fs[j] = y.f := by
    have : (fldOf R)[j]'(by rw [fldOf_len]; exact h) = z.2.fs[j] := by simp only [hR]
    rw [← this, fldOf_get R j h, hy]
  rw [e]

set_option maxHeartbeats 8000000 in
set_option maxRecDepth 100000 in
theorem rtextSt_any (w : World) (v : Value) (s : M.Sta) (h : StAt w v s) (hK : M.SmSt 100000 s) (hT : (M.textSt s).length < 4611686018427387904) :
    Calls Tryz.prog 29 #[v] w fun e w' => e = .returned (.string (bs (M.textSt s))) ∧ Below w.heap.size w w' := by
  obtain ⟨B, L, a, c, b, d, hs, rfl, hB, hL⟩ := h.open
  have mixed := mixedP
  obtain ⟨hn, hvs, hm, hls⟩ := smStB hK hs
  have HV := hid hvs
  have HL := hid hls
  have TB := hid hB
  have TL := hid hL
  obtain ⟨dd, hdd⟩ : ∃ x, s.dead = x := ⟨_, rfl⟩
  rw [hdd] at hs ⊢
  subst hs
  clear h hK hvs hls hB hL hdd
  obtain ⟨W0, hW0⟩ : ∃ W0, w.alloc (.cells #[.bool dd, .slice a B.length c, .slice b L.length d] 25) = W0 := ⟨_, rfl⟩
  have B0 : Hid (Below w.heap.size w W0) := by unfold Hid; rw [← hW0]; exact (gr_new _ _).below
  have P0 : Hid (W0.heap[w.heap.size]? = some (.cells #[.bool dd, .slice a B.length c, .slice b L.length d] 25 (0, 0))) := by unfold Hid; rw [← hW0]; exact new_at _ _
  have hz0 : w.heap.size < W0.heap.size := by rw [← hW0]; simp
  obtain ⟨x1, x2, x3, xf⟩ := cells3 P0.out
  cases dd with
  | true =>
    go_enter Tryz.func29, Tryz.ntmps29
    go_wp2
    go_ret
    exact ⟨ret_string (bs_of (by rw [M.text_dead rfl])), B0.out⟩
  | false =>
  have HLV : Hid (∀ i, (M.txV ⟨false, bndOf B, lclOf L⟩ i).length < 4611686018427387904) := fun i => Nat.lt_of_le_of_lt (M.txV_le rfl i) hT
  have HLL : Hid (∀ i, (M.txL ⟨false, bndOf B, lclOf L⟩ i).length < 4611686018427387904) := fun i => Nat.lt_of_le_of_lt (M.txL_le rfl i) hT
  clear hT
  go_enter Tryz.func29, Tryz.ntmps29
  go_wp2
  clear hW0 x1 x2 x3 xf
  go_loopw [3, 4] (fun u i w' => ∃ (j : Nat) (t : ByteArray), j ≤ B.length ∧ u = .string t ∧ i = .int .i64 j ∧ Hid (t.data.toList = M.txV ⟨false, bndOf B, lclOf L⟩ j) ∧ Hid (Below W0.heap.size W0 w')) (fun _ i _ => B.length - (intOf i).toNat)
  case atStart => exact ⟨0, ⟨#[]⟩, Nat.zero_le _, rfl, rfl, hid (by rw [M.txV_none]), Below.refl _ _⟩
  case round =>
    obtain ⟨j, t, hj, rfl, rfl, hI, hbel⟩ := hrel
    have hBW : Hid (Below w.heap.size w wr) := B0.out.trans (hbel.out.mono (Nat.le_of_lt hz0))
    have PW := hid (kept P0.out hz0 hbel.out)
    obtain ⟨x1, x2, x3, xf⟩ := cells3 PW.out
    by_cases hjl : j < B.length
    · obtain ⟨bb, o, rfl, hlt, hc⟩ := Bs_some (TB.out.bel hBW.out) hjl
      obtain ⟨c1, c2⟩ := hc j hjl
      have HX := hid ((TB.out.bel hBW.out).2 _ (List.getElem_mem hjl))
      have hxl := HV.out _ (List.getElem_mem hjl)
      obtain ⟨x, hx⟩ : ∃ x, B[j] = x := ⟨_, rfl⟩
      rw [hx] at c1 c2 HX hxl
      have HSTEP := hid (txB_step (d := false) (ls := lclOf L) hjl hx hI.out)
      clear hx hc
      obtain ⟨Y1, Y2, Y3⟩ := bel_box3 PW.out
      have N1 := bel_cell hlt c1
      have N2 := bel_cell hlt c2
      clear c1 c2
      have K1 := fun W (hb : Below wr.heap.size wr W) => rtext_any W _ x.vs (AtAt.bel HX.out hb) hxl
      unfold Bnd.v at K1
      obtain ⟨tx, htx⟩ : ∃ tx, bs (M.textB x.vs) = tx := ⟨_, rfl⟩
      rw [htx] at K1
      have HTX : Hid (tx.data.toList = M.textB x.vs) := by unfold Hid; rw [← htx, bs_list]
      have HK1 := hid (call_bel K1)
      have hz : t.size + (x.nm.size + 2 + tx.size + 1) < 4611686018427387904 := by
        have h1 := HLV.out (j + 1)
        rw [HSTEP.out, ← HTX.out] at h1
        simp only [List.length_append, List.length_cons, List.length_nil, len_list] at h1
        omega
      clear K1 htx hxl
      as_aux_lemma =>
        go_wp2_with fail
        clear x1 x2 x3 xf
        refine wp_region_quiet_bel (by assumption) (by kernel_rfl) ?_
        intro hneq
        repeat (
          with_reducible refine wpQuiet_step (fun K hK => ?_)
          go_simp
          first
            | (with_reducible refine hK _ ?_; clear hK K)
            | (rw [if_neg (by simp [undef])]; with_reducible refine hK _ ?_; clear hK K)
            | (apply Exists.intro
               refine ⟨fun _ => ?_, hK _ ?_⟩
               (first | (rw [if_neg (by omega)]; exact ⟨rfl, rfl⟩) | (go_at_call 50; with_reducible exact HK1.out _))
               clear hK K))
        with_reducible refine wpQuiet_nil ?_
        intro _ hw0
        obtain ⟨pq, hw1⟩ := hw0
        subst hw1
        clear hneq
        go_wp2
        refine ⟨⟨j + 1, _, by omega, rfl, by go_num, ?_, hid (hbel.out.trans (pq.h.mono hbel.out.size))⟩, by simp [intOf]; omega⟩
        show _ = _
        rw [HSTEP.out, ← HTX.out]
        simp
    · have hjE : j = B.length := by omega
      have hI2 : Hid (t.data.toList = M.txL ⟨false, bndOf B, lclOf L⟩ 0) := by
        unfold Hid
        rw [hI.out, hjE, ← M.txV_all, bndOf_len]
      obtain ⟨W2, hW2⟩ : ∃ W2, W2 = wr := ⟨_, rfl⟩
      rw [← hW2] at x1 x2 x3 xf ⊢
      have hbel0 : Hid (Below W0.heap.size W0 W2) := by rw [hW2]; exact hbel.out
      clear hbel hI hW2 hBW PW hjE
      go_wp2
      clear x1 x2 x3 xf hj hjl
      go_loopw [3, 5] (fun u i w' => ∃ (j : Nat) (t : ByteArray), j ≤ L.length ∧ u = .string t ∧ i = .int .i64 j ∧ Hid (t.data.toList = M.txL ⟨false, bndOf B, lclOf L⟩ j) ∧ Hid (Below W0.heap.size W0 w')) (fun _ i _ => L.length - (intOf i).toNat)
      case atStart => exact ⟨0, t, Nat.zero_le _, rfl, rfl, hI2, hbel0⟩
      case round =>
        clear hI2 hbel0
        obtain ⟨j, t, hj, rfl, rfl, hI, hbel⟩ := hrel
        have hBW : Hid (Below w.heap.size w wr) := B0.out.trans (hbel.out.mono (Nat.le_of_lt hz0))
        have PW := hid (kept P0.out hz0 hbel.out)
        obtain ⟨x1, x2, x3, xf⟩ := cells3 PW.out
        by_cases hjl : j < L.length
        · obtain ⟨bb, o, rfl, hlt, hc⟩ := Ls_some (TL.out.bel hBW.out) hjl
          have HC := hid (hc j hjl)
          have HX := hid ((TL.out.bel hBW.out).2 _ (List.getElem_mem hjl))
          have hxl := HL.out _ (List.getElem_mem hjl)
          obtain ⟨x, hx⟩ : ∃ x, L[j] = x := ⟨_, rfl⟩
          rw [hx] at HC HX hxl
          have HSTEP0 := txL_step (d := false) (vs := bndOf B) hjl hx
          clear hx hc
          obtain ⟨xx, xs, xfa, xfn, xpa, xpn⟩ := x
          have HSTEP : Hid (M.txL ⟨false, bndOf B, lclOf L⟩ (j + 1) = M.txF (M.txL ⟨false, bndOf B, lclOf L⟩ j) (xx, xs) xs.fs.length ++ ([32, 112, 114, 111, 116, 111, 32, 40] ++ M.textB xs.pr ++ [41] ++ [10])) := HSTEP0
          have HXL : Hid (M.Sm 100000 xs) := hxl
          obtain ⟨R, hR, hRs⟩ := (ShAt.parts HX.out.2).1
          have HR : Hid (fldOf R = xs.fs) := hR
          have HRL : Hid (R.length = xs.fs.length) := by unfold Hid; rw [← HR.out, fldOf_len]
          have hINR : InR xx.n := HX.out.1
          have HINR := hid hINR
          have HRS0 : Hid (RsAt wr (.slice xfa xs.fs.length xfn) R) := hRs
          have HPR0 : Hid (AtAt wr (.slice xpa xs.pr.length xpn) xs.pr) := (ShAt.parts HX.out.2).2
          clear HX hxl hR hRs HSTEP0 hINR
          obtain ⟨c1, c2, c3, c4⟩ := HC.out
          obtain ⟨V1, hV1⟩ : ∃ V, wr.alloc (.cells #[.int .i64 xx.k, .int .i64 xx.n] 34) = V := ⟨_, rfl⟩
          have A1 : Hid (AtAt V1 (.slice (some ⟨wr.heap.size, 0, none⟩) 1 1) [xx]) := by unfold Hid; rw [← hV1]; exact atAt_one HINR.out
          have bV1 : Hid (Below wr.heap.size wr V1) := by unfold Hid; rw [← hV1]; exact (gr_new _ _).below
          have K1 := rtext_any V1 _ [xx] A1.out (by simp)
          obtain ⟨tx, htx⟩ : ∃ tx, bs (M.textB [xx]) = tx := ⟨_, rfl⟩
          rw [htx] at K1
          have HTX : Hid (tx.data.toList = M.textB [xx]) := by unfold Hid; rw [← htx, bs_list]
          have HK1 := hid K1
          have HFL : Hid (∀ k, (M.txF (M.txL ⟨false, bndOf B, lclOf L⟩ j) (xx, xs) k).length + (8 + (M.textB xs.pr).length + 2) < 4611686018427387904) := fun k => by
            have h1 := HLL.out (j + 1)
            rw [HSTEP.out] at h1
            have h2 : (M.txF (M.txL ⟨false, bndOf B, lclOf L⟩ j) (xx, xs) k).length ≤ (M.txF (M.txL ⟨false, bndOf B, lclOf L⟩ j) (xx, xs) xs.fs.length).length := M.txF_le (M.txL ⟨false, bndOf B, lclOf L⟩ j) (xx, xs) k
            simp only [List.length_append, List.length_cons, List.length_nil] at h1
            omega
          have HT0 : Hid (t.data.toList ++ (tx.data.toList ++ [58]) = M.txF (M.txL ⟨false, bndOf B, lclOf L⟩ j) (xx, xs) 0) := by
            unfold Hid
            rw [M.txF_none, ← hI.out, HTX.out]
          have hz : t.size + (tx.size + 1) < 4611686018427387904 := by
            have h1 := HFL.out 0
            rw [← HT0.out] at h1
            simp only [List.length_append, List.length_cons, List.length_nil, len_list] at h1
            omega
          clear K1 htx
          as_aux_lemma =>
            go_wp2_with (go_at_call 50; refine stopHere ?_)
            refine stopAt ?_
            refine (HK1.out).mono ?_
            rintro e w1 ⟨rfl, hb1⟩
            have hb1' : Below wr.heap.size wr w1 := bV1.out.trans (hb1.mono bV1.out.size)
            have B1 := hid hb1'
            have P1 := hid (bx_bel PW.out hb1')
            clear x1 x2 x3 xf c1 c2 c3 c4 hb1 hV1 HK1 A1
            obtain ⟨x1, x2, x3, xf⟩ := cells3 P1.out
            obtain ⟨c1, c2, c3, c4⟩ := HC.out
            have d3 : w1.cell? ⟨bb, o + j * 4 + 2, none⟩ = some (.slice xfa xs.fs.length xfn) := bel_cell hlt c3 ⟨w1, B1.out⟩
            have d4 : w1.cell? ⟨bb, o + j * 4 + 3, none⟩ = some (.slice xpa xs.pr.length xpn) := bel_cell hlt c4 ⟨w1, B1.out⟩
            clear c1 c2 c3 c4 HC
            obtain ⟨W3, hW3⟩ : ∃ W, w1.alloc (.cells #[.slice xfa xs.fs.length xfn, .slice xpa xs.pr.length xpn] 31) = W := ⟨_, rfl⟩
            have hb3 : Below w1.heap.size w1 W3 := by rw [← hW3]; exact (gr_new _ _).below
            have P3 : Hid (W3.heap[w1.heap.size]? = some (.cells #[.slice xfa xs.fs.length xfn, .slice xpa xs.pr.length xpn] 31 (0, 0))) := by unfold Hid; rw [← hW3]; exact new_at _ _
            have hz1 : w1.heap.size < W3.heap.size := by rw [← hW3]; simp
            have hb13 : Below wr.heap.size wr W3 := B1.out.trans (hb3.mono B1.out.size)
            have BW3 : Hid (Below W0.heap.size W0 W3) := hbel.out.trans (hb13.mono hbel.out.size)
            have HRS : Hid (RsAt W3 (.slice xfa xs.fs.length xfn) R) := HRS0.out.bel hb13
            have HPR : Hid (AtAt W3 (.slice xpa xs.pr.length xpn) xs.pr) := HPR0.out.bel hb13
            have HG3 := hid hz1
            clear HRS0 HPR0 hb13 hb3 hb1' hI hlt
            go_wp2
            clear hW3 x1 x2 x3 xf d3 d4 hz
            generalize w1.heap.size = g3 at P3 HG3 hz1 ⊢
            go_loopw [3, 7] (fun u i w' => ∃ (k : Nat) (q : ByteArray), k ≤ xs.fs.length ∧ u = .string q ∧ i = .int .i64 k ∧ Hid (q.data.toList = M.txF (M.txL ⟨false, bndOf B, lclOf L⟩ j) (xx, xs) k) ∧ Hid (Below W3.heap.size W3 w')) (fun _ i _ => xs.fs.length - (intOf i).toNat)
            case atStart => exact ⟨0, _, Nat.zero_le _, rfl, rfl, hid (by rw [← HT0.out]; simp), Below.refl _ _⟩
            case round =>
              obtain ⟨k, q, hk, rfl, rfl, hQ, hbk⟩ := hrel
              have PK := hid (kept P3.out HG3.out hbk.out)
              obtain ⟨x1, x2, xf⟩ := cells2 PK.out
              have hgk : g3 < wr.heap.size := (Array.getElem?_eq_some_iff.1 PK.out).1
              have HGK := hid hgk
              clear hgk
              have HN : xs.fs.length ≤ 100000 := HXL.out.1
              by_cases hkl : k < xs.fs.length
              · have hkR : k < R.length := by have := HRL.out; omega
                obtain ⟨b2, o2, rfl, hlt2, hc2⟩ := Rs_some (HRS.out.bel hbk.out) hkR
                obtain ⟨e1, e2, e3⟩ := hc2 k hkR
                have HY := hid ((HRS.out.bel hbk.out).1 _ (List.getElem_mem hkR))
                have HMEM : Hid (R[k].f ∈ xs.fs) := by unfold Hid; rw [← HR.out]; exact List.mem_map.2 ⟨_, List.getElem_mem hkR, rfl⟩
                obtain ⟨y, hy⟩ : ∃ y, R[k] = y := ⟨_, rfl⟩
                rw [hy] at e1 e2 e3 HY HMEM
                have hst := txF_step (t := M.txL ⟨false, bndOf B, lclOf L⟩ j) (z := (xx, xs)) HR.out hkR hy
                rw [M.mark_eq, ← hQ.out] at hst
                clear hy hc2
                obtain ⟨⟨ynm, ysu, yvs⟩, ya, yc⟩ := y
                have hyl : yvs.length ≤ 100000 := HXL.out.2.1 _ HMEM.out
                have K1 := fun W (hb : Below wr.heap.size wr W) => rtext_any W (.slice ya yvs.length yc) yvs (AtAt.bel HY.out hb) hyl
                obtain ⟨ty, hty⟩ : ∃ tx, bs (M.textB yvs) = tx := ⟨_, rfl⟩
                rw [hty] at K1
                have HTY : Hid (ty.data.toList = M.textB yvs) := by unfold Hid; rw [← hty, bs_list]
                have HK1 := hid (call_bel K1)
                have HST := hid hst
                simp only at e1 e2 e3
                have hz : q.size + (1 + ynm.size + 2 + ty.size + 1) < 4611686018427387904 := by
                  have h1 := HFL.out (k + 1)
                  rw [HST.out] at h1
                  simp only [← HTY.out, List.length_append, List.length_cons, List.length_nil, len_list] at h1
                  cases ysu <;> simp at h1 <;> omega
                have Y1 := bel_cell HGK.out x1
                have N1 := bel_cell hlt2 e1
                have N3 := bel_cell hlt2 e3
                clear K1 hty hst hyl e1 e3
                cases ysu with
                | true =>
                  as_aux_lemma =>
                    go_wp2_with fail
                    clear x1 x2 xf e2
                    refine wp_region_quiet_bel (by assumption) (by kernel_rfl) ?_
                    intro hneq
                    repeat (
                      with_reducible refine wpQuiet_step (fun K hK => ?_)
                      go_simp
                      first
                        | (with_reducible refine hK _ ?_; clear hK K)
                        | (rw [if_neg (by simp [undef])]; with_reducible refine hK _ ?_; clear hK K)
                        | (apply Exists.intro
                           refine ⟨fun _ => ?_, hK _ ?_⟩
                           (first | (rw [if_neg (by omega)]; exact ⟨rfl, rfl⟩) | (go_at_call 50; with_reducible exact HK1.out _))
                           clear hK K))
                    with_reducible refine wpQuiet_nil ?_
                    intro _ hw0
                    obtain ⟨pq, hw1⟩ := hw0
                    subst hw1
                    clear hneq
                    go_wp2
                    refine ⟨⟨k + 1, _, by omega, rfl, by go_num, ?_, hid (hbk.out.trans (pq.h.mono hbk.out.size))⟩, by simp [intOf]; omega⟩
                    show _ = _
                    rw [HST.out]
                    simp [← HTY.out]
                | false =>
                  as_aux_lemma =>
                    go_wp2_with fail
                    clear x1 x2 xf e2
                    refine wp_region_quiet_bel (by assumption) (by kernel_rfl) ?_
                    intro hneq
                    repeat (
                      with_reducible refine wpQuiet_step (fun K hK => ?_)
                      go_simp
                      first
                        | (with_reducible refine hK _ ?_; clear hK K)
                        | (rw [if_neg (by simp [undef])]; with_reducible refine hK _ ?_; clear hK K)
                        | (apply Exists.intro
                           refine ⟨fun _ => ?_, hK _ ?_⟩
                           (first | (rw [if_neg (by omega)]; exact ⟨rfl, rfl⟩) | (go_at_call 50; with_reducible exact HK1.out _))
                           clear hK K))
                    with_reducible refine wpQuiet_nil ?_
                    intro _ hw0
                    obtain ⟨pq, hw1⟩ := hw0
                    subst hw1
                    clear hneq
                    go_wp2
                    refine ⟨⟨k + 1, _, by omega, rfl, by go_num, ?_, hid (hbk.out.trans (pq.h.mono hbk.out.size))⟩, by simp [intOf]; omega⟩
                    show _ = _
                    rw [HST.out]
                    simp [← HTY.out]
              · have hkE : k = xs.fs.length := by omega
                have K1 := rtext_any wr _ xs.pr (HPR.out.bel hbk.out) HXL.out.2.2
                obtain ⟨ty, hty⟩ : ∃ tx, bs (M.textB xs.pr) = tx := ⟨_, rfl⟩
                rw [hty] at K1
                have HTY : Hid (ty.data.toList = M.textB xs.pr) := by unfold Hid; rw [← hty, bs_list]
                have HK1 := hid K1
                have HQE : Hid (M.txL ⟨false, bndOf B, lclOf L⟩ (j + 1) = q.data.toList ++ ([32, 112, 114, 111, 116, 111, 32, 40] ++ ty.data.toList ++ [41] ++ [10])) := by
                  unfold Hid
                  rw [HSTEP.out, ← hkE, ← hQ.out, HTY.out]
                have hz : q.size + (8 + ty.size + 2) < 4611686018427387904 := by
                  have h1 := HFL.out k
                  rw [← hQ.out, ← HTY.out] at h1
                  simp only [len_list] at h1
                  omega
                clear K1 hty hkE
                as_aux_lemma =>
                  go_wp2_with (go_at_call 50; refine stopHere ?_)
                  refine stopAt ?_
                  refine (HK1.out).mono ?_
                  rintro e w5 ⟨rfl, hb5⟩
                  have hb35 : Below W3.heap.size W3 w5 := hbk.out.trans (hb5.mono hbk.out.size)
                  have HB5 : Hid (Below W0.heap.size W0 w5) := BW3.out.trans (hb35.mono BW3.out.size)
                  clear x1 x2 xf hb5 hb35
                  go_wp2
                  refine ⟨⟨j + 1, _, by omega, rfl, by go_num, ?_, HB5⟩, by simp [intOf]; omega⟩
                  show _ = _
                  rw [HQE.out]
                  simp
        · have hjE : j = L.length := by omega
          have HTT : Hid (t.data.toList = M.textSt ⟨false, bndOf B, lclOf L⟩) := by
            unfold Hid
            rw [hI.out, hjE, ← M.txL_all (s := ⟨false, bndOf B, lclOf L⟩) rfl]
            show M.txL _ _ = M.txL _ (lclOf L).length
            rw [lclOf_len]
          clear hjE hI
          go_wp2
          go_ret
          exact ⟨ret_string (bs_of HTT.out), hBW.out⟩
end Go.Proofs.YtbaaeobdjiglgaaGreat
