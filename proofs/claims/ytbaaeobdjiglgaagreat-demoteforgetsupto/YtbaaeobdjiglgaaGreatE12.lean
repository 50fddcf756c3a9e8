/-
  The walk of state.Put: what it answers lies in new blocks. Conditions: states of at most 100000 of each thing.
-/
import Derived.Test.YtbaaeobdjiglgaaGreatGK
set_option linter.unusedVariables false
set_option linter.unusedSimpArgs false
namespace Go.Proofs.YtbaaeobdjiglgaaGreat
open Go.RowKit Go.Sort
set_option maxHeartbeats 8000000 in
set_option maxRecDepth 100000 in
theorem sput_any (w : World) (v : Value) (s : M.Sta) (x : M.Atm) (vv : Value) (o : M.Shp) (h : StAt w v s) (hA : ShAt w vv o) (hx : InR x.n) (hK : M.SmSt 100000 s) (hO : M.Sm 100000 o) :
    Calls Tryz.prog 37 #[v, av x, vv] w fun e w' => ∃ v', e = .returned v' ∧ StFr w.heap.size w' v' (if M.maySt s && (M.placeB x && M.mayS o) then M.putS s x o else M.zeroSt) ∧ Below w.heap.size w w' := by
  have mixed := mixedP
  obtain ⟨res, hres⟩ : ∃ r, (if M.maySt s && (M.placeB x && M.mayS o) then M.putS s x o else M.zeroSt) = r := ⟨_, rfl⟩
  rw [hres]
  have HRES := hid hres
  clear hres
  obtain ⟨a, c, b, d, rfl⟩ := h.form
  obtain ⟨dd, hdd⟩ : ∃ x, s.dead = x := ⟨_, rfl⟩
  rw [hdd] at h ⊢
  have HDD := hid hdd
  have TS := hid h
  have TA := hid hA
  have HK := hid hK
  clear h hK hdd
  obtain ⟨a5, c5, b5, d5, rfl⟩ := hA.form
  have HO := hid hO
  clear hA hO
  unfold av
  obtain ⟨V0, hV0⟩ : ∃ W, w.alloc (.cells #[.bool dd, .slice a s.vs.length c, .slice b s.ls.length d] 25) = W := ⟨_, rfl⟩
  have bV0 : Below w.heap.size w V0 := by rw [← hV0]; exact (gr_new _ _).below
  have sV0 : V0.heap.size = w.heap.size + 1 := by rw [← hV0]; simp
  have pA1 : V0.heap[w.heap.size]? = some (.cells #[.bool dd, .slice a s.vs.length c, .slice b s.ls.length d] 25 (0, 0)) := by rw [← hV0]; exact new_at _ _
  obtain ⟨V1, hV1⟩ : ∃ W, V0.alloc (.cells #[.int .i64 x.k, .int .i64 x.n] 34) = W := ⟨_, rfl⟩
  have bV1 : Below V0.heap.size V0 V1 := by rw [← hV1]; exact (gr_new _ _).below
  have sV1 : V1.heap.size = V0.heap.size + 1 := by rw [← hV1]; simp
  have pA3 : V1.heap[V0.heap.size]? = some (.cells #[.int .i64 x.k, .int .i64 x.n] 34 (0, 0)) := by rw [← hV1]; exact new_at _ _
  obtain ⟨V2, hV2⟩ : ∃ W, V1.alloc (.cells #[.slice a5 o.fs.length c5, .slice b5 o.pr.length d5] 31) = W := ⟨_, rfl⟩
  have bV2 : Below V1.heap.size V1 V2 := by rw [← hV2]; exact (gr_new _ _).below
  have sV2 : V2.heap.size = V1.heap.size + 1 := by rw [← hV2]; simp
  have pA4 : V2.heap[V1.heap.size]? = some (.cells #[.slice a5 o.fs.length c5, .slice b5 o.pr.length d5] 31 (0, 0)) := by rw [← hV2]; exact new_at _ _
  obtain ⟨V3, hV3⟩ : ∃ W, V2.alloc (.cells #[.bool false, .slice none 0 0, .slice none 0 0] 25) = W := ⟨_, rfl⟩
  have bV3 : Below V2.heap.size V2 V3 := by rw [← hV3]; exact (gr_new _ _).below
  have sV3 : V3.heap.size = V2.heap.size + 1 := by rw [← hV3]; simp
  have pA2 : V3.heap[V2.heap.size]? = some (.cells #[.bool false, .slice none 0 0, .slice none 0 0] 25 (0, 0)) := by rw [← hV3]; exact new_at _ _
  have PA1 : Hid (V3.heap[w.heap.size]? = some (.cells #[.bool dd, .slice a s.vs.length c, .slice b s.ls.length d] 25 (0, 0))) := by
    have := (kept (kept (kept pA1 (by omega) bV1) (by omega) bV2) (by omega) bV3)
    rw [show w.heap.size = w.heap.size by omega] at this
    exact this
  have PA3 : Hid (V3.heap[w.heap.size + 1]? = some (.cells #[.int .i64 x.k, .int .i64 x.n] 34 (0, 0))) := by
    have := (kept (kept pA3 (by omega) bV2) (by omega) bV3)
    rw [show V0.heap.size = w.heap.size + 1 by omega] at this
    exact this
  have PA4 : Hid (V3.heap[w.heap.size + 2]? = some (.cells #[.slice a5 o.fs.length c5, .slice b5 o.pr.length d5] 31 (0, 0))) := by
    have := (kept pA4 (by omega) bV3)
    rw [show V1.heap.size = w.heap.size + 2 by omega] at this
    exact this
  have PA2 : Hid (V3.heap[w.heap.size + 3]? = some (.cells #[.bool false, .slice none 0 0, .slice none 0 0] 25 (0, 0))) := by
    have := pA2
    rw [show V2.heap.size = w.heap.size + 3 by omega] at this
    exact this
  have B0 : Hid (Below w.heap.size w V3) := (((bV0.trans (bV1.mono (by omega))).trans (bV2.mono (by omega))).trans (bV3.mono (by omega)))
  have hz : w.heap.size + 4 = V3.heap.size := by omega
  clear bV0 bV1 bV2 bV3 pA1 pA3 pA4 pA2
  obtain ⟨xA10, xA11, xA12, _⟩ := cells3 PA1.out
  obtain ⟨xA30, xA31, _⟩ := cells2 PA3.out
  obtain ⟨xA40, xA41, _⟩ := cells2 PA4.out
  have KA := smay_any V3 _ s (TS.out.bel B0.out |> fun h => by rw [← HDD.out] at h; exact h) HK.out
  rw [HDD.out] at KA
  clear sV0 sV1 sV2 sV3
  rw [← hV0] at hV1
  rw [← hV1] at hV2
  rw [← hV2] at hV3
  clear hV0 hV1 hV2
  cases hms : M.maySt s with
  | false =>
    rw [hms] at KA
    have HKA := hid KA
    have MS := hid hms
    clear KA hms
    go_enter Tryz.func37, Tryz.ntmps37
    go_wp2_with (go_at_call 30; refine stopHere ?_)
    refine stopAt ?_
    refine HKA.out.mono ?_
    rintro e w1 ⟨rfl, hb1⟩
    clear hV3 xA10 xA11 xA12 xA30 xA31 xA40 xA41
    have B1 : Hid (Below w.heap.size w w1) := B0.out.trans (hb1.mono B0.out.size)
    have hz1 := hb1.size
    obtain ⟨z1, z2, z3, zf⟩ := cells3 (kept PA2.out (by omega) hb1)
    go_wp2
    refine bodyPost_ret (v := .agg #[.bool false, .slice none 0 0, .slice none 0 0]) (by simp [results, Tryz.results37, go_sem, z1, z2, z3]) rfl ?_
    refine ⟨_, rfl, ?_, set3k B1.out (by omega) _ _ _⟩
    rw [← HRES.out, MS.out]
    exact stAt_zero _
  | true =>
    rw [hms] at KA
    have HKA := hid KA
    have MS := hid hms
    clear KA hms
    go_enter Tryz.func37, Tryz.ntmps37
    go_wp2_with (go_at_call 30; refine stopHere ?_)
    refine stopAt ?_
    refine HKA.out.mono ?_
    rintro e w1 ⟨rfl, hb1⟩
    clear hV3 xA10 xA11 xA12 xA30 xA31 xA40 xA41
    have B1 : Hid (Below w.heap.size w w1) := B0.out.trans (hb1.mono B0.out.size)
    have hz1 := hb1.size
    have QA1 := hid (kept PA1.out (by omega) hb1)
    have QA3 := hid (kept PA3.out (by omega) hb1)
    have QA4 := hid (kept PA4.out (by omega) hb1)
    have QA2 := hid (kept PA2.out (by omega) hb1)
    clear hb1
    have KP := smayPut_any w1 x _ o (TA.out.bel B1.out) hx HO.out
    unfold av at KP
    obtain ⟨x1, x2, x3, _⟩ := cells3 QA1.out
    obtain ⟨y1, y2, _⟩ := cells2 QA3.out
    obtain ⟨y3, y4, _⟩ := cells2 QA4.out
    cases hmp : (M.placeB x && M.mayS o) with
    | false =>
      rw [hmp] at KP
      have HKP := hid KP
      have MP := hid hmp
      clear KP hmp
      go_wp2_with (go_at_call 53; refine stopHere ?_)
      refine stopAt ?_
      refine HKP.out.mono ?_
      rintro e w2 ⟨rfl, hb2⟩
      clear x1 x2 x3 y1 y2 y3 y4
      have B2 : Hid (Below w.heap.size w w2) := B1.out.trans (hb2.mono B1.out.size)
      have hz2 := hb2.size
      obtain ⟨z1, z2, z3, zf⟩ := cells3 (kept QA2.out (by omega) hb2)
      go_wp2
      refine bodyPost_ret (v := .agg #[.bool false, .slice none 0 0, .slice none 0 0]) (by simp [results, Tryz.results37, go_sem, z1, z2, z3]) rfl ?_
      refine ⟨_, rfl, ?_, set3k B2.out (by omega) _ _ _⟩
      rw [← HRES.out, MS.out, MP.out]
      exact stAt_zero _
    | true =>
      rw [hmp] at KP
      have HKP := hid KP
      have MP := hid hmp
      clear KP hmp
      go_wp2_with (go_at_call 53; refine stopHere ?_)
      refine stopAt ?_
      refine HKP.out.mono ?_
      rintro e w2 ⟨rfl, hb2⟩
      clear x1 x2 x3 y1 y2 y3 y4
      have B2 : Hid (Below w.heap.size w w2) := B1.out.trans (hb2.mono B1.out.size)
      have hz2 := hb2.size
      have RA1 := hid (kept QA1.out (by omega) hb2)
      have RA3 := hid (kept QA3.out (by omega) hb2)
      have RA4 := hid (kept QA4.out (by omega) hb2)
      have RA2 := hid (kept QA2.out (by omega) hb2)
      clear hb2
      obtain ⟨x1, x2, x3, _⟩ := cells3 RA1.out
      have KC := scopy_any w2 _ s (TS.out.bel B2.out |> fun h => by rw [← HDD.out] at h; exact h) HK.out
      rw [HDD.out] at KC
      have HKC := hid KC
      clear KC
      go_wp2_with (go_at_call 61; refine stopHere ?_)
      refine stopAt ?_
      refine HKC.out.mono ?_
      rintro e w3 ⟨vb, vl, B, L, N, rfl, hbv, hbl, hown, hb3⟩
      clear x1 x2 x3 HKC
      obtain ⟨qb, mb, rfl⟩ := RowK.form hown.rb
      obtain ⟨ql, ml, rfl⟩ := RowK.form hown.rl
      have HBV := hid hbv
      have HBL := hid hbl
      have B3 : Hid (Below w.heap.size w w3) := B2.out.trans (hb3.mono B2.out.size)
      have hz3 := hb3.size
      have OW := hid hown
      have SA1 := hid (kept RA1.out (by omega) hb3)
      have SA3 := hid (kept RA3.out (by omega) hb3)
      have SA4 := hid (kept RA4.out (by omega) hb3)
      have SA2 := hid (kept RA2.out (by omega) hb3)
      clear hbv hbl hown hb3
      obtain ⟨x1, x2, x3, xf⟩ := cells3 SA1.out
      have HM := hid ((M.maySt_iff s).1 MS.out)
      cases dd with
      | true =>
        have TA1 := hid (box3_put SA1.out (.bool true) (.slice qb B.length mb) (.slice ql L.length ml))
        have TA2 := hid ((blk3 (w := w3) (g := w.heap.size) (k := w.heap.size + 3) (by omega) (.bool true) (.slice qb B.length mb) (.slice ql L.length ml)).trans SA2.out)
        obtain ⟨y1, y2, y3, yf⟩ := cells3 TA1.out
        obtain ⟨z1, z2, z3, zf⟩ := cells3 TA2.out
        go_wp2
        refine bodyPost_ret (v := .agg #[.bool true, .slice qb B.length mb, .slice ql L.length ml]) (by simp [results, Tryz.results37, go_sem, z1, z2, z3, y1, y2, y3]) rfl ?_
        refine ⟨_, rfl, ?_, set3k (set3k B3.out (by omega) _ _ _) (by omega) _ _ _⟩
        have hfr : StFr w2.heap.size w3 (.agg #[.bool true, .slice qb B.length mb, .slice ql L.length ml]) ⟨true, bndOf B, lclOf L⟩ := OW.out.fr
        have hs : (⟨true, bndOf B, lclOf L⟩ : M.Sta) = res := by
          rw [← HRES.out, MS.out, MP.out, HBV.out, HBL.out]
          show _ = M.putS s x o
          unfold M.putS
          rw [HDD.out, if_pos rfl]
          have := HDD.out
          obtain ⟨d0, v0, l0⟩ := s
          simp only at this
          rw [this]
        rw [hs] at hfr
        exact (((((((hfr.set (by omega)).set (by omega)).set (by omega)).set (g := w.heap.size + 3) (by omega)).set (g := w.heap.size + 3) (by omega)).set (g := w.heap.size + 3) (by omega)).mono (by omega))
      | false =>
        have TA1 := hid (box3_put SA1.out (.bool false) (.slice qb B.length mb) (.slice ql L.length ml))
        have TA3 := hid ((blk3 (w := w3) (g := w.heap.size) (k := w.heap.size + 1) (by omega) (.bool false) (.slice qb B.length mb) (.slice ql L.length ml)).trans SA3.out)
        have TA4 := hid ((blk3 (w := w3) (g := w.heap.size) (k := w.heap.size + 2) (by omega) (.bool false) (.slice qb B.length mb) (.slice ql L.length ml)).trans SA4.out)
        have TA2 := hid ((blk3 (w := w3) (g := w.heap.size) (k := w.heap.size + 3) (by omega) (.bool false) (.slice qb B.length mb) (.slice ql L.length ml)).trans SA2.out)
        have OW4 : Hid (OwnSt w2.heap.size N _ _ _ B L) := ((OW.out.other (g := w.heap.size) (p := 0) (u := .bool false) (by omega)).other (g := w.heap.size) (p := 1) (u := .slice qb B.length mb) (by omega)).other (g := w.heap.size) (p := 2) (u := .slice ql L.length ml) (by omega)
        have B4 := hid (set3k B3.out (g := w.heap.size) (by omega) (.bool false) (.slice qb B.length mb) (.slice ql L.length ml))
        have hz4 := size3 (w := w3) (g := w.heap.size) (.bool false) (.slice qb B.length mb) (.slice ql L.length ml)
        obtain ⟨y1, y2, y3, yf⟩ := cells3 TA1.out
        obtain ⟨y4, y5, _⟩ := cells2 TA3.out
        obtain ⟨y6, y7, _⟩ := cells2 TA4.out
        go_wp2_with fail
        generalize hW4 : ((w3.setCell ⟨w.heap.size, 0, none⟩ (.bool false)).setCell ⟨w.heap.size, 1, none⟩ (.slice qb B.length mb)).setCell ⟨w.heap.size, 2, none⟩ (.slice ql L.length ml) = W4 at *
        have hz5 : w.heap.size + 4 ≤ W4.heap.size := by omega
        clear hW4 x1 x2 x3 xf
        have KN : Hid (∀ W, Below W4.heap.size W4 W → Calls Tryz.prog 57 #[.agg #[.slice a5 o.fs.length c5, .slice b5 o.pr.length d5]] W fun e w' => ∃ v', e = .returned v' ∧ ShFr W.heap.size w' v' o ∧ Below W.heap.size W w') := fun W hb => scopied_any W _ o ((TA.out.bel B4.out).bel hb) HO.out
        have KT : Hid (∀ W f5 n5 p5 m5, Below W4.heap.size W4 W → Calls Tryz.prog 62 #[.slice ql L.length ml, .agg #[.int .i64 x.k, .int .i64 x.n, .slice f5 o.fs.length n5, .slice p5 o.pr.length m5], fnByA] W fun e w' => ∃ v' B', e = .returned v' ∧ RowK 36 4 lc w2.heap.size w' v' B' ∧ lclOf B' = M.putK M.keyA x o (lclOf L) ∧ (∀ y ∈ B', y ∈ L ∨ y = ⟨x, o, f5, n5, p5, m5⟩) ∧ OffG (Value.slice ql L.length ml).ownBlock W w' ∧ Below w2.heap.size W w') := fun W f5 n5 p5 m5 hb =>
          putL_any W w2.heap.size _ L ⟨x, o, f5, n5, p5, m5⟩ (OW4.out.keep hb).rl (OW4.out.keep hb).ls (by have := hb.size; omega) (by have h1 := congrArg List.length HBL.out; rw [lclOf_len] at h1; have := HK.out.ll; omega) (by rw [HBL.out]; exact HM.out.lr)
        unfold fnByA at KT
        have hwW4 : w.heap.size < W4.heap.size := by omega
        have hwW5 : w.heap.size + 1 < W4.heap.size := by omega
        have hwW6 : w.heap.size + 2 < W4.heap.size := by omega
        go_region_law (first
          | (go_simp; go_at_call 57; refine (KN.out _ (Gr.refl W4).drew.below).mono ?_; rintro e w6 ⟨v6, rfl, hA6, hb6⟩; obtain ⟨f6, n6, p6, m6, rfl⟩ := ShAt.form (ShFr.at hA6); obtain ⟨z1, z2, z3, zf⟩ := cells3 (kept TA1.out hwW4 ((Gr.refl W4).drew.below.trans hb6)); obtain ⟨z4, z5, _⟩ := cells2 (kept TA3.out hwW5 ((Gr.refl W4).drew.below.trans hb6)))
          | (go_simp; go_at_call 62; refine (KT.out _ _ _ _ _ ((Gr.refl W4).drew.below.trans hb6)).mono ?_; rintro e w7 ⟨v7, B', rfl, hr7, hb7', hm7, ho7, hb7⟩; obtain ⟨q7, m7, rfl⟩ := RowK.form hr7; obtain ⟨u1, u2, u3, uf⟩ := cells3 (kept TA1.out (by omega) (((Gr.refl W4).drew.below.mono (by omega)).trans ((hb6.mono (by have : W4.drew.heap.size = W4.heap.size := rfl; omega)).trans hb7)))))
        all_goals
          have hbb : Below W4.heap.size W4 w6 := (Gr.refl W4).drew.below.trans hb6
          have hb67 : Below w2.heap.size W4 w7 := (hbb.mono (by omega)).trans hb7
          have hx6 : OneL (hole (oldB N) w6) ⟨x, o, f6, n6, p6, m6⟩ := ⟨hx, ShFr.mono hA6 (by
            have h1 : W4.drew.heap.size = W4.heap.size := rfl
            have h2 := OW4.out.sz
            omega)⟩
          have hfr : StFr w2.heap.size w7 (.agg #[.bool false, .slice qb B.length mb, .slice q7 B'.length m7]) ⟨false, bndOf B, lclOf B'⟩ := (OW4.out.keep hbb).putL hx6 hr7 hm7 ho7
          have UA1 := hid (box_put (p := 2) (kept TA1.out (by omega) hb67) (.slice q7 B'.length m7))
          have UA2 := hid ((set_blk w7 w.heap.size 2 (.slice q7 B'.length m7) (w.heap.size + 3) (by omega)).trans (kept TA2.out (by omega) hb67))
          have B7 := hid ((B4.out.trans (hb67.mono (by omega))).setCell (p := ⟨w.heap.size, 2, none⟩) (show w.heap.size ≤ w.heap.size from Nat.le_refl _) (.slice q7 B'.length m7))
          have F7 := hid (hfr.set (g := w.heap.size) (p := 2) (u := .slice q7 B'.length m7) (by omega))
          have hs : (⟨false, bndOf B, lclOf B'⟩ : M.Sta) = res := by
            rw [← HRES.out, MS.out, MP.out, hb7', HBV.out, HBL.out]
            show _ = M.putS s x o
            unfold M.putS
            rw [HDD.out]
            rfl
          have hz7 := hb67.size
          have hzS : (w7.setCell ⟨w.heap.size, 2, none⟩ (.slice q7 B'.length m7)).heap.size = w7.heap.size := by simp [World.setCell]
          rw [hs] at F7
          have HR7 := hid hr7
          clear hr7 hb7' hm7 ho7 hb7 hfr hx6 hA6 hb6 hbb hb67 hs z1 z2 z3 zf u1 u2 u3 uf y1 y2 y3 yf z4 z5 y4 y5 y6 y7
          generalize w7.setCell ⟨w.heap.size, 2, none⟩ (.slice q7 B'.length m7) = W8 at *
          obtain ⟨y1, y2, y3, yf⟩ := cells3 UA1.out
          obtain ⟨z1, z2, z3, zf⟩ := cells3 UA2.out
          go_wp2
          refine bodyPost_ret (v := .agg #[.bool false, .slice qb B.length mb, .slice q7 B'.length m7]) (by simp [results, Tryz.results37, go_sem, z1, z2, z3, y1, y2, y3]) rfl ?_
          refine ⟨_, rfl, ?_, set3k B7.out (by omega) _ _ _⟩
          exact ((((F7.out.set (g := w.heap.size + 3) (by omega)).set (g := w.heap.size + 3) (by omega)).set (g := w.heap.size + 3) (by omega)).mono (by omega))
end Go.Proofs.YtbaaeobdjiglgaaGreat
