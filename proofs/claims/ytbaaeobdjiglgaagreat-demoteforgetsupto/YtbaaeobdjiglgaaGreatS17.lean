/-
  The walk of the document's Rename of shapes. Conditions: shapes of at most 100000 fields of as many atoms.
-/
import Derived.Test.YtbaaeobdjiglgaaGreatR4
import Derived.Test.YtbaaeobdjiglgaaGreatS16
import Derived.Test.YtbaaeobdjiglgaaGreatBx
set_option linter.unusedVariables false
set_option linter.unusedSimpArgs false
namespace Go.Proofs.YtbaaeobdjiglgaaGreat
open Go.RowKit Go.Sort

/-- a field of a row whose atoms lie elsewhere -/
def OffOne (w : World) (v : Value) (x : Cel) : Prop := OneAt w x ∧ (x.f.vs ≠ [] → ∀ b o s, x.a = some ⟨b, o, s⟩ → some b ≠ v.ownBlock)
theorem OffOne.bel {w w' : World} {v : Value} {x : Cel} (h : OffOne w v x) (hb : Below w.heap.size w w') : OffOne w' v x := ⟨h.1.bel hb, h.2⟩
theorem OffOne.set {w : World} {x : Cel} {g p n m : Nat} {q : Option Addr} {u u0 : Value} (h : OffOne w (.slice q n m) x) (hc : w.cell? ⟨g, p, none⟩ = some u0) (hi : NoInt u0) : OffOne (w.setCell ⟨g, p, none⟩ u) (.slice q n m) x := ⟨AtAt.setn h.1 hc hi, h.2⟩
theorem OffOne.grown {w w' : World} {v v' : Value} {x : Cel} (h : OffOne w v x) (hg : w.grownBy w' v.ownBlock) (hat : v'.ownBlock = v.ownBlock ∨ v'.ownBlock = some w.heap.size) : OffOne w' v' x := by
  by_cases hv : x.f.vs = []
  · refine ⟨?_, fun h => absurd hv h⟩
    obtain ⟨h0, a, c, e, _⟩ := h.1
    exact ⟨h0, a, c, e, .inl hv⟩
  · obtain ⟨h0, a, c, e, h1⟩ := h.1
    rcases h1 with h1 | ⟨b, o, ha, hlt, hr, hc⟩
    · exact absurd h1 hv
    · have ea : x.a = some ⟨b, o, none⟩ := by
        have e' : Value.slice x.a x.f.vs.length x.c = .slice a x.f.vs.length c := e
        simp only [Value.slice.injEq] at e'
        rw [e'.1, ha]
      have hne := h.2 hv b o none ea
      have hb := hg.block b hlt hne
      refine ⟨⟨h0, a, c, e, .inr ⟨b, o, ha, Nat.lt_of_lt_of_le hlt hg.size, hr, fun i hi => ?_⟩⟩, fun _ b' o' s' e' => ?_⟩
      · rw [World.cell?_of_block (w := w) (a := ⟨b, o + i * 2, none⟩) hb, World.cell?_of_block (w := w) (a := ⟨b, o + i * 2 + 1, none⟩) hb]
        exact hc i hi
      · rw [ea] at e'
        simp only [Option.some.injEq, Addr.mk.injEq] at e'
        obtain ⟨rfl, _, _⟩ := e'
        rcases hat with h | h
        · rw [h]; exact hne
        · rw [h]; intro h'; have := Option.some.inj h'; omega
theorem AtAt.low {w w' : World} {v : Value} {l : List M.Atm} {B : Nat} (h : AtAt w v l) (hk : l ≠ [] → ∀ b o s n c, v = .slice (some ⟨b, o, s⟩) n c → b < B) (hb : Below B w w') : AtAt w' v l := by
  obtain ⟨h0, a, cap, rfl, h1⟩ := h
  refine ⟨h0, a, cap, rfl, ?_⟩
  rcases h1 with h1 | ⟨b, o, rfl, hlt, hr, hc⟩
  · exact .inl h1
  · by_cases hn : l = []
    · exact .inl hn
    · have hB := hk hn b o none _ _ rfl
      refine .inr ⟨b, o, rfl, Nat.lt_of_lt_of_le hlt hb.size, hr, fun i hi => ?_⟩
      rw [hb.cell (p := ⟨b, o + i * 2, none⟩) hB, hb.cell (p := ⟨b, o + i * 2 + 1, none⟩) hB]
      exact hc i hi
theorem AtAt.inBlk {w : World} {v : Value} {l : List M.Atm} (h : AtAt w v l) : l ≠ [] → ∀ b o s n c, v = .slice (some ⟨b, o, s⟩) n c → b < w.heap.size := fun hn b o s n c e => by
  obtain ⟨h0, a, cap, rfl, h1⟩ := h
  rcases h1 with h1 | ⟨b', o', rfl, hlt, hr, hc⟩
  · exact absurd h1 hn
  · simp only [Value.slice.injEq, Option.some.injEq, Addr.mk.injEq] at e
    obtain ⟨⟨rfl, _, _⟩, _, _⟩ := e
    exact hlt

set_option maxHeartbeats 4000000 in
set_option maxRecDepth 100000 in
theorem rrenameS_any (w : World) (va : Value) (s : M.Shp) (k : Int) (h1 : ShAt w va s) (K1 : M.Sm 100000 s) :
    Calls Tryz.prog 22 #[va, .int .i64 k] w fun e w' => ∃ v', e = .returned v' ∧ ShNew w.heap.size w' v' (if M.mayS s then M.renS s k else M.zeroS) ∧ Below w.heap.size w w' := by
  obtain ⟨i0, hi, hz0, hz1', hz2⟩ := info_parts infoField
  have mixed := mixedP
  obtain ⟨res, hres⟩ : ∃ r, (if M.mayS s then M.renS s k else M.zeroS) = r := ⟨_, rfl⟩
  rw [hres]
  have T1 := hid h1
  obtain ⟨R, a, c, b, d, hs, rfl, hR, hP⟩ := h1.open
  obtain ⟨n1, v1, p1⟩ := sm_fs K1 hs
  have HF : Hid (s.fs = fldOf R) := hid (by rw [hs])
  have HK1 := hid K1
  have HR := hid hR
  have HV1 := hid v1
  obtain ⟨sp, hsp⟩ : ∃ x, s.pr = x := ⟨_, rfl⟩
  have HSP := hid hsp
  rw [hsp] at hP p1 T1 ⊢
  have HP := hid hP
  have HRES := hid hres
  clear h1 hs hR hP K1 v1 hres hsp
  obtain ⟨A1, hA1⟩ : ∃ o, (.cells #[.slice a R.length c, .slice b sp.length d] 31 : Obj) = o := ⟨_, rfl⟩
  obtain ⟨A2, hA2⟩ : ∃ o, (.cells #[.slice none 0 0, .slice none 0 0] 31 : Obj) = o := ⟨_, rfl⟩
  obtain ⟨W0, hW0⟩ : ∃ W0, (w.alloc A1).alloc A2 = W0 := ⟨_, rfl⟩
  have b1 := (gr_new w A1).below
  have b2 := (gr_new (w.alloc A1) A2).below
  have p3 : W0.heap[w.heap.size]? = some A1 := by rw [← hW0]; exact kept (B := (w.alloc A1).heap.size) (new_at w A1) (by simp) b2
  have p4 : W0.heap[w.heap.size + 1]? = some A2 := by
    rw [← hW0]
    have := new_at (w.alloc A1) A2
    rw [World.size_alloc] at this
    exact this
  have hz : w.heap.size + 2 ≤ W0.heap.size := by rw [← hW0]; simp
  have B0 : Hid (Below w.heap.size w W0) := by unfold Hid; rw [← hW0]; exact b1.trans (b2.mono b1.size)
  rw [← hA1] at p3
  rw [← hA2] at p4
  subst hA1 hA2
  have P1 := hid p3
  have P2 := hid p4
  obtain ⟨x1, x2, _⟩ := cells2 p3
  clear b1 b2 p3 p4
  have KA := rmayS_any W0 _ s (T1.out.bel B0.out) HK1.out
  cases ms : M.mayS s with
  | false =>
    rw [ms] at KA
    have HKA := hid KA
    have MS := hid ms
    clear KA ms
    go_enter Tryz.func22, Tryz.ntmps22
    go_wp2_with (go_at_call 16; refine stopHere ?_)
    refine stopAt ?_
    refine HKA.out.mono ?_
    rintro e w1 ⟨rfl, hb1⟩
    clear hW0 x1 x2
    obtain ⟨z0, z1, zf⟩ := cells2 (kept P2.out (by omega) hb1)
    go_wp2
    refine bodyPost_ret (v := .agg #[.slice none 0 0, .slice none 0 0]) (by simp [results, Tryz.results22, go_sem, z0, z1]) rfl ?_
    rw [← HRES.out, MS.out]
    exact ⟨_, rfl, ShNew.zero _ _, set2b (B0.out.trans (hb1.mono B0.out.size)) (by omega) _ _⟩
  | true =>
    rw [ms] at KA
    have HKA := hid KA
    have MS := hid ms
    clear KA ms
    go_enter Tryz.func22, Tryz.ntmps22
    go_wp2_with (go_at_call 16; refine stopHere ?_)
    refine stopAt ?_
    refine HKA.out.mono ?_
    rintro e w1 ⟨rfl, hb1⟩
    have B1 : Hid (Below w.heap.size w w1) := B0.out.trans (hb1.mono B0.out.size)
    have hz1 : w.heap.size + 2 ≤ w1.heap.size := Nat.le_trans hz hb1.size
    have Q1 := hid (kept P1.out (by omega) hb1)
    have Q2 := hid (kept P2.out (by omega) hb1)
    clear hW0 x1 x2 hb1
    obtain ⟨x1, x2, _⟩ := cells2 Q1.out
    have KC := hid (rrename_any w1 _ sp k (HP.out.bel B1.out) (by omega))
    go_wp2_with (go_at_call 38; refine stopHere ?_)
    refine stopAt ?_
    refine KC.out.mono ?_
    rintro e w2 ⟨v2, rfl, hA2, hb2⟩
    clear x1 x2 KC
    have A2 := hid hA2
    obtain ⟨q2, m2, rfl⟩ := hA2.form
    have B2 := hid hb2
    have hz2' : w1.heap.size ≤ w2.heap.size := hb2.size
    obtain ⟨W2, hW2⟩ : ∃ W, w2.alloc (.cells #[.slice none 0 0, .slice q2 (M.rename sp k).length m2] 31) = W := ⟨_, rfl⟩
    have bW2 : Below w2.heap.size w2 W2 := by rw [← hW2]; exact (gr_new _ _).below
    have zW2 : W2.heap.size = w2.heap.size + 1 := by rw [← hW2]; simp
    have RS := hid (RowF.nil W2 (w2.heap.size + 1))
    have BX : Hid (W2.heap[w2.heap.size]? = some (.cells #[.slice none 0 0, .slice q2 (M.rename sp k).length m2] 31 (0, 0))) := by unfold Hid; rw [← hW2]; exact new_at _ _
    have AN2 : Hid (M.rename sp k ≠ [] → ∀ b o s n c, (Value.slice q2 (M.rename sp k).length m2) = .slice (some ⟨b, o, s⟩) n c → b < w2.heap.size + 1) := fun h b o s n c e => Nat.lt_succ_of_lt (AtAt.inBlk A2.out h b o s n c e)
    have BN := hid (B2.out.trans (bW2.mono B2.out.size))
    have HZ2 : Hid (w2.heap.size + 1 ≤ W2.heap.size) := by unfold Hid; omega
    have AN := hid (A2.out.bel bW2)
    obtain ⟨y0, y1, _⟩ := cells2 BX.out
    clear hA2 hb2 bW2 zW2
    go_wp2
    clear hW2 y0 y1
    go_loopw [6] (fun i w' => ∃ (j : Nat) (acc : List Cel) (qo : Option Addr) (mo : Nat), j ≤ R.length ∧ i = .int .i64 j ∧ Hid (acc.length = j) ∧ Hid (fldOf acc = ((fldOf R).take j).map (M.renF k)) ∧ Hid (RowF (w2.heap.size + 1) w' (.slice qo acc.length mo) acc) ∧ Hid (∀ x ∈ acc, OffOne w' (.slice qo acc.length mo) x) ∧ Hid (w'.heap[w2.heap.size]? = some (.cells #[.slice qo acc.length mo, .slice q2 (M.rename sp k).length m2] 31 (0, 0))) ∧ Hid (AtAt w' (.slice q2 (M.rename sp k).length m2) (M.rename sp k)) ∧ Hid (Below w1.heap.size w1 w') ∧ Hid (w2.heap.size + 1 ≤ w'.heap.size)) (fun i _ => R.length - (intOf i).toNat)
    case atStart => exact ⟨0, [], none, 0, Nat.zero_le _, rfl, rfl, rfl, RS, (fun x hx => by cases hx), BX, AN, BN, HZ2⟩
    case round =>
      clear RS BX AN BN HZ2
      obtain ⟨j, acc, qo, mo, hj, rfl, hlen, hfl, hrow, hone, hbox, hat, hbel, hsz⟩ := hrel
      by_cases hjl : j < R.length
      · obtain ⟨bb, o, rfl, hlt, hc⟩ := Rs_some HR.out hjl
        have HT0 := hc j hjl
        have HX0 := HR.out.1 _ (List.getElem_mem hjl)
        have hxl := HV1.out _ (List.getElem_mem hjl)
        have hxf : (fldOf R)[j]'(by rw [fldOf_len]; exact hjl) = R[j].f := fldOf_get R j hjl
        obtain ⟨⟨⟨xn, xs, xv⟩, xa, xc⟩, hx⟩ : ∃ x, R[j] = x := ⟨_, rfl⟩
        rw [hx] at HT0 HX0 hxl hxf
        have HXF := hid hxf
        have bwr : Below w.heap.size w wr := B1.out.trans (hbel.out.mono B1.out.size)
        have HA : AtAt wr (.slice xa xv.length xc) xv := (show AtAt w (.slice xa xv.length xc) xv from HX0).bel bwr
        obtain ⟨c1, c2, c3⟩ := HT0.bel hlt bwr
        obtain ⟨x1, x2, _⟩ := cells2 (kept Q1.out (by omega) hbel.out)
        obtain ⟨W1, hW1⟩ : ∃ W1, wr.alloc (.cells #[.string xn, .bool xs, .slice xa xv.length xc] 49) = W1 := ⟨_, rfl⟩
        have hB1 : Below wr.heap.size wr W1 := by rw [← hW1]; exact (gr_new _ _).below
        have hF1 : W1.heap[wr.heap.size]? = some (.cells #[.string xn, .bool xs, .slice xa xv.length xc] 49 (0, 0)) := by rw [← hW1]; exact new_at _ _
        have hF1l : wr.heap.size < W1.heap.size := by rw [← hW1]; simp
        have FB := hid hF1
        obtain ⟨u1, u2, u3, uf⟩ := cells3 hF1
        have HK2 := hid (rrename_new W1 _ xv k (HA.bel hB1) (by simpa using hxl))
        have BW1 := hid hB1
        clear hx hxl hxf HT0 HX0 HA hF1 hc hB1
        go_wp2_with (go_at_call 38; refine stopHere ?_)
        refine stopAt ?_
        refine HK2.out.mono ?_
        rintro e w3 ⟨v3, rfl, hA3, hb3, hk3⟩
        obtain ⟨q3, m3, rfl⟩ := hA3.form
        have A3 := hid hA3
        have F3 := hid (kept FB.out hF1l hb3)
        have BW3 : Hid (Below wr.heap.size wr w3) := BW1.out.trans (hb3.mono BW1.out.size)
        clear hA3 hb3 hW1 c1 c2 c3 u1 u2 u3 uf x1 x2
        obtain ⟨u1, u2, u3, uf⟩ := cells3 F3.out
        obtain ⟨o1, o2, _⟩ := cells2 (kept hbox.out (by have := hsz.out; omega) BW3.out)
        obtain ⟨Y, hY⟩ : ∃ Y : Cel, Y = ⟨⟨xn, xs, M.rename xv k⟩, q3, m3⟩ := ⟨_, rfl⟩
        have bS : Below wr.heap.size wr (w3.setCell ⟨wr.heap.size, 2, none⟩ (.slice q3 (M.rename xv k).length m3)) := BW3.out.setCell (p := ⟨wr.heap.size, 2, none⟩) (Nat.le_refl _) _
        have zS : (w3.setCell ⟨wr.heap.size, 2, none⟩ (.slice q3 (M.rename xv k).length m3)).heap.size = w3.heap.size := by simp [World.setCell]
        have bG := (gr_new (w3.setCell ⟨wr.heap.size, 2, none⟩ (.slice q3 (M.rename xv k).length m3)) (.cells #[.string xn, .bool xs, .slice q3 (M.rename xv k).length m3] 49)).below
        have bX3 : Below wr.heap.size wr ((w3.setCell ⟨wr.heap.size, 2, none⟩ (.slice q3 (M.rename xv k).length m3)).alloc (.cells #[.string xn, .bool xs, .slice q3 (M.rename xv k).length m3] 49)) := bS.trans (bG.mono bS.size)
        have hrw := hrow.out.keep bX3
        have hsx : w2.heap.size + 1 ≤ ((w3.setCell ⟨wr.heap.size, 2, none⟩ (.slice q3 (M.rename xv k).length m3)).alloc (.cells #[.string xn, .bool xs, .slice q3 (M.rename xv k).length m3] 49)).heap.size := Nat.le_trans hsz.out bX3.size
        have hnews : ∀ j u, (fc ⟨⟨xn, xs, M.rename xv k⟩, q3, m3⟩)[j]? = some u → ((w3.setCell ⟨wr.heap.size, 2, none⟩ (.slice q3 (M.rename xv k).length m3)).alloc (.cells #[.string xn, .bool xs, .slice q3 (M.rename xv k).length m3] 49)).cell? ((⟨w3.heap.size, 0, none⟩ : Addr).add j) = some u := by
          have h := new_fc (w3.setCell ⟨wr.heap.size, 2, none⟩ (.slice q3 (M.rename xv k).length m3)) ⟨⟨xn, xs, M.rename xv k⟩, q3, m3⟩ 49
          rw [zS] at h
          exact h
        have hYA : OffOne ((w3.setCell ⟨wr.heap.size, 2, none⟩ (.slice q3 (M.rename xv k).length m3)).alloc (.cells #[.string xn, .bool xs, .slice q3 (M.rename xv k).length m3] 49)) (.slice qo acc.length mo) ⟨⟨xn, xs, M.rename xv k⟩, q3, m3⟩ := by
          refine ⟨?_, fun _ b' o' s' e' he => ?_⟩
          · exact AtAt.bel (show AtAt (w3.setCell ⟨wr.heap.size, 2, none⟩ (.slice q3 (M.rename xv k).length m3)) (.slice q3 (M.rename xv k).length m3) (M.rename xv k) from A3.out.setn u3 (noInt_v _ _ _)) bG
          · have e2 : q3 = some ⟨b', o', s'⟩ := e'
            have h1 := hk3 b' (by rw [e2]; rfl)
            have h2 := (hrow.out.lt b' he.symm).2
            have h4 := BW1.out.size
            omega
        have hall : ∀ x ∈ acc, OffOne ((w3.setCell ⟨wr.heap.size, 2, none⟩ (.slice q3 (M.rename xv k).length m3)).alloc (.cells #[.string xn, .bool xs, .slice q3 (M.rename xv k).length m3] 49)) (.slice qo acc.length mo) x := fun x hx => (hone.out x hx).bel bX3
        have HYA := hid hYA
        have HALL := hid hall
        have OX := hid (kept hbox.out (by have := hsz.out; omega) bX3)
        have PX := hid (hat.out.bel bX3)
        have BX1 := hid (hbel.out.trans (bX3.mono hbel.out.size))
        have hlen2 : acc.length ≤ 100000 := by have := hlen.out; omega
        clear bS zS bG bX3 hk3 hYA hall hone hbox hat hbel
        go_wp2_with (at_builtin; refine wpList_append_own_at _ rfl _ _ 28 rfl (w2.heap.size + 1) 49 i0 (.agg #[.string ⟨#[]⟩, .bool false, .slice none 0 0]) 3 48 Tryz.underlying28 hi hz0 hz1' hz2 rfl (by decide) (.slice qo acc.length mo) acc.length (acc.flatMap fc) rfl hrw ⟨w3.heap.size, 0, none⟩ 1 1 (fc ⟨⟨xn, xs, M.rename xv k⟩, q3, m3⟩) rfl rfl hnews (fc_one1 ⟨⟨xn, xs, M.rename xv k⟩, q3, m3⟩) (by unfold maxLen; omega) (by omega) hsx ?_; intro v9 w9 hown hgrow _ hat9; refine stopHere ?_)
        refine stopAt ?_
        have b9 : Below (w2.heap.size + 1) ((w3.setCell ⟨wr.heap.size, 2, none⟩ (.slice q3 (M.rename xv k).length m3)).alloc (.cells #[.string xn, .bool xs, .slice q3 (M.rename xv k).length m3] 49)) w9 := (Below.refl _ _).grown hgrow hsx hrw.blk
        have hown2 := RowF.snoc (x := ⟨⟨xn, xs, M.rename xv k⟩, q3, m3⟩) hown
        have A9 : ∀ x ∈ acc ++ [(⟨⟨xn, xs, M.rename xv k⟩, q3, m3⟩ : Cel)], OffOne w9 v9 x := fun x hx => by
          rcases List.mem_append.1 hx with hx | hx
          · exact (HALL.out x hx).grown hgrow hat9
          · rw [List.mem_singleton.1 hx]; exact HYA.out.grown hgrow hat9
        have O9 := hid (kept OX.out (Nat.lt_succ_self _) b9)
        have P9 : Hid (AtAt w9 (.slice q2 (M.rename sp k).length m2) (M.rename sp k)) := AtAt.low PX.out AN2.out b9
        have B9 : Hid (Below w1.heap.size w1 w9) := BX1.out.trans (b9.mono (by have := B2.out.size; omega))
        have Z9 : Hid (w2.heap.size + 1 ≤ w9.heap.size) := Nat.le_trans hsx b9.size
        obtain ⟨acc9, hacc9⟩ : ∃ l, acc ++ [(⟨⟨xn, xs, M.rename xv k⟩, q3, m3⟩ : Cel)] = l := ⟨_, rfl⟩
        have HA9 := hid hacc9
        rw [hacc9] at hown2 A9
        obtain ⟨q9, m9, rfl⟩ := hown2.form
        have R9 := hid hown2
        have A9 := hid A9
        have HL9 : Hid (acc9.length = j + 1) := by unfold Hid; rw [← HA9.out, List.length_append, hlen.out]; rfl
        have HF9 : Hid (fldOf acc9 = ((fldOf R).take (j + 1)).map (M.renF k)) := by
          unfold Hid
          rw [← HA9.out, fldOf_snoc, hfl.out, List.take_succ_eq_append_getElem (show j < (fldOf R).length by rw [fldOf_len]; exact hjl), List.map_append, HXF.out]
          rfl
        clear hown hown2 hgrow hat9 hrw hsx hnews hacc9 u1 u2 u3 uf o1 o2 b9 hY Y
        obtain ⟨o1, o2, of⟩ := cells2 O9.out
        go_wp2
        have hbase : w2.heap.size < w2.heap.size + 1 := Nat.lt_succ_self _
        have hpv : Below w1.heap.size w1 (w9.setCell ⟨w2.heap.size, 0, none⟩ (.slice q9 acc9.length m9)) := B9.out.setCell (p := ⟨w2.heap.size, 0, none⟩) B2.out.size _
        exact ⟨⟨j + 1, acc9, q9, m9, by omega, by go_num, HL9, HF9, R9.out.other hbase, (fun x hx => (A9.out x hx).set o1 (noInt_v _ _ _)), box_put O9.out _, P9.out.setn o1 (noInt_v _ _ _), hpv, Nat.le_trans Z9.out (Nat.le_of_eq (by simp [World.setCell]))⟩, by simp [intOf]; omega⟩
      · have HFIN : Hid (fldOf acc = (fldOf R).map (M.renF k)) := by
          unfold Hid; rw [hfl.out, List.take_of_length_le (by rw [fldOf_len]; omega)]
        obtain ⟨x1, x2, _⟩ := cells2 (kept Q1.out (by omega) hbel.out)
        obtain ⟨o1, o2, of⟩ := cells2 hbox.out
        obtain ⟨z0, z1, zf⟩ := cells2 (kept Q2.out (by omega) hbel.out)
        go_wp2
        refine bodyPost_ret (v := .agg #[.slice qo acc.length mo, .slice q2 (M.rename sp k).length m2]) (by simp [results, Tryz.results22, go_sem, z0, z1]) rfl ?_
        rw [← HRES.out, MS.out]
        have B8 := B1.out.trans (hbel.out.mono B1.out.size)
        refine ⟨_, rfl, ?_, set2b B8 (by omega) _ _⟩
        have hsh : ShNew (w.heap.size + 2) wr (.agg #[.slice qo acc.length mo, .slice q2 (M.rename sp k).length m2]) (M.renS s k) :=
          ⟨_, _, rfl, ⟨acc, by rw [HFIN.out, ← HF.out]; rfl, hrow.out.mono (by have := B2.out.size; omega), fun x hx => (hone.out x hx).1⟩, by show AtAt _ _ (M.rename s.pr k); rw [HSP.out]; exact hat.out⟩
        exact (hsh.set2 (by omega) z0 z1 (noInt_v _ _ _) (noInt_v _ _ _)).mono (by omega)
end Go.Proofs.YtbaaeobdjiglgaaGreat
