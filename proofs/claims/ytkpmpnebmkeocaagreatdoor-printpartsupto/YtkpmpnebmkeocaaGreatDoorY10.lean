/-
  The walks of a layer's function and program. No conditions but that operands' numbers are some.
-/
import Derived.Test.YtkpmpnebmkeocaaGreatDoorY9
set_option linter.unusedVariables false
set_option linter.unusedSimpArgs false
namespace Go.Proofs.YtkpmpnebmkeocaaGreatDoor
open Go.RowKit

theorem own_set {w : World} {B e g n cap i : Nat} {xs : List Value} {u : Value} (h : w.ownsRow B e 1 (.slice (some ⟨g, 0, none⟩) n cap) n xs) (hi : i < n) : (w.setCell ⟨g, i, none⟩ u).ownsRow B e 1 (.slice (some ⟨g, 0, none⟩) n cap) n (xs.set i u) := by
  obtain ⟨h1, h2⟩ := h
  refine ⟨by simpa using h1, ?_⟩
  rcases h2 with ⟨h2, _⟩ | ⟨g', cap', cur, e1, hb, hh, hc, hm, hs, ht⟩
  · cases h2
  · simp only [Value.slice.injEq, Option.some.injEq, Addr.mk.injEq, and_true, true_and] at e1
    obtain ⟨rfl, rfl⟩ := e1
    refine .inr ⟨g, cap, cur.setIfInBounds i u, rfl, hb, ?_, hc, hm, by simpa using hs, ?_⟩
    · exact heap_setCell_same w g i cur e u hh
    · rw [← ht]
      simp [List.take_set]
theorem byC_last {b : List UInt8} (h : b ≠ []) : byC (b.dropLast ++ [10]) = (byC b).set (b.length - 1) (.int .u8 10) := by
  obtain ⟨c, x, rfl⟩ : ∃ c x, b = c ++ [x] := ⟨b.dropLast, b.getLast h, (List.dropLast_concat_getLast h).symm⟩
  rw [List.dropLast_concat, byC_app, byC_app]
  have e : (c ++ [x]).length - 1 = (byC c).length := by simp [byC_len]
  rw [e, List.set_append_right _ _ (Nat.le_refl _)]
  simp [byC]
theorem putsM_ne {s : Option (List UInt8)} {l : List ByteArray} {t : ByteArray} {b : List UInt8} (h : M.putsM s (l ++ [t]) = some b) : b ≠ [] := by
  rw [M.putsM_app] at h
  have h2 : M.putM (M.putsM s l) t = some b := h
  unfold M.putM at h2
  split at h2
  · cases h2
  · split at h2
    · cases h2; simp
    · cases h2
theorem items_eq (ps : List ByteArray) : restL (fun i => [ps.getD i M.em]) ps.length 0 = M.laidSeq (ps.map fun s => [s]) := by
  rw [range_laidSeq]
  congr 1
  apply List.ext_getElem
  · simp
  · intro i h1 h2
    simp only [List.length_map, List.length_range] at h1
    simp only [List.getElem_map, List.getElem_range]
    rw [getD_at h1]

set_option maxRecDepth 8000 in
set_option maxHeartbeats 4000000 in
theorem lfunction_any (B : Nat) (w : World) (X : Nat → Prop) (L : Nat) (s : Option (List UInt8)) (f : M.Fn) (vp vb : Value) (h : Lay B w X L s) (hp : StrsAt w (Hi B) vp f.ps) (hbd : StmAt w (Hi B) vb f.body) (hr : RngT f.body) :
    Calls Tryz.prog 58 #[.pointer (some ⟨L, 0, none⟩), .agg #[.string f.name, vp, vb]] w (LayE B X L w (M.layFn s f)) := by
  obtain ⟨nm, ps, body⟩ := f
  simp only at hp hbd hr
  obtain ⟨hlp, a2, cap2, rfl, _⟩ := id hp
  obtain ⟨a3, cap3, rfl⟩ := StmAt.form hbd
  have hb0 : Below w.heap.size w ((w.alloc (.cells #[.pointer (some ⟨L, 0, none⟩)] 51)).alloc (.cells #[.string nm, .slice a2 ps.length cap2, .slice a3 body.len cap3] 34)) := ((Below.refl _ w).alloc (Nat.le_refl _) _).alloc (by simp) _
  obtain ⟨bx, h0, _, hz⟩ := box2_new h (.cells #[.pointer (some ⟨L, 0, none⟩)] 51) (.cells #[.string nm, .slice a2 ps.length cap2, .slice a3 body.len cap3] 34) (fun w => StrsAt w (Hi B) (.slice a2 ps.length cap2) ps) (SlAt.keep hp (Below.keepX hb0))
  have bd0 : StmAt ((w.alloc (.cells #[.pointer (some ⟨L, 0, none⟩)] 51)).alloc (.cells #[.string nm, .slice a2 ps.length cap2, .slice a3 body.len cap3] 34)) (Hi B) (.slice a3 body.len cap3) body := hbd.keep (Below.keepX hb0)
  have HZ := hid hz
  have HS : Hid (Stays B (Box2 w.heap.size (w.heap.size + 1) (.cells #[.pointer (some ⟨L, 0, none⟩)] 51) (.cells #[.string nm, .slice a2 ps.length cap2, .slice a3 body.len cap3] 34) (fun w => StrsAt w (Hi B) (.slice a2 ps.length cap2) ps))) := Box2.stays (fun w w' h k => SlAt.keep h k)
  have HQ : Hid (M.putsM s (M.laidFn ⟨nm, ps, body⟩) = M.putsM (M.putsM (M.putsM (M.putsM s [M.kFun, nm, M.ch 40]) (restL (fun i => [ps.getD i M.em]) ps.length 0)) [M.ch 41]) (M.laidBlk (M.laidTr body))) := by
    unfold Hid
    rw [← M.putsM_app, ← M.putsM_app, ← M.putsM_app, items_eq]
    congr 1
  have HN : Hid (∀ b, M.putsM s (M.laidFn ⟨nm, ps, body⟩) = some b → b ≠ []) := by
    intro b hb
    refine putsM_ne (s := s) (l := M.kFun :: nm :: M.ch 40 :: (M.laidSeq (ps.map fun s => [s]) ++ M.ch 41 :: M.ch 123 :: M.laidTr body)) (t := M.ch 125) ?_
    rw [← hb]
    congr 1
    simp [M.laidFn, M.laidBlk]
  clear hz
  go_enter Tryz.func58, Tryz.ntmps58
  go_wp2_with (go_at_call 43; refine stopHere ?_)
  refine stopAt ?_
  refine (put_newAt B _ X L s [M.kFun, nm, M.ch 40] (w.heap.size + 1 + 1) HZ.out h0 (by simp)).mono ?_
  rintro e w1 ⟨rfl, X1, l1, t1, x1⟩
  have b1 := HS.out X X1 _ w1 bx t1 x1 (fun k hk => (h.far k hk).1)
  have bd1 := bd0.turn t1 (fun k hk => (h.far k hk).1)
  have e1 := cell0 b1.1.1
  obtain ⟨j0, j1, j2, jf, jz⟩ := cells3 b1.2.1.1
  go_wp2_with (go_at_call 74; refine stopHere ?_)
  refine stopAt ?_
  refine (llist_fun B L ps.length (.pointer (some ⟨w.heap.size, 0, none⟩)) (.pointer (some ⟨w.heap.size + 1, 0, none⟩)) (fun i => [ps.getD i M.em]) _ HS.out hlp (fun i X w s hi h hb => funItem_any B L _ _ nm _ _ ps i X w s hi h hb) X1 w1 _ l1 b1).mono ?_
  rintro e w2 ⟨rfl, X2, l2, t2, x2⟩
  have b2 := HS.out X1 X2 w1 w2 b1 t2 x2 (fun k hk => (l1.far k hk).1)
  have bd2 := bd1.turn t2 (fun k hk => (l1.far k hk).1)
  clear e1 j0 j1 j2 jf jz
  have e1 := cell0 b2.1.1
  go_wp2_with (go_at_call 43; refine stopHere ?_)
  refine stopAt ?_
  refine (put_new B w2 X2 L _ [M.ch 41] l2 (by simp)).mono ?_
  rintro e w3 ⟨rfl, X3, l3, t3, x3⟩
  have b3 := HS.out X2 X3 w2 w3 b2 t3 x3 (fun k hk => (l2.far k hk).1)
  have bd3 := bd2.turn t3 (fun k hk => (l2.far k hk).1)
  clear e1
  have e1 := cell0 b3.1.1
  obtain ⟨j0, j1, j2, jf, jz⟩ := cells3 b3.2.1.1
  go_wp2_with (go_at_call 64; refine stopHere ?_)
  refine stopAt ?_
  refine (lblockC B L body.sz w3 X3 _ _ body (Nat.le_refl _) hr l3 bd3).mono ?_
  rintro e w4 ⟨rfl, X4, l4, t4, x4⟩
  have b4 := HS.out X3 X4 w3 w4 b3 t4 x4 (fun k hk => (l3.far k hk).1)
  have HR : Hid (LayR B X L w (M.putsM s (M.laidFn ⟨nm, ps, body⟩)) w4) := by
    unfold Hid
    rw [HQ.out]
    exact LayR.new hb0 (LayR.next t1 x1 (LayR.next t2 x2 (LayR.next t3 x3 ⟨X4, l4, t4, x4⟩)))
  clear e1 j0 j1 j2 jf jz
  have e1 := cell0 b4.1.1
  have e1d : w4.drew.cell? ⟨w.heap.size, 0, none⟩ = some (.pointer (some ⟨L, 0, none⟩)) := e1
  rw [← HQ.out] at l4
  have HF : Hid (M.layFn s ⟨nm, ps, body⟩ = M.nlM (M.putsM s (M.laidFn ⟨nm, ps, body⟩))) := rfl
  generalize M.putsM s (M.laidFn ⟨nm, ps, body⟩) = s5 at l4 HR HF HN
  have hL := l4
  obtain ⟨hX, hf, tb, v, mw, mo, bs, z1, z2, z3, z6, z7, z8, z9⟩ := l4
  cases s5 with
  | none =>
    obtain ⟨va, vc, rfl⟩ := own_form z8
    simp only [Option.isNone_none] at z1
    obtain ⟨d0, d1, d2, d3, df, dz⟩ := cells4 z1
    go_wp2_with fail
    go_end0
    exact ⟨rfl, by rw [HF.out]; exact HR.out⟩
  | some b =>
    obtain rfl := z6 b rfl
    have hne := HN.out b rfl
    have hpos : 0 < b.length := List.length_pos_iff.2 hne
    simp only [Option.isNone_some] at z1
    obtain ⟨g, cap, rfl⟩ : ∃ g cap, v = .slice (some ⟨g, 0, none⟩) b.length cap := by
      rcases z8.2 with ⟨_, h0⟩ | ⟨g, cap, cur, e, _⟩
      · omega
      · exact ⟨g, cap, e⟩
    have hgX := z9 g rfl
    have z1d : w4.drew.heap[L]? = some (.cells #[.slice (some ⟨g, 0, none⟩) b.length cap, .bool false, .map (some mw), .map (some mo)] 59 (0, 0)) := z1
    obtain ⟨d0, d1, d2, d3, df, dz⟩ := cells4 z1
    obtain ⟨k0, k1, k2, k3, kf, kz⟩ := cells4 z1d
    have hfz : w4.drew.frozen? ⟨g, b.length - 1, none⟩ = false := by
      rcases z8.2 with ⟨_, h0⟩ | ⟨g', cap', cur, e, _, hh, _⟩
      · omega
      · simp only [Value.slice.injEq, Option.some.injEq, Addr.mk.injEq, and_true, true_and] at e
        obtain ⟨rfl, rfl⟩ := e
        exact Lib.frozen_of_heap (show w4.drew.heap[g]? = _ from hh) _
    obtain ⟨u, hcu⟩ : ∃ u, w4.drew.cell? ⟨g, b.length - 1, none⟩ = some u := by
      have := z8.cells (g := g) rfl (b.length - 1) ((byC b)[b.length - 1]'(by rw [byC_len]; omega)) (by simp)
      rw [add0] at this
      exact ⟨_, by simpa using this⟩
    have hb5 : b.length ≤ 65536 := z7
    have HM : Hid (LayR B X4 L w4 (some (b.dropLast ++ [10])) (w4.drew.setCell ⟨g, b.length - 1, none⟩ (.int .u8 10))) := by
      have hlen : (b.dropLast ++ [10]).length = b.length := by simp; omega
      refine Lay.moved hX hf tb z2 z3 (((Turn.refl _ _).drew).setCell (.inl hgX.1) _) (v' := .slice (some ⟨g, 0, none⟩) b.length cap) ?_ (by rw [hlen]; exact z7) ?_ (fun k e => ?_)
      · exact heap_set z1d (Ne.symm hgX.2)
      · rw [hlen, byC_last hne]
        exact own_set (w := w4.drew) z8 (by omega)
      · exact ⟨.inl (z9 k e).1, (z9 k e).2⟩
    go_wp2_with fail
    go_region
    all_goals
      go_wp2_with fail
      go_end0
      refine ⟨rfl, ?_⟩
      rw [HF.out]
      have HT := LayR.new hb0 (LayR.next t1 x1 (LayR.next t2 x2 (LayR.next t3 x3 (LayR.next t4 x4 HM.out))))
      exact HT
def RngP (p : List M.Fn) : Prop := ∀ f ∈ p, RngT f.body
set_option maxRecDepth 8000 in
set_option maxHeartbeats 4000000 in
theorem lprogram_any (B : Nat) (w : World) (X : Nat → Prop) (L : Nat) (s : Option (List UInt8)) (v : Value) (p : List M.Fn) (h : Lay B w X L s) (hv : ProgAt w (Hi B) v p) (hr : RngP p) :
    Calls Tryz.prog 33 #[.pointer (some ⟨L, 0, none⟩), .agg #[v]] w (LayE B X L w (M.layP s p)) := by
  obtain ⟨cs, hsl, hrow⟩ := hv
  obtain ⟨hl, a1, cap1, rfl, _⟩ := id hsl
  have hb0 : Below w.heap.size w (w.alloc (.cells #[.slice a1 p.length cap1] 24)) := (Below.refl _ w).alloc (Nat.le_refl _) _
  have h0 := h.keep hb0
  have sl0 := hsl.keep (Below.keepX hb0 (X := Hi B))
  have row0 := FnsAt.keep (Below.keepX hb0 (X := Hi B)) hrow
  have T0 : Turn X w (w.alloc (.cells #[.slice a1 p.length cap1] 24)) := .of_below hb0
  go_enter Tryz.func33, Tryz.ntmps33
  go_wp2_with fail
  go_loopw [9] (fun i wr => ∃ (j : Nat) (p' : List M.Fn) (s' : Option (List UInt8)) (X' : Nat → Prop), i = .int .i64 j ∧ j + p'.length = p.length ∧ RngP p' ∧ Lay B wr X' L s' ∧ (Turn X w wr ∧ ∀ k, X' k → X k ∨ w.heap.size ≤ k) ∧ SlAt wr (Hi B) (.slice a1 p.length cap1) p.length cs ∧ FnsAt wr (Hi B) (cs.drop (j * 3)) p' ∧ Hid (M.layP s p = M.layP s' p')) (fun i _ => p.length - (intOf i).toNat)
  case atStart => exact ⟨0, p, s, X, rfl, Nat.zero_add _, hr, h0, ⟨T0, fun k hk => .inl hk⟩, sl0, by simpa using row0, rfl⟩
  case round =>
    obtain ⟨j, p', s', X', rfl, hj, hrt', h', ⟨ht, hx⟩, sl', row', HP⟩ := hrel
    have hL := h'
    by_cases hjl : j < p.length
    · cases p' with
      | nil => simp only [List.length_nil] at hj; omega
      | cons f nx =>
        obtain ⟨vp1, vb1, rest1, e1, gP1, gB1, gN1⟩ := row'
        have rf := hrt' f (List.mem_cons_self ..)
        have rnx : RngP nx := fun g hg => hrt' g (List.mem_cons_of_mem _ hg)
        have g1 := sl'.2
        obtain ⟨a', cap', e', g1⟩ := g1
        simp only [Value.slice.injEq, true_and] at e'
        obtain ⟨rfl, rfl⟩ := e'
        rcases g1 with ⟨g1, _⟩ | ⟨b1, o1, rfl, hlt1, _, hc1⟩
        · omega
        obtain ⟨f0, f1, f2, fr⟩ := three_cells hc1 e1
        obtain ⟨q3, m3, rfl⟩ := SlAt.form gP1
        obtain ⟨q5, m5, rfl⟩ := StmAt.form gB1
        obtain ⟨hX, hf, tb, v, mw, mo, bs, z1, z2, z3, z6, z7, z8, z9⟩ := h'
        obtain ⟨va, vc, rfl⟩ := own_form z8
        obtain ⟨d0, d1, d2, d3, df, dz⟩ := cells4 z1
        have hji : (j : Int) < (p.length : Int) := by omega
        have hb8 : Below wr.heap.size wr (wr.alloc (.cells #[.string f.name, .slice q3 f.ps.length m3, .slice q5 f.body.len m5] 34)) := (Below.refl _ _).alloc (Nat.le_refl _) _
        have HJ : Hid (j + 1 + nx.length = p.length) := by unfold Hid; simp only [List.length_cons] at hj; omega
        have l8 := hL.keep hb8
        have gP8 := SlAt.keep gP1 (Below.keepX hb8)
        have gB8 := gB1.keep (Below.keepX hb8)
        have HB := hid hb8
        cases s' with
        | none =>
          simp only [Option.isNone_none] at d1
          have HE : Hid (M.layP s p = none) := by unfold Hid; rw [HP.out, M.layP_none]
          clear hb8 hj z6
          go_wp2_with fail
          go_end0
          refine ⟨rfl, ?_⟩
          rw [HE.out]
          exact LayR.next ht hx (LayR.new HB.out (LayR.refl l8))
        | some b0 =>
          simp only [Option.isNone_some] at d1
          clear hb8 hj z6
          go_wp2_with (go_at_call 58; refine stopHere ?_)
          refine stopAt ?_
          refine (lfunction_any B _ X' L _ f _ _ l8 gP8 gB8 rf).mono ?_
          rintro e w2 ⟨rfl, X2, l2, t2, x2⟩
          have t02 : Turn X' wr w2 := (Turn.of_below HB.out).next (fun k hk => .inl hk) t2
          have x02 : ∀ k, X2 k → X' k ∨ wr.heap.size ≤ k := fun k hk => by
            rcases x2 k hk with h | h
            · exact .inl h
            · exact .inr (Nat.le_trans HB.out.size h)
          have kp2 := t02.keepHi (B := B) (fun k hk => (hf k hk).1)
          go_wp2_with fail
          refine ⟨⟨j + 1, nx, _, X2, by go_num, HJ.out, rnx, l2, ⟨ht.next hx t02, fun k hk => ?_⟩, sl'.keep kp2, ?_, ?_⟩, by simp [intOf]; omega⟩
          · rcases x02 k hk with h | h
            · exact hx k h
            · exact .inr (Nat.le_trans ht.size h)
          · rw [fr]; exact FnsAt.keep kp2 gN1
          · unfold Hid
            rw [HP.out]; rfl
    · obtain rfl : p' = [] := List.length_eq_zero_iff.1 (by omega)
      have hjn : ¬ (j : Int) < (p.length : Int) := by omega
      go_wp2_with fail
      go_end0
      exact ⟨rfl, by rw [HP.out]; exact ⟨X', hL, ht, hx⟩⟩
end Go.Proofs.YtkpmpnebmkeocaaGreatDoor
