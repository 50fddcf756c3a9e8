/-
  The walk of state.copied. Conditions: states of at most 100000 of each thing.
-/
import Derived.Test.YtbaaeobdjiglgaaGreatE8
import Derived.Test.YtbaaeobdjiglgaaGreatBx
import Derived.Test.YtbaaeobdjiglgaaGreatE7
import Derived.Test.YtbaaeobdjiglgaaGreatE6
set_option linter.unusedVariables false
set_option linter.unusedSimpArgs false
namespace Go.Proofs.YtbaaeobdjiglgaaGreat
open Go.RowKit Go.Sort

/-- a state of the call's own: its rows lie behind base and ahead of n, and what they speak of behind n -/
structure OwnSt (base n : Nat) (w : World) (vb vl : Value) (B : List Bnd) (L : List Lcl) : Prop where
  le : base ≤ n
  sz : n ≤ w.heap.size
  rb : RowK 47 2 bc base w vb B
  rl : RowK 36 4 lc base w vl L
  nb : ∀ k, vb.ownBlock = some k → k < n
  nl : ∀ k, vl.ownBlock = some k → k < n
  ne : ∀ k, vb.ownBlock = some k → vl.ownBlock ≠ some k
  ob : ∀ x ∈ B, OneB (hole (oldB n) w) x
  ol : ∀ x ∈ L, OneL (hole (oldB n) w) x

theorem RowK.other {α : Type} {e : TypeId} {k : Nat} {c : α → List Value} {base : Nat} {w : World} {v : Value} {R : List α} {g p : Nat} {u : Value} (h : RowK e k c base w v R) (hg : v.ownBlock ≠ some g) : RowK e k c base (w.setCell ⟨g, p, none⟩ u) v R := by
  refine ⟨h.1, ?_⟩
  rcases h.2 with h | ⟨g', cap', cur, hv, hb', hh, hr⟩
  · exact .inl h
  · refine .inr ⟨g', cap', cur, hv, hb', ?_, hr⟩
    rw [set_blk _ _ _ _ _ (fun e => hg (by rw [hv, ← e]; rfl))]
    exact hh
theorem RowK.off {α : Type} {e : TypeId} {k : Nat} {c : α → List Value} {base : Nat} {w w' : World} {v : Value} {R : List α} (h : RowK e k c base w v R) (hg : ∀ g, v.ownBlock = some g → w'.heap[g]? = w.heap[g]?) : RowK e k c base w' v R := by
  refine ⟨h.1, ?_⟩
  rcases h.2 with h | ⟨g', cap', cur, hv, hb', hh, hr⟩
  · exact .inl h
  · refine .inr ⟨g', cap', cur, hv, hb', ?_, hr⟩
    rw [hg g' (by rw [hv]; rfl)]
    exact hh
theorem drop_get {α : Type} {A B : List α} {j : Nat} (h : A.drop j = B.drop j) (hA : j < A.length) (hB : j < B.length) : A[j] = B[j] := by
  have h1 := List.drop_eq_getElem_cons hA
  have h2 := List.drop_eq_getElem_cons hB
  rw [h, h2] at h1
  exact (List.cons.inj h1).1.symm
theorem drop_next {α : Type} {A B : List α} {j : Nat} {y : α} (h : A.drop j = B.drop j) : (A.set j y).drop (j + 1) = B.drop (j + 1) := by
  rw [List.drop_set_of_lt (by omega), ← List.drop_drop, ← List.drop_drop, h]
theorem firsts_set {α : Type} {A : List α} {j : Nat} {y : α} {P Q : α → Prop} (h : ∀ i (h : i < A.length), i < j → P A[i]) (hpq : ∀ x, P x → Q x) (hy : Q y) : ∀ i (h : i < (A.set j y).length), i < j + 1 → Q (A.set j y)[i] := fun i hi hij => by
  rw [List.getElem_set]
  split
  · exact hy
  · exact hpq _ (h i (by simpa using hi) (by omega))
theorem bndOf_same {A : List Bnd} {j : Nat} {y : Bnd} (hj : j < A.length) (h : y.p = A[j].p) : bndOf (A.set j y) = bndOf A := by
  unfold bndOf
  rw [List.map_set, h]
  have : A[j].p = (A.map Bnd.p)[j]'(by simpa using hj) := by simp
  rw [this, List.set_getElem_self]
theorem lclOf_same {A : List Lcl} {j : Nat} {y : Lcl} (hj : j < A.length) (h : y.p = A[j].p) : lclOf (A.set j y) = lclOf A := by
  unfold lclOf
  rw [List.map_set, h]
  have : A[j].p = (A.map Lcl.p)[j]'(by simpa using hj) := by simp
  rw [this, List.set_getElem_self]
/-- nothing but one block has turned, among those that there were -/
def OffG (g : Option Nat) (W W' : World) : Prop := W.heap.size ≤ W'.heap.size ∧ ∀ k, k < W.heap.size → some k ≠ g → W'.heap[k]? = W.heap[k]?
theorem OffG.refl (g : Option Nat) (W : World) : OffG g W W := ⟨Nat.le_refl _, fun _ _ _ => rfl⟩
theorem OffG.bel {g : Option Nat} {a b c : World} (h : OffG g a b) (k : Below b.heap.size b c) : OffG g a c := ⟨Nat.le_trans h.1 k.size, fun i hi hn => (k.block i (Nat.lt_of_lt_of_le hi h.1)).trans (h.2 i hi hn)⟩
theorem OffG.set {g p : Nat} {a b : World} {u : Value} (h : OffG (some g) a b) : OffG (some g) a (b.setCell ⟨g, p, none⟩ u) := ⟨by simpa [World.setCell] using h.1, fun i hi hn => (set_blk b g p u i (fun e => hn (by rw [e]))).trans (h.2 i hi hn)⟩
theorem OneB.fresh {n : Nat} {w : World} {x : Bnd} (h : AtAt w x.v x.vs) (hf : Fresh n x.v) : OneB (hole (oldB n) w) x := AtAt.fresh h hf
theorem own_of {v : Value} {g n c : Nat} (h : v = .slice (some ⟨g, 0, none⟩) n c) : v.ownBlock = some g := by rw [h]; rfl
theorem RowK.some {α : Type} {e : TypeId} {k : Nat} {c : α → List Value} {base : Nat} {w : World} {q : Option Addr} {n m : Nat} {R : List α} (h : RowK e k c base w (.slice q n m) R) (hn : 0 < n) : ∃ g, q = Option.some ⟨g, 0, none⟩ := by
  rcases owns_formK h with ⟨e, h0⟩ | ⟨g, cap, e, _⟩
  · simp only [Value.slice.injEq] at e; omega
  · simp only [Value.slice.injEq] at e
    exact ⟨g, e.1⟩
theorem box3_set {w : World} {g : Nat} {T : TypeId} {v0 v1 v2 : Value} (h : w.heap[g]? = some (.cells #[v0, v1, v2] T (0, 0))) (u1 u2 : Value) :
    ((w.setCell ⟨g, 1, none⟩ u1).setCell ⟨g, 2, none⟩ u2).heap[g]? = some (.cells #[v0, u1, u2] T (0, 0)) := box_put (box_put h u1) u2

set_option maxHeartbeats 8000000 in
set_option maxRecDepth 100000 in
theorem scopy_any (w : World) (v : Value) (s : M.Sta) (h : StAt w v s) (hK : M.SmSt 100000 s) :
    Calls Tryz.prog 61 #[v] w fun e w' => ∃ vb vl B L n, e = .returned (.agg #[.bool s.dead, vb, vl]) ∧ bndOf B = s.vs ∧ lclOf L = s.ls ∧ OwnSt w.heap.size n w' vb vl B L ∧ Below w.heap.size w w' := by
  obtain ⟨B, L, a, c, b, d, hs, rfl, hB, hL⟩ := h.open
  have mixed := mixedP
  obtain ⟨hn, hvs, hm, hls⟩ := smStB hK hs
  have HV := hid hvs
  have HL := hid hls
  have TB := hid hB
  have TL := hid hL
  have HSV : Hid (bndOf B = s.vs) := by unfold Hid; rw [hs]
  have HSL : Hid (lclOf L = s.ls) := by unfold Hid; rw [hs]
  obtain ⟨dd, hdd⟩ : ∃ x, s.dead = x := ⟨_, rfl⟩
  rw [hdd]
  clear h hK hvs hls hB hL hdd hs
  obtain ⟨A1, hA1⟩ : ∃ o, (.cells #[.bool dd, .slice a B.length c, .slice b L.length d] 25 : Obj) = o := ⟨_, rfl⟩
  obtain ⟨A2, hA2⟩ : ∃ o, (.cells #[.bool false, .slice none 0 0, .slice none 0 0] 25 : Obj) = o := ⟨_, rfl⟩
  obtain ⟨W0, hW0⟩ : ∃ W0, (w.alloc A1).alloc A2 = W0 := ⟨_, rfl⟩
  have b1 := (gr_new w A1).below
  have b2 := (gr_new (w.alloc A1) A2).below
  have p3 : W0.heap[w.heap.size]? = some A1 := by rw [← hW0]; exact kept (B := (w.alloc A1).heap.size) (new_at w A1) (by simp) b2
  have p4 : W0.heap[w.heap.size + 1]? = some A2 := by
    rw [← hW0]
    have := new_at (w.alloc A1) A2
    rw [World.size_alloc] at this
    exact this
  have hz : w.heap.size + 2 ≤ W0.heap.size := by rw [← hW0]; simp
  have B0 : Hid (Below w.heap.size w W0) := by unfold Hid; rw [← hW0]; exact b1.trans (b2.mono b1.size)
  rw [← hA1] at p3
  rw [← hA2] at p4
  subst hA1 hA2
  have P1 := hid p3
  have P2 := hid p4
  obtain ⟨x1, x2, x3, xf⟩ := cells3 p3
  clear b1 b2 p3 p4
  have KB : Hid (∀ W, Below W0.heap.size W0 W → Calls Tryz.prog 82 #[.slice a B.length c] W fun e w' => ∃ v', e = .returned v' ∧ RowK 47 2 bc W.heap.size w' v' B ∧ Below W.heap.size W w') := fun W hb => cloneB_any W _ B ((TB.out.1.ext (Ext.of_below B0.out)).ext (Ext.of_below hb)) (by omega)
  have KL : Hid (∀ W, Below W0.heap.size W0 W → Calls Tryz.prog 83 #[.slice b L.length d] W fun e w' => ∃ v', e = .returned v' ∧ RowK 36 4 lc W.heap.size w' v' L ∧ Below W.heap.size W w') := fun W hb => cloneL_any W _ L ((TL.out.1.ext (Ext.of_below B0.out)).ext (Ext.of_below hb)) (by omega)
  go_enter Tryz.func61, Tryz.ntmps61
  go_wp2_with fail
  clear hW0
  go_region_law (first
    | (go_simp; go_at_call 82; refine (KB.out _ (Gr.refl W0).drew.below).mono ?_; rintro e w3 ⟨v3, rfl, hr3, hb3⟩; obtain ⟨q3, m3, rfl⟩ := hr3.form; obtain ⟨y1, y2, y3, yf⟩ := cells3 (kept P1.out (by omega) ((Gr.refl W0).drew.below.trans hb3)))
    | (go_simp; go_at_call 83; refine (KL.out _ ((Gr.refl W0).drew.below.trans hb3)).mono ?_; rintro e w4 ⟨v4, rfl, hr4, hb4⟩; obtain ⟨q4, m4, rfl⟩ := hr4.form; obtain ⟨z1, z2, z3, zf⟩ := cells3 (kept P1.out (by omega) (((Gr.refl W0).drew.below.trans hb3).trans (hb4.mono hb3.size)))))
  all_goals
    have hbW : Hid (Below w.heap.size w w4) := B0.out.trans ((((Gr.refl W0).drew.below.trans hb3).trans (hb4.mono hb3.size)).mono B0.out.size)
    have hz3 : W0.heap.size ≤ w3.heap.size := hb3.size
    have hz4 : w3.heap.size ≤ w4.heap.size := hb4.size
    have hB3 : Below W0.heap.size W0 w4 := ((Gr.refl W0).drew.below.trans hb3).trans (hb4.mono hb3.size)
    have R3 := hid ((RowK.keep hr3 hb4).mono (base' := W0.heap.size) (Nat.le_refl _))
    have R4 := hid (hr4.mono (base' := W0.heap.size) hz3)
    have NB : Hid (∀ k, (Value.slice q3 B.length m3).ownBlock = some k → W0.heap.size ≤ k ∧ k < w3.heap.size) := fun k hk => RowK.blk hr3 k hk
    have NL : Hid (∀ k, (Value.slice q4 L.length m4).ownBlock = some k → w3.heap.size ≤ k ∧ k < w4.heap.size) := fun k hk => RowK.blk hr4 k hk
    have Q1 := hid (box3_set (kept P1.out (by omega) hB3) (.slice q3 B.length m3) (.slice q4 L.length m4))
    have Q2 : Hid (((w4.setCell ⟨w.heap.size, 1, none⟩ (.slice q3 B.length m3)).setCell ⟨w.heap.size, 2, none⟩ (.slice q4 L.length m4)).heap[w.heap.size + 1]? = some (.cells #[.bool false, .slice none 0 0, .slice none 0 0] 25 (0, 0))) := by
      unfold Hid
      rw [set_blk _ _ _ _ _ (by omega), set_blk _ _ _ _ _ (by omega)]
      exact kept P2.out (by omega) hB3
    have hbS : Hid (Below w.heap.size w ((w4.setCell ⟨w.heap.size, 1, none⟩ (.slice q3 B.length m3)).setCell ⟨w.heap.size, 2, none⟩ (.slice q4 L.length m4))) := (hbW.out.setCell (p := ⟨w.heap.size, 1, none⟩) (Nat.le_refl _) _).setCell (p := ⟨w.heap.size, 2, none⟩) (Nat.le_refl _) _
    have R3' : Hid (RowK 47 2 bc W0.heap.size ((w4.setCell ⟨w.heap.size, 1, none⟩ (.slice q3 B.length m3)).setCell ⟨w.heap.size, 2, none⟩ (.slice q4 L.length m4)) (.slice q3 B.length m3) B) := (R3.out.other (fun e => by have := (NB.out _ e).1; omega)).other (fun e => by have := (NB.out _ e).1; omega)
    have R4' : Hid (RowK 36 4 lc W0.heap.size ((w4.setCell ⟨w.heap.size, 1, none⟩ (.slice q3 B.length m3)).setCell ⟨w.heap.size, 2, none⟩ (.slice q4 L.length m4)) (.slice q4 L.length m4) L) := (R4.out.other (fun e => by have := (NL.out _ e).1; omega)).other (fun e => by have := (NL.out _ e).1; omega)
    have hzz : ((w4.setCell ⟨w.heap.size, 1, none⟩ (.slice q3 B.length m3)).setCell ⟨w.heap.size, 2, none⟩ (.slice q4 L.length m4)).heap.size = w4.heap.size := by simp [World.setCell]
    generalize (w4.setCell ⟨w.heap.size, 1, none⟩ (.slice q3 B.length m3)).setCell ⟨w.heap.size, 2, none⟩ (.slice q4 L.length m4) = W5 at Q1 Q2 hbS R3' R4' hzz ⊢
    obtain ⟨N, hN⟩ : ∃ N, w4.heap.size = N := ⟨_, rfl⟩
    rw [hN] at hzz NL hz4
    have HZ := hid hzz
    clear hr3 hr4 hb3 hb4 hB3 hbW R3 R4 x1 x2 x3 xf y1 y2 y3 yf z1 z2 z3 zf hN KB KL hzz
    obtain ⟨y1, y2, y3, yf⟩ := cells3 Q1.out
    go_wp2
    clear y1 y2 y3 yf
    go_loopw [18] (fun i w' => ∃ (j : Nat) (acc : List Bnd), j ≤ B.length ∧ i = .int .i64 j ∧ Hid (acc.length = B.length) ∧ Hid (bndOf acc = bndOf B) ∧ Hid (acc.drop j = B.drop j) ∧ Hid (RowK 47 2 bc W0.heap.size w' (.slice q3 B.length m3) acc) ∧ Hid (∀ i (h : i < acc.length), i < j → OneB (hole (oldB N) w') acc[i]) ∧ Hid (Below w.heap.size w w') ∧ Hid (OffG (Value.slice q3 B.length m3).ownBlock W5 w')) (fun i _ => B.length - (intOf i).toNat)
    case atStart => exact ⟨0, B, Nat.zero_le _, rfl, rfl, rfl, rfl, R3', (fun i _ h => absurd h (Nat.not_lt_zero _)), hbS, OffG.refl _ _⟩
    case round =>
      clear R3' hbS
      obtain ⟨j, acc, hj, rfl, hlen, hbo, hdr, hrow, hone, hbel, hoff⟩ := hrel
      have hsz5 : N ≤ wr.heap.size := by have := hoff.out.1; have := HZ.out; omega
      have QW : Hid (wr.heap[w.heap.size]? = some (.cells #[.bool dd, .slice q3 B.length m3, .slice q4 L.length m4] 25 (0, 0))) := (hoff.out.2 _ (by have := HZ.out; omega) (fun e => by have := (NB.out _ e.symm).1; omega)).trans Q1.out
      by_cases hjl : j < B.length
      · obtain ⟨g, rfl⟩ := RowK.some hrow.out (by omega)
        have hja : j < acc.length := by have := hlen.out; omega
        have hxe := drop_get hdr.out hja hjl
        obtain ⟨hcs, hgw, hgb, _, _, hfz⟩ := RowK.cells bc_len hrow.out
        have c1 := hcs j hja 0 _ rfl
        have c2 := hcs j hja 1 _ rfl
        rw [hxe] at c1 c2
        simp only [Nat.add_zero] at c1
        have HX := hid ((TB.out.2 _ (List.getElem_mem hjl)))
        have hxl := HV.out _ (List.getElem_mem hjl)
        obtain ⟨x, hx⟩ : ∃ x, B[j] = x := ⟨_, rfl⟩
        rw [hx] at c1 c2 HX hxl
        have HXE : Hid (acc[j] = x) := hxe.trans hx
        clear hx hcs hxe
        obtain ⟨W1, hW1⟩ : ∃ W1, wr.alloc (.cells #[.string x.nm, .slice x.a x.vs.length x.c] 47) = W1 := ⟨_, rfl⟩
        have hB1 : Below wr.heap.size wr W1 := by rw [← hW1]; exact (gr_new _ _).below
        have hs1 : wr.heap.size < W1.heap.size := by rw [← hW1]; simp
        have n0 : W1.heap[wr.heap.size]? = some (.cells #[.string x.nm, .slice x.a x.vs.length x.c] 47 (0, 0)) := by rw [← hW1]; exact new_at _ _
        have BW1 : Hid (Below w.heap.size w W1) := hbel.out.trans (hB1.mono hbel.out.size)
        have RW1 := hid (hrow.out.keep hB1)
        have QW1 := hid (kept QW.out (by omega) hB1)
        have KC : Hid (∀ W, Below W1.heap.size W1 W → Calls Tryz.prog 75 #[.slice x.a x.vs.length x.c] W fun e w' => ∃ v', e = .returned v' ∧ AtAt w' v' x.vs ∧ Fresh W.heap.size v' ∧ Below W.heap.size W w') := fun W hb => clone_new W _ x.vs ((AtAt.bel HX.out BW1.out).bel hb) (by omega)
        obtain ⟨n1, n2, nf⟩ := cells2 n0
        obtain ⟨y1, y2, y3, yf⟩ := cells3 QW1.out
        have hji : (j : Int) < (B.length : Int) := by omega
        have hwW1 : w.heap.size < W1.heap.size := by omega
        go_wp2_with fail
        clear hW1 c1 c2 hfz
        go_region_law (first
          | (go_simp; go_at_call 75; refine (KC.out _ (Gr.refl W1).drew.below).mono ?_; rintro e w6 ⟨v6, rfl, hA6, hf6, hb6⟩; obtain ⟨q6, m6, rfl⟩ := hA6.form; obtain ⟨z1, z2, z3, zf⟩ := cells3 (kept QW1.out hwW1 ((Gr.refl W1).drew.below.trans hb6)); obtain ⟨ds, dg, _, _, _, dz⟩ := RowK.cells bc_len (RW1.out.keep ((Gr.refl W1).drew.below.trans hb6)); have d2 := ds j hja 1 _ rfl))
        all_goals
          have hbb : Below W1.heap.size W1 w6 := (Gr.refl W1).drew.below.trans hb6
          have hgo : (Value.slice (some ⟨g, 0, none⟩) B.length m3).ownBlock = some g := rfl
          have hgN : g < N := by have := (NB.out g rfl).2; omega
          go_wp2
          refine ⟨⟨j + 1, acc.set j ⟨x.nm, x.vs, q6, m6⟩, by omega, by go_num, by show _ = _; rw [List.length_set]; exact hlen.out, ?_, drop_next hdr.out, ?_, ?_, ?_, ?_⟩, by simp [intOf]; omega⟩
          · show _ = _
            rw [bndOf_same hja (by rw [HXE.out]; rfl)]
            exact hbo.out
          · exact RowK.set1 bc_len (RW1.out.keep hbb) hja (t := 1) ⟨x.nm, x.vs, q6, m6⟩ (by omega) (by rw [HXE.out]; rfl)
          · refine firsts_set hone.out (fun y hy => OneB.ext hy ?_) ?_
            · refine Ext.off (by have := hB1.size; have := hbb.size; simp [World.setCell]; omega) (fun k hk hS => ?_) (fun _ _ h => h)
              rw [set_blk _ _ _ _ _ (by have := oldB_not hS; omega), hbb.block k (by omega), hB1.block k hk]
            · refine OneB.ext (w := hole (oldB N) w6) (OneB.fresh (x := ⟨x.nm, x.vs, q6, m6⟩) hA6 (hf6.mono (by have : W1.drew.heap.size = W1.heap.size := rfl; omega))) ?_
              exact Ext.off (by simp [World.setCell]) (fun k hk hS => set_blk _ _ _ _ _ (by have := oldB_not hS; omega)) (fun _ _ h => h)
          · exact (BW1.out.trans (hbb.mono BW1.out.size)).setCell (p := ⟨g, j * 2 + 1, none⟩) (show w.heap.size ≤ g by have := B0.out.size; omega) _
          · exact ((hoff.out.bel hB1).bel hbb).set
      · have HB2 : Hid (∀ x ∈ acc, OneB (hole (oldB N) wr) x) := fun x hx => by
          obtain ⟨i, hi, rfl⟩ := List.getElem_of_mem hx
          exact hone.out i hi (by have := hlen.out; omega)
        have R4r : Hid (RowK 36 4 lc W0.heap.size wr (.slice q4 L.length m4) L) := RowK.off R4'.out fun g hg => hoff.out.2 g (by have := (NL.out g hg).2; have := HZ.out; omega) (fun e => by have := (NL.out g hg).1; have := (NB.out g e.symm).2; omega)
        have P2r : Hid (wr.heap[w.heap.size + 1]? = some (.cells #[.bool false, .slice none 0 0, .slice none 0 0] 25 (0, 0))) := (hoff.out.2 _ (by have := HZ.out; omega) (fun e => by have := (NB.out _ e.symm).1; omega)).trans Q2.out
        obtain ⟨y1, y2, y3, yf⟩ := cells3 QW.out
        obtain ⟨W6, hW6⟩ : ∃ W6, W6 = wr := ⟨_, rfl⟩
        rw [← hW6] at HB2 R4r P2r QW hsz5 hbel y1 y2 y3 yf hrow ⊢
        clear hoff hone hdr hW6 Q1 Q2 R4'
        go_wp2
        clear y1 y2 y3 yf hj hjl
        go_loopw [35] (fun i w' => ∃ (j : Nat) (acL : List Lcl), j ≤ L.length ∧ i = .int .i64 j ∧ Hid (acL.length = L.length) ∧ Hid (lclOf acL = lclOf L) ∧ Hid (acL.drop j = L.drop j) ∧ Hid (RowK 36 4 lc W0.heap.size w' (.slice q4 L.length m4) acL) ∧ Hid (∀ i (h : i < acL.length), i < j → OneL (hole (oldB N) w') acL[i]) ∧ Hid (Below w.heap.size w w') ∧ Hid (OffG (Value.slice q4 L.length m4).ownBlock W6 w')) (fun i _ => L.length - (intOf i).toNat)
        case atStart => exact ⟨0, L, Nat.zero_le _, rfl, rfl, rfl, rfl, R4r, (fun i _ h => absurd h (Nat.not_lt_zero _)), hbel, OffG.refl _ _⟩
        case round =>
          have HB6 := hid hbel.out
          clear R4r hbel
          obtain ⟨j, acL, hj, rfl, hlenL, hboL, hdr, hrowL, hone, hbel, hoff⟩ := hrel
          have hszr : N ≤ wr.heap.size := by have := hoff.out.1; omega
          have QWr : Hid (wr.heap[w.heap.size]? = some (.cells #[.bool dd, .slice q3 B.length m3, .slice q4 L.length m4] 25 (0, 0))) := (hoff.out.2 _ (by omega) (fun e => by have := (NL.out _ e.symm).1; omega)).trans QW.out
          by_cases hjl : j < L.length
          · obtain ⟨g, rfl⟩ := RowK.some hrowL.out (by omega)
            have hja : j < acL.length := by have := hlenL.out; omega
            have hxe := drop_get hdr.out hja hjl
            obtain ⟨hcs, hgw, hgb, _, _, hfz⟩ := RowK.cells lc_len hrowL.out
            have c1 := hcs j hja 0 _ rfl
            have c2 := hcs j hja 1 _ rfl
            have c3 := hcs j hja 2 _ rfl
            have c4 := hcs j hja 3 _ rfl
            rw [hxe] at c1 c2 c3 c4
            simp only [Nat.add_zero] at c1
            have HX := hid ((TL.out.2 _ (List.getElem_mem hjl)))
            have hxl := HL.out _ (List.getElem_mem hjl)
            obtain ⟨x, hx⟩ : ∃ x, L[j] = x := ⟨_, rfl⟩
            rw [hx] at c1 c2 c3 c4 HX hxl
            have HXE : Hid (acL[j] = x) := hxe.trans hx
            clear hx hcs hxe
            obtain ⟨W1, hW1⟩ : ∃ W1, wr.alloc (.cells #[.int .i64 x.x.k, .int .i64 x.x.n, .slice x.fa x.s.fs.length x.fn, .slice x.pa x.s.pr.length x.pn] 36) = W1 := ⟨_, rfl⟩
            have hB1 : Below wr.heap.size wr W1 := by rw [← hW1]; exact (gr_new _ _).below
            have hs1 : wr.heap.size < W1.heap.size := by rw [← hW1]; simp
            have n0 : W1.heap[wr.heap.size]? = some (.cells #[.int .i64 x.x.k, .int .i64 x.x.n, .slice x.fa x.s.fs.length x.fn, .slice x.pa x.s.pr.length x.pn] 36 (0, 0)) := by rw [← hW1]; exact new_at _ _
            have BW1 : Hid (Below w.heap.size w W1) := hbel.out.trans (hB1.mono hbel.out.size)
            have RW1 := hid (hrowL.out.keep hB1)
            have QW1 := hid (kept QWr.out (by omega) hB1)
            have HXL := hid hxl
            have KC : Hid (∀ W, Below W1.heap.size W1 W → Calls Tryz.prog 57 #[.agg #[.slice x.fa x.s.fs.length x.fn, .slice x.pa x.s.pr.length x.pn]] W fun e w' => ∃ v', e = .returned v' ∧ ShFr W.heap.size w' v' x.s ∧ Below W.heap.size W w') := fun W hb => scopied_any W _ x.s ((ShAt.bel HX.out.2 BW1.out).bel hb) HXL.out
            obtain ⟨n1, n2, n3, n4, nf⟩ := cells4 n0
            obtain ⟨y1, y2, y3, yf⟩ := cells3 QW1.out
            have hji : (j : Int) < (L.length : Int) := by omega
            have hwW1 : w.heap.size < W1.heap.size := by omega
            clear hxl
            go_wp2_with fail
            clear hW1 c1 c2 c3 c4 hfz
            go_region_law (first
              | (go_simp; go_at_call 57; refine (KC.out _ (Gr.refl W1).drew.below).mono ?_; rintro e w6 ⟨v6, rfl, hS6, hb6⟩; obtain ⟨fa6, fn6, pa6, pn6, rfl⟩ := ShAt.form (ShFr.at hS6); obtain ⟨z1, z2, z3, zf⟩ := cells3 (kept QW1.out hwW1 ((Gr.refl W1).drew.below.trans hb6)); obtain ⟨ds, dg, _, _, _, dz⟩ := RowK.cells lc_len (RW1.out.keep ((Gr.refl W1).drew.below.trans hb6)); have d3 := ds j hja 2 _ rfl; have d4 := ds j hja 3 _ rfl))
            all_goals
              have hbb : Below W1.heap.size W1 w6 := (Gr.refl W1).drew.below.trans hb6
              have hgN : g < N := by have := (NL.out g rfl).2; omega
              go_wp2
              refine ⟨⟨j + 1, acL.set j ⟨x.x, x.s, fa6, fn6, pa6, pn6⟩, by omega, by go_num, by show _ = _; rw [List.length_set]; exact hlenL.out, ?_, drop_next hdr.out, ?_, ?_, ?_, ?_⟩, by simp [intOf]; omega⟩
              · show _ = _
                rw [lclOf_same hja (by rw [HXE.out]; rfl)]
                exact hboL.out
              · have r1 := RowK.set1 lc_len (RW1.out.keep hbb) hja (t := 2) (u := .slice fa6 x.s.fs.length fn6) ⟨x.x, x.s, fa6, fn6, x.pa, x.pn⟩ (by omega) (by rw [HXE.out]; rfl)
                have r2 := RowK.set1 lc_len r1 (by rw [List.length_set]; exact hja) (t := 3) (u := .slice pa6 x.s.pr.length pn6) ⟨x.x, x.s, fa6, fn6, pa6, pn6⟩ (by omega) (by rw [List.getElem_set_self]; rfl)
                rw [List.set_set] at r2
                exact r2
              · refine firsts_set hone.out (fun y hy => OneL.ext hy ?_) ?_
                · refine Ext.off (by have := hB1.size; have := hbb.size; simp [World.setCell]; omega) (fun k hk hS => ?_) (fun _ _ h => h)
                  rw [set_blk _ _ _ _ _ (by have := oldB_not hS; omega), set_blk _ _ _ _ _ (by have := oldB_not hS; omega), hbb.block k (by omega), hB1.block k hk]
                · refine OneL.ext (w := hole (oldB N) w6) ⟨HX.out.1, ShFr.mono hS6 (by have : W1.drew.heap.size = W1.heap.size := rfl; omega)⟩ ?_
                  refine Ext.off (by simp [World.setCell]) (fun k hk hS => ?_) (fun _ _ h => h)
                  rw [set_blk _ _ _ _ _ (by have := oldB_not hS; omega), set_blk _ _ _ _ _ (by have := oldB_not hS; omega)]
              · exact ((BW1.out.trans (hbb.mono BW1.out.size)).setCell (p := ⟨g, j * 4 + 2, none⟩) (show w.heap.size ≤ g by have := B0.out.size; omega) _).setCell (p := ⟨g, j * 4 + 3, none⟩) (show w.heap.size ≤ g by have := B0.out.size; omega) _
              · exact ((hoff.out.bel hB1).bel hbb).set.set
          · have HL2 : Hid (∀ x ∈ acL, OneL (hole (oldB N) wr) x) := fun x hx => by
              obtain ⟨i, hi, rfl⟩ := List.getElem_of_mem hx
              exact hone.out i hi (by have := hlenL.out; omega)
            have R3r : Hid (RowK 47 2 bc W0.heap.size wr (.slice q3 B.length m3) acc) := RowK.off hrow.out fun g hg => hoff.out.2 g (by have := (NB.out g hg).2; omega) (fun e => by have := (NL.out g e.symm).1; have := (NB.out g hg).2; omega)
            have HB3 : Hid (∀ x ∈ acc, OneB (hole (oldB N) wr) x) := fun x hx => OneB.ext (HB2.out x hx) (Ext.off hoff.out.1 (fun k hk hS => hoff.out.2 k hk (fun e => by have := (NL.out k e.symm).2; have := oldB_not hS; omega)) fun _ _ h => h)
            have P3r := hid ((hoff.out.2 _ (by omega) (fun e => by have := (NL.out _ e.symm).1; omega)).trans P2r.out)
            obtain ⟨y1, y2, y3, yf⟩ := cells3 QWr.out
            obtain ⟨z1, z2, z3, zf⟩ := cells3 P3r.out
            clear hone hdr
            go_wp2
            refine bodyPost_ret (v := .agg #[.bool dd, .slice q3 B.length m3, .slice q4 L.length m4]) (by simp [results, Tryz.results61, go_sem, z1, z2, z3]) rfl ?_
            refine ⟨_, _, acc, acL, N, rfl, hbo.out.trans HSV.out, hboL.out.trans HSL.out, ⟨by omega, by simp [World.setCell]; omega, ?_, ?_, fun k hk => by have := (NB.out k hk).2; omega, fun k hk => (NL.out k hk).2, fun k hk e => by have := (NB.out k hk).2; have := (NL.out k e).1; omega, ?_, ?_⟩, ?_⟩
            · exact (((R3r.out.other (fun e => by have := (NB.out _ e).1; omega)).other (fun e => by have := (NB.out _ e).1; omega)).other (fun e => by have := (NB.out _ e).1; omega)).mono (by omega)
            · exact (((hrowL.out.other (fun e => by have := (NL.out _ e).1; omega)).other (fun e => by have := (NL.out _ e).1; omega)).other (fun e => by have := (NL.out _ e).1; omega)).mono (by omega)
            · intro x hx
              refine OneB.ext (HB3.out x hx) (Ext.off (by simp [World.setCell]) (fun k hk hS => ?_) (fun _ _ h => h))
              rw [set_blk _ _ _ _ _ (by have := oldB_not hS; omega), set_blk _ _ _ _ _ (by have := oldB_not hS; omega), set_blk _ _ _ _ _ (by have := oldB_not hS; omega)]
            · intro x hx
              refine OneL.ext (HL2.out x hx) (Ext.off (by simp [World.setCell]) (fun k hk hS => ?_) (fun _ _ h => h))
              rw [set_blk _ _ _ _ _ (by have := oldB_not hS; omega), set_blk _ _ _ _ _ (by have := oldB_not hS; omega), set_blk _ _ _ _ _ (by have := oldB_not hS; omega)]
            · exact set3 hbel.out (by omega) _ _ _
end Go.Proofs.YtbaaeobdjiglgaaGreat
