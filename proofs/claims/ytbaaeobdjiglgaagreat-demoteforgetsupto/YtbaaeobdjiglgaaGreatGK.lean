/-
  The walk of state.put. Conditions: rows of the call's own that rise, of at most 100000 elements.
-/
import Derived.Test.YtbaaeobdjiglgaaGreatE9
import Derived.Test.YtbaaeobdjiglgaaGreatE3
import Derived.Test.YtbaaeobdjiglgaaGreatE4
set_option linter.unusedVariables false
set_option linter.unusedSimpArgs false
namespace Go.Proofs.YtbaaeobdjiglgaaGreat
open Go.RowKit Go.Sort
namespace M
theorem placeK_le {κ ν : Type} [DecidableEq κ] (o : Key κ) {k : κ} : ∀ {l : List (κ × ν)} {i w : Nat}, w ≤ i → (placeK o k i w l).1 ≤ i + l.length
  | [], i, w, h => h
  | y :: r, i, w, h => by
    unfold placeK
    split
    · show i ≤ i + (r.length + 1); omega
    · split
      · have := placeK_le (k := k) o (l := r) (i := i + 1) (w := i + 1) (Nat.le_refl _)
        show _ ≤ i + (r.length + 1); omega
      · have := placeK_le (k := k) o (l := r) (i := i + 1) (w := w) (by omega)
        show _ ≤ i + (r.length + 1); omega
end M
theorem bndOf_ins (B : List Bnd) (p : Nat) (x : Bnd) : bndOf (B.take p ++ x :: B.drop p) = (bndOf B).take p ++ x.p :: (bndOf B).drop p := by simp [bndOf, List.map_take, List.map_drop]
theorem lclOf_ins (B : List Lcl) (p : Nat) (x : Lcl) : lclOf (B.take p ++ x :: B.drop p) = (lclOf B).take p ++ x.p :: (lclOf B).drop p := by simp [lclOf, List.map_take, List.map_drop]
theorem ins_mem {α : Type} {B : List α} {p : Nat} {x y : α} (h : y ∈ B.take p ++ x :: B.drop p) : y ∈ B ∨ y = x := by
  rcases List.mem_append.1 h with h | h
  · exact .inl (List.mem_of_mem_take h)
  · rcases List.mem_cons.1 h with h | h
    · exact .inr h
    · exact .inl (List.mem_of_mem_drop h)
theorem set_mem' {α : Type} {B : List α} {p : Nat} {x y : α} (h : y ∈ B.set p x) : y ∈ B ∨ y = x := by
  rcases List.mem_or_eq_of_mem_set h with h | h
  · exact .inl h
  · exact .inr h
theorem OffG.grown {g : Option Nat} {a b c : World} (h : OffG g a b) (k : b.grownBy c g) : OffG g a c := ⟨Nat.le_trans h.1 k.size, fun i hi hn => (k.block i (Nat.lt_of_lt_of_le hi h.1) hn).trans (h.2 i hi hn)⟩

set_option maxHeartbeats 4000000 in
set_option maxRecDepth 100000 in
theorem putB_any (w : World) (base : Nat) (v : Value) (B : List Bnd) (x : Bnd) (hrow : RowK 47 2 bc base w v B) (hat : BsAt w v B) (hbase : base ≤ w.heap.size) (hn : B.length ≤ 100000) (hr : M.RisK M.keyN (bndOf B)) :
    Calls Tryz.prog 66 #[v, bv x, fnByN] w fun e w' => ∃ v' B', e = .returned v' ∧ RowK 47 2 bc base w' v' B' ∧ bndOf B' = M.putK M.keyN x.nm x.vs (bndOf B) ∧ (∀ y ∈ B', y ∈ B ∨ y = x) ∧ OffG v.ownBlock w w' ∧ Below base w w' := by
  obtain ⟨q, m, rfl⟩ := hrow.form
  have HROW := hid hrow
  have HAT := hid hat
  have HPL := hid (M.put_place M.keyN (k := x.nm) (v := x.vs) hr)
  have HGET := hid (M.placeK_get M.keyN (k := x.nm) (l := bndOf B) (i := 0) (w := 0))
  have HLE := hid (M.placeK_le M.keyN (k := x.nm) (l := bndOf B) (i := 0) (w := 0) (Nat.le_refl _))
  have BLK := hid (RowK.blk hrow)
  clear hrow hat hr
  obtain ⟨W0, hW0⟩ : ∃ W0, w.alloc (.cells #[.string x.nm, .slice x.a x.vs.length x.c] 47) = W0 := ⟨_, rfl⟩
  have G0 : Hid (Gr w W0) := by unfold Hid; rw [← hW0]; exact gr_new _ _
  have P0 : Hid (W0.heap[w.heap.size]? = some (.cells #[.string x.nm, .slice x.a x.vs.length x.c] 47 (0, 0))) := by unfold Hid; rw [← hW0]; exact new_at _ _
  have hz : w.heap.size < W0.heap.size := by rw [← hW0]; simp
  have K := placeB_any W0 _ B x (HAT.out.bel G0.out.below) (by omega)
  obtain ⟨p, hp⟩ : ∃ p, (M.placeK M.keyN x.nm 0 0 (bndOf B)).1 = p := ⟨_, rfl⟩
  obtain ⟨th, hth⟩ : ∃ t, (M.placeK M.keyN x.nm 0 0 (bndOf B)).2 = t := ⟨_, rfl⟩
  rw [hp, hth] at K HPL HGET
  rw [hp] at HLE
  unfold fnByN bv at *
  have HK := hid K
  clear K hp
  obtain ⟨x1, x2, xf⟩ := cells2 P0.out
  go_enter Tryz.func66, Tryz.ntmps66
  go_wp2_with (go_at_call 85; refine stopHere ?_)
  refine stopAt ?_
  refine HK.out.mono ?_
  rintro e w1 ⟨rfl, hg1⟩
  clear hW0 x1 x2 xf
  have GW : Hid (Gr w w1) := G0.out.trans hg1
  have hz1 : w.heap.size < w1.heap.size := Nat.lt_of_lt_of_le hz hg1.below.size
  obtain ⟨x1, x2, xf⟩ := cells2 (kept P0.out hz hg1.below)
  have R1 := hid (HROW.out.keep GW.out.below)
  have HL : Hid ((bndOf B).length = B.length) := bndOf_len B
  cases th with
  | false =>
    have hple : p ≤ B.length := by have h1 := HLE.out; have h2 := HL.out; omega
    obtain ⟨W2, hW2⟩ : ∃ W2, w1.alloc (.cells #[.string x.nm, .slice x.a x.vs.length x.c] 47) = W2 := ⟨_, rfl⟩
    have hB2 : Below w1.heap.size w1 W2 := by rw [← hW2]; exact (gr_new _ _).below
    have hs2 : w1.heap.size < W2.heap.size := by rw [← hW2]; simp
    have hv : W2.heap[w1.heap.size]? = some (.cells #[.string x.nm, .slice x.a x.vs.length x.c] 47 (0, 0)) := by rw [← hW2]; exact new_at _ _
    have KI := hid (insertB_any W2 base _ B p w1.heap.size x (R1.out.keep hB2) (by omega) hple hn hv (fun e => by have := (BLK.out _ e).2; omega))
    have O2 : Hid (OffG (Value.slice q B.length m).ownBlock w W2) := ((OffG.refl _ w).bel GW.out.below).bel hB2
    have BB2 : Hid (Below base w W2) := ((GW.out.below.mono hbase).trans (hB2.mono (by omega)))
    clear hv hB2 hg1
    go_wp2_with (go_at_call 86; refine stopHere ?_)
    refine stopAt ?_
    refine KI.out.mono ?_
    rintro e w3 ⟨v3, rfl, hr3, hg3⟩
    clear hW2 x1 x2 xf
    obtain ⟨B', hB'⟩ : ∃ B', B.take p ++ x :: B.drop p = B' := ⟨_, rfl⟩
    rw [hB'] at hr3
    have HB' := hid hB'
    have HR3 := hid hr3
    have HG3 := hid hg3
    obtain ⟨q3, m3, rfl⟩ := hr3.form
    clear hr3 hg3 hB'
    go_wp2
    go_ret
    refine ⟨_, B', rfl, HR3.out, ?_, fun y hy => ins_mem (by rw [HB'.out]; exact hy), O2.out.grown HG3.out, BB2.out.grown HG3.out (by have := BB2.out.size; omega) (fun k hk => (BLK.out k hk).1)⟩
    rw [← HB'.out, bndOf_ins]
    exact HPL.out
  | true =>
    have hpl : p < B.length := by
      obtain ⟨p', h1, h2, _⟩ := HGET.out.2 rfl
      have h3 := HL.out
      omega
    obtain ⟨g, rfl⟩ := RowK.some R1.out (by omega)
    obtain ⟨ds, hgw, hgb, _, _, dz⟩ := RowK.cells bc_len R1.out
    have d1 := ds p hpl 0 _ rfl
    have d2 := ds p hpl 1 _ rfl
    simp only [Nat.add_zero] at d1
    have hpi : (p : Int) < (B.length : Int) := by omega
    clear ds hg1
    go_wp2
    go_ret
    refine ⟨_, B.set p x, rfl, ?_, ?_, fun y hy => set_mem' hy, ?_, ?_⟩
    · have r1 := RowK.set1 bc_len R1.out hpl (t := 0) (u := .string x.nm) ⟨x.nm, B[p].vs, B[p].a, B[p].c⟩ (by omega) rfl
      have r2 := RowK.set1 bc_len r1 (by rw [List.length_set]; exact hpl) (t := 1) (u := .slice x.a x.vs.length x.c) x (by omega) (by rw [List.getElem_set_self]; rfl)
      rw [List.set_set] at r2
      exact r2
    · unfold bndOf
      rw [List.map_set]
      exact HPL.out
    · exact ((OffG.refl _ w).bel GW.out.below).set.set
    · exact (((GW.out.below.mono hbase).setCell (p := ⟨g, p * 2, none⟩) (show base ≤ g from hgb) _).setCell (p := ⟨g, p * 2 + 1, none⟩) (show base ≤ g from hgb) _)

set_option maxHeartbeats 4000000 in
set_option maxRecDepth 100000 in
theorem putL_any (w : World) (base : Nat) (v : Value) (B : List Lcl) (x : Lcl) (hrow : RowK 36 4 lc base w v B) (hat : LsAt w v B) (hbase : base ≤ w.heap.size) (hn : B.length ≤ 100000) (hr : M.RisK M.keyA (lclOf B)) :
    Calls Tryz.prog 62 #[v, lv x, fnByA] w fun e w' => ∃ v' B', e = .returned v' ∧ RowK 36 4 lc base w' v' B' ∧ lclOf B' = M.putK M.keyA x.x x.s (lclOf B) ∧ (∀ y ∈ B', y ∈ B ∨ y = x) ∧ OffG v.ownBlock w w' ∧ Below base w w' := by
  obtain ⟨q, m, rfl⟩ := hrow.form
  have HROW := hid hrow
  have HAT := hid hat
  have HPL := hid (M.put_place M.keyA (k := x.x) (v := x.s) hr)
  have HGET := hid (M.placeK_get M.keyA (k := x.x) (l := lclOf B) (i := 0) (w := 0))
  have HLE := hid (M.placeK_le M.keyA (k := x.x) (l := lclOf B) (i := 0) (w := 0) (Nat.le_refl _))
  have BLK := hid (RowK.blk hrow)
  clear hrow hat hr
  obtain ⟨W0, hW0⟩ : ∃ W0, w.alloc (.cells #[.int .i64 x.x.k, .int .i64 x.x.n, .slice x.fa x.s.fs.length x.fn, .slice x.pa x.s.pr.length x.pn] 36) = W0 := ⟨_, rfl⟩
  have G0 : Hid (Gr w W0) := by unfold Hid; rw [← hW0]; exact gr_new _ _
  have P0 : Hid (W0.heap[w.heap.size]? = some (.cells #[.int .i64 x.x.k, .int .i64 x.x.n, .slice x.fa x.s.fs.length x.fn, .slice x.pa x.s.pr.length x.pn] 36 (0, 0))) := by unfold Hid; rw [← hW0]; exact new_at _ _
  have hz : w.heap.size < W0.heap.size := by rw [← hW0]; simp
  have K := placeL_any W0 _ B x (HAT.out.bel G0.out.below) (by omega)
  obtain ⟨p, hp⟩ : ∃ p, (M.placeK M.keyA x.x 0 0 (lclOf B)).1 = p := ⟨_, rfl⟩
  obtain ⟨th, hth⟩ : ∃ t, (M.placeK M.keyA x.x 0 0 (lclOf B)).2 = t := ⟨_, rfl⟩
  rw [hp, hth] at K HPL HGET
  rw [hp] at HLE
  unfold fnByA lv at *
  have HK := hid K
  clear K hp
  obtain ⟨x1, x2, x3, x4, xf⟩ := cells4 P0.out
  go_enter Tryz.func62, Tryz.ntmps62
  go_wp2_with (go_at_call 56; refine stopHere ?_)
  refine stopAt ?_
  refine HK.out.mono ?_
  rintro e w1 ⟨rfl, hg1⟩
  clear hW0 x1 x2 x3 x4 xf
  have GW : Hid (Gr w w1) := G0.out.trans hg1
  have hz1 : w.heap.size < w1.heap.size := Nat.lt_of_lt_of_le hz hg1.below.size
  obtain ⟨x1, x2, x3, x4, xf⟩ := cells4 (kept P0.out hz hg1.below)
  have R1 := hid (HROW.out.keep GW.out.below)
  have HL : Hid ((lclOf B).length = B.length) := lclOf_len B
  cases th with
  | false =>
    have hple : p ≤ B.length := by have h1 := HLE.out; have h2 := HL.out; omega
    obtain ⟨W2, hW2⟩ : ∃ W2, w1.alloc (.cells #[.int .i64 x.x.k, .int .i64 x.x.n, .slice x.fa x.s.fs.length x.fn, .slice x.pa x.s.pr.length x.pn] 36) = W2 := ⟨_, rfl⟩
    have hB2 : Below w1.heap.size w1 W2 := by rw [← hW2]; exact (gr_new _ _).below
    have hs2 : w1.heap.size < W2.heap.size := by rw [← hW2]; simp
    have hv : W2.heap[w1.heap.size]? = some (.cells #[.int .i64 x.x.k, .int .i64 x.x.n, .slice x.fa x.s.fs.length x.fn, .slice x.pa x.s.pr.length x.pn] 36 (0, 0)) := by rw [← hW2]; exact new_at _ _
    have KI := hid (insertL_any W2 base _ B p w1.heap.size x (R1.out.keep hB2) (by omega) hple hn hv (fun e => by have := (BLK.out _ e).2; omega))
    have O2 : Hid (OffG (Value.slice q B.length m).ownBlock w W2) := ((OffG.refl _ w).bel GW.out.below).bel hB2
    have BB2 : Hid (Below base w W2) := ((GW.out.below.mono hbase).trans (hB2.mono (by omega)))
    clear hv hB2 hg1
    go_wp2_with (go_at_call 84; refine stopHere ?_)
    refine stopAt ?_
    refine KI.out.mono ?_
    rintro e w3 ⟨v3, rfl, hr3, hg3⟩
    clear hW2 x1 x2 x3 x4 xf
    obtain ⟨B', hB'⟩ : ∃ B', B.take p ++ x :: B.drop p = B' := ⟨_, rfl⟩
    rw [hB'] at hr3
    have HB' := hid hB'
    have HR3 := hid hr3
    have HG3 := hid hg3
    obtain ⟨q3, m3, rfl⟩ := hr3.form
    clear hr3 hg3 hB'
    go_wp2
    go_ret
    refine ⟨_, B', rfl, HR3.out, ?_, fun y hy => ins_mem (by rw [HB'.out]; exact hy), O2.out.grown HG3.out, BB2.out.grown HG3.out (by have := BB2.out.size; omega) (fun k hk => (BLK.out k hk).1)⟩
    rw [← HB'.out, lclOf_ins]
    exact HPL.out
  | true =>
    have hpl : p < B.length := by
      obtain ⟨p', h1, h2, _⟩ := HGET.out.2 rfl
      have h3 := HL.out
      omega
    obtain ⟨g, rfl⟩ := RowK.some R1.out (by omega)
    obtain ⟨ds, hgw, hgb, _, _, dz⟩ := RowK.cells lc_len R1.out
    have d1 := ds p hpl 0 _ rfl
    have d2 := ds p hpl 1 _ rfl
    have d3 := ds p hpl 2 _ rfl
    have d4 := ds p hpl 3 _ rfl
    simp only [Nat.add_zero] at d1
    have hpi : (p : Int) < (B.length : Int) := by omega
    clear ds hg1
    go_wp2
    go_ret
    refine ⟨_, B.set p x, rfl, ?_, ?_, fun y hy => set_mem' hy, ?_, ?_⟩
    · have r1 := RowK.set1 lc_len R1.out hpl (t := 0) (u := .int .i64 x.x.k) ⟨⟨x.x.k, B[p].x.n⟩, B[p].s, B[p].fa, B[p].fn, B[p].pa, B[p].pn⟩ (by omega) rfl
      have r2 := RowK.set1 lc_len r1 (by rw [List.length_set]; exact hpl) (t := 1) (u := .int .i64 x.x.n) ⟨x.x, B[p].s, B[p].fa, B[p].fn, B[p].pa, B[p].pn⟩ (by omega) (by rw [List.getElem_set_self]; rfl)
      rw [List.set_set] at r2
      have r3 := RowK.set1 lc_len r2 (by rw [List.length_set]; exact hpl) (t := 2) (u := .slice x.fa x.s.fs.length x.fn) ⟨x.x, ⟨x.s.fs, B[p].s.pr⟩, x.fa, x.fn, B[p].pa, B[p].pn⟩ (by omega) (by rw [List.getElem_set_self]; rfl)
      rw [List.set_set] at r3
      have r4 := RowK.set1 lc_len r3 (by rw [List.length_set]; exact hpl) (t := 3) (u := .slice x.pa x.s.pr.length x.pn) x (by omega) (by rw [List.getElem_set_self]; rfl)
      rw [List.set_set] at r4
      exact r4
    · unfold lclOf
      rw [List.map_set]
      exact HPL.out
    · exact ((OffG.refl _ w).bel GW.out.below).set.set.set.set
    · exact (((((GW.out.below.mono hbase).setCell (p := ⟨g, p * 4, none⟩) (show base ≤ g from hgb) _).setCell (p := ⟨g, p * 4 + 1, none⟩) (show base ≤ g from hgb) _).setCell (p := ⟨g, p * 4 + 2, none⟩) (show base ≤ g from hgb) _).setCell (p := ⟨g, p * 4 + 3, none⟩) (show base ≤ g from hgb) _)
end Go.Proofs.YtbaaeobdjiglgaaGreat

/-
  The walks of state.Set and state.Put: what they answer lies in new blocks. Conditions: states of at most 100000 of each thing.
-/
set_option linter.unusedVariables false
set_option linter.unusedSimpArgs false
namespace Go.Proofs.YtbaaeobdjiglgaaGreat
open Go.RowKit Go.Sort

/-- a state in new blocks alone -/
def StFr (base : Nat) (w : World) (v : Value) (s : M.Sta) : Prop := StAt (hole (oldB base) w) v s
theorem StFr.at {base : Nat} {w : World} {v : Value} {s : M.Sta} (h : StFr base w v s) : StAt w v s := StAt.ext h (Ext.hole _ _)
theorem StFr.bel {base : Nat} {w w' : World} {v : Value} {s : M.Sta} (h : StFr base w v s) (hb : Below w.heap.size w w') : StFr base w' v s := StAt.ext h (Ext.offB hb fun _ _ h => h)
theorem StFr.mono {base base' : Nat} {w : World} {v : Value} {s : M.Sta} (h : StFr base w v s) (hb : base' ≤ base) : StFr base' w v s := StAt.ext h (Ext.holes _ fun k h => oldB_no (Nat.le_trans hb (oldB_not h)))
theorem StFr.set {base g p : Nat} {w : World} {v u : Value} {s : M.Sta} (h : StFr base w v s) (hg : g < base) : StFr base (w.setCell ⟨g, p, none⟩ u) v s :=
  StAt.ext h (Ext.off (by simp [World.setCell]) (fun k hk hS => set_blk w g p u k (by have := oldB_not hS; omega)) fun _ _ h => h)
theorem stAt_zero (w : World) : StAt w (.agg #[.bool false, .slice none 0 0, .slice none 0 0]) M.zeroSt := ⟨_, _, [], [], rfl, rfl, rfl, ⟨AtK.nil w, fun x hx => by cases hx⟩, ⟨AtK.nil w, fun x hx => by cases hx⟩⟩
theorem RowK.atH {α : Type} {e : TypeId} {k : Nat} {c : α → List Value} {base : Nat} {w : World} {v : Value} {R : List α} (hc : ∀ x, (c x).length = k) (h : RowK e k c base w v R) : AtK k c (hole (oldB base) w) v R := by
  rcases owns_formK h with ⟨rfl, h0⟩ | ⟨g, cap, rfl, _⟩
  · have : R = [] := List.length_eq_zero_iff.1 h0
    subst this
    exact AtK.nil _
  · obtain ⟨h1, h2, h3, h4, h5, h6⟩ := RowK.cells hc h
    exact ⟨_, _, rfl, .inr ⟨g, 0, rfl, by rw [hole_size]; exact h2, ⟨h4, h5⟩, fun i hi t u hu => by rw [Nat.zero_add]; exact cell_hole (oldB_no h3) (h1 i hi t u hu)⟩⟩
theorem OwnSt.keep {base n : Nat} {w w' : World} {vb vl : Value} {B : List Bnd} {L : List Lcl} (h : OwnSt base n w vb vl B L) (hb : Below w.heap.size w w') : OwnSt base n w' vb vl B L :=
  ⟨h.le, Nat.le_trans h.sz hb.size, h.rb.keep hb, h.rl.keep hb, h.nb, h.nl, h.ne, fun x hx => OneB.ext (h.ob x hx) (Ext.offB hb fun _ _ h => h), fun x hx => OneL.ext (h.ol x hx) (Ext.offB hb fun _ _ h => h)⟩
theorem OwnSt.other {base n g p : Nat} {w : World} {u vb vl : Value} {B : List Bnd} {L : List Lcl} (h : OwnSt base n w vb vl B L) (hg : g < base) : OwnSt base n (w.setCell ⟨g, p, none⟩ u) vb vl B L :=
  ⟨h.le, by simpa [World.setCell] using h.sz, h.rb.other (fun e => by have := (RowK.blk h.rb _ e).1; omega), h.rl.other (fun e => by have := (RowK.blk h.rl _ e).1; omega), h.nb, h.nl, h.ne,
    fun x hx => OneB.ext (h.ob x hx) (Ext.off (by simp [World.setCell]) (fun k hk hS => set_blk w g p u k (by have := oldB_not hS; have := h.le; omega)) fun _ _ h => h),
    fun x hx => OneL.ext (h.ol x hx) (Ext.off (by simp [World.setCell]) (fun k hk hS => set_blk w g p u k (by have := oldB_not hS; have := h.le; omega)) fun _ _ h => h)⟩
theorem OwnSt.fr {base n : Nat} {w : World} {vb vl : Value} {B : List Bnd} {L : List Lcl} {d : Bool} (h : OwnSt base n w vb vl B L) : StFr base w (.agg #[.bool d, vb, vl]) ⟨d, bndOf B, lclOf L⟩ :=
  ⟨_, _, B, L, rfl, rfl, rfl, ⟨h.rb.atH bc_len, fun x hx => OneB.ext (h.ob x hx) (Ext.holes _ fun k hk => oldB_no (Nat.le_trans h.le (oldB_not hk)))⟩, ⟨h.rl.atH lc_len, fun x hx => OneL.ext (h.ol x hx) (Ext.holes _ fun k hk => oldB_no (Nat.le_trans h.le (oldB_not hk)))⟩⟩
theorem OwnSt.bs {base n : Nat} {w : World} {vb vl : Value} {B : List Bnd} {L : List Lcl} (h : OwnSt base n w vb vl B L) : BsAt w vb B := ⟨h.rb.at bc_len, fun x hx => OneB.ext (h.ob x hx) (Ext.hole _ _)⟩
theorem OwnSt.ls {base n : Nat} {w : World} {vb vl : Value} {B : List Bnd} {L : List Lcl} (h : OwnSt base n w vb vl B L) : LsAt w vl L := ⟨h.rl.at lc_len, fun x hx => OneL.ext (h.ol x hx) (Ext.hole _ _)⟩
/-- a variable has been put -/
theorem OwnSt.putB {base n : Nat} {w w' : World} {vb vl v' : Value} {B B' : List Bnd} {L : List Lcl} {x : Bnd} {d : Bool} (h : OwnSt base n w vb vl B L) (hx : OneB (hole (oldB n) w) x) (hr : RowK 47 2 bc base w' v' B') (hm : ∀ y ∈ B', y ∈ B ∨ y = x) (ho : OffG vb.ownBlock w w') : StFr base w' (.agg #[.bool d, v', vl]) ⟨d, bndOf B', lclOf L⟩ := by
  have hn : ∀ k, k < w.heap.size → oldB n k = false → w'.heap[k]? = w.heap[k]? := fun k hk hS => ho.2 k hk fun e => by have := h.nb k e.symm; have := oldB_not hS; omega
  have hh : ∀ k, k < w.heap.size → oldB n k = false → oldB base k = false := fun k _ hS => oldB_no (Nat.le_trans h.le (oldB_not hS))
  refine ⟨_, _, B', L, rfl, rfl, rfl, ⟨hr.atH bc_len, fun y hy => ?_⟩, ⟨(RowK.off h.rl fun g hg => ho.2 g (RowK.blk h.rl g hg).2 (fun e => h.ne g e.symm hg)).atH lc_len, fun y hy => OneL.ext (h.ol y hy) (Ext.off ho.1 hn hh)⟩⟩
  rcases hm y hy with h1 | h1
  · exact OneB.ext (h.ob y h1) (Ext.off ho.1 hn hh)
  · rw [h1]; exact OneB.ext hx (Ext.off ho.1 hn hh)
/-- an object has been put -/
theorem OwnSt.putL {base n : Nat} {w w' : World} {vb vl v' : Value} {B : List Bnd} {L L' : List Lcl} {x : Lcl} {d : Bool} (h : OwnSt base n w vb vl B L) (hx : OneL (hole (oldB n) w) x) (hr : RowK 36 4 lc base w' v' L') (hm : ∀ y ∈ L', y ∈ L ∨ y = x) (ho : OffG vl.ownBlock w w') : StFr base w' (.agg #[.bool d, vb, v']) ⟨d, bndOf B, lclOf L'⟩ := by
  have hn : ∀ k, k < w.heap.size → oldB n k = false → w'.heap[k]? = w.heap[k]? := fun k hk hS => ho.2 k hk fun e => by have := h.nl k e.symm; have := oldB_not hS; omega
  have hh : ∀ k, k < w.heap.size → oldB n k = false → oldB base k = false := fun k _ hS => oldB_no (Nat.le_trans h.le (oldB_not hS))
  refine ⟨_, _, B, L', rfl, rfl, rfl, ⟨(RowK.off h.rb fun g hg => ho.2 g (RowK.blk h.rb g hg).2 (fun e => h.ne g hg e.symm)).atH bc_len, fun y hy => OneB.ext (h.ob y hy) (Ext.off ho.1 hn hh)⟩, ⟨hr.atH lc_len, fun y hy => ?_⟩⟩
  rcases hm y hy with h1 | h1
  · exact OneL.ext (h.ol y h1) (Ext.off ho.1 hn hh)
  · rw [h1]; exact OneL.ext hx (Ext.off ho.1 hn hh)
theorem box3_put {w : World} {g : Nat} {T : TypeId} {v0 v1 v2 : Value} (h : w.heap[g]? = some (.cells #[v0, v1, v2] T (0, 0))) (u0 u1 u2 : Value) :
    (((w.setCell ⟨g, 0, none⟩ u0).setCell ⟨g, 1, none⟩ u1).setCell ⟨g, 2, none⟩ u2).heap[g]? = some (.cells #[u0, u1, u2] T (0, 0)) := box_put (box_put (box_put h u0) u1) u2
theorem set3k {w W : World} {B g : Nat} (h : Below B w W) (hg : B ≤ g) (u v x : Value) : Below B w (((W.setCell ⟨g, 0, none⟩ u).setCell ⟨g, 1, none⟩ v).setCell ⟨g, 2, none⟩ x) :=
  ((h.setCell (p := ⟨g, 0, none⟩) hg u).setCell (p := ⟨g, 1, none⟩) hg v).setCell (p := ⟨g, 2, none⟩) hg x
theorem blk3 {w : World} {g k : Nat} (h : k ≠ g) (u v x : Value) : (((w.setCell ⟨g, 0, none⟩ u).setCell ⟨g, 1, none⟩ v).setCell ⟨g, 2, none⟩ x).heap[k]? = w.heap[k]? := by
  rw [set_blk _ _ _ _ _ h, set_blk _ _ _ _ _ h, set_blk _ _ _ _ _ h]
theorem size3 {w : World} {g : Nat} (u v x : Value) : (((w.setCell ⟨g, 0, none⟩ u).setCell ⟨g, 1, none⟩ v).setCell ⟨g, 2, none⟩ x).heap.size = w.heap.size := by simp [World.setCell]
set_option maxHeartbeats 8000000 in
set_option maxRecDepth 100000 in
theorem sset_any (w : World) (v : Value) (s : M.Sta) (n : ByteArray) (vv : Value) (l : List M.Atm) (h : StAt w v s) (hA : AtAt w vv l) (hK : M.SmSt 100000 s) (hl : l.length ≤ 100000) :
    Calls Tryz.prog 42 #[v, .string n, vv] w fun e w' => ∃ v', e = .returned v' ∧ StFr w.heap.size w' v' (if M.maySt s then M.setS s n l else M.zeroSt) ∧ Below w.heap.size w w' := by
  have mixed := mixedP
  obtain ⟨res, hres⟩ : ∃ r, (if M.maySt s then M.setS s n l else M.zeroSt) = r := ⟨_, rfl⟩
  rw [hres]
  have HRES := hid hres
  clear hres
  obtain ⟨a, c, b, d, rfl⟩ := h.form
  obtain ⟨dd, hdd⟩ : ∃ x, s.dead = x := ⟨_, rfl⟩
  rw [hdd] at h ⊢
  have HDD := hid hdd
  have TS := hid h
  have TA := hid hA
  have HK := hid hK
  clear h hK hdd
  obtain ⟨a5, c5, rfl⟩ := hA.form
  clear hA
  obtain ⟨V0, hV0⟩ : ∃ W, w.alloc (.cells #[.bool dd, .slice a s.vs.length c, .slice b s.ls.length d] 25) = W := ⟨_, rfl⟩
  have bV0 : Below w.heap.size w V0 := by rw [← hV0]; exact (gr_new _ _).below
  have sV0 : V0.heap.size = w.heap.size + 1 := by rw [← hV0]; simp
  have pA1 : V0.heap[w.heap.size]? = some (.cells #[.bool dd, .slice a s.vs.length c, .slice b s.ls.length d] 25 (0, 0)) := by rw [← hV0]; exact new_at _ _
  obtain ⟨V1, hV1⟩ : ∃ W, V0.alloc (.cells #[.bool false, .slice none 0 0, .slice none 0 0] 25) = W := ⟨_, rfl⟩
  have bV1 : Below V0.heap.size V0 V1 := by rw [← hV1]; exact (gr_new _ _).below
  have sV1 : V1.heap.size = V0.heap.size + 1 := by rw [← hV1]; simp
  have pA2 : V1.heap[V0.heap.size]? = some (.cells #[.bool false, .slice none 0 0, .slice none 0 0] 25 (0, 0)) := by rw [← hV1]; exact new_at _ _
  have PA1 : Hid (V1.heap[w.heap.size]? = some (.cells #[.bool dd, .slice a s.vs.length c, .slice b s.ls.length d] 25 (0, 0))) := by
    have := (kept pA1 (by omega) bV1)
    rw [show w.heap.size = w.heap.size by omega] at this
    exact this
  have PA2 : Hid (V1.heap[w.heap.size + 1]? = some (.cells #[.bool false, .slice none 0 0, .slice none 0 0] 25 (0, 0))) := by
    have := pA2
    rw [show V0.heap.size = w.heap.size + 1 by omega] at this
    exact this
  have B0 : Hid (Below w.heap.size w V1) := (bV0.trans (bV1.mono (by omega)))
  have hz : w.heap.size + 2 = V1.heap.size := by omega
  clear bV0 bV1 pA1 pA2
  obtain ⟨xA10, xA11, xA12, _⟩ := cells3 PA1.out
  have KA := smay_any V1 _ s (TS.out.bel B0.out |> fun h => by rw [← HDD.out] at h; exact h) HK.out
  rw [HDD.out] at KA
  clear sV0 sV1
  rw [← hV0] at hV1
  clear hV0
  cases hms : M.maySt s with
  | false =>
    rw [hms] at KA
    have HKA := hid KA
    have MS := hid hms
    clear KA hms
    go_enter Tryz.func42, Tryz.ntmps42
    go_wp2_with (go_at_call 30; refine stopHere ?_)
    refine stopAt ?_
    refine HKA.out.mono ?_
    rintro e w1 ⟨rfl, hb1⟩
    clear hV1 xA10 xA11 xA12
    have B1 : Hid (Below w.heap.size w w1) := B0.out.trans (hb1.mono B0.out.size)
    have hz1 := hb1.size
    obtain ⟨z1, z2, z3, zf⟩ := cells3 (kept PA2.out (by omega) hb1)
    go_wp2
    refine bodyPost_ret (v := .agg #[.bool false, .slice none 0 0, .slice none 0 0]) (by simp [results, Tryz.results42, go_sem, z1, z2, z3]) rfl ?_
    refine ⟨_, rfl, ?_, set3k B1.out (by omega) _ _ _⟩
    rw [← HRES.out, MS.out]
    exact stAt_zero _
  | true =>
    rw [hms] at KA
    have HKA := hid KA
    have MS := hid hms
    clear KA hms
    go_enter Tryz.func42, Tryz.ntmps42
    go_wp2_with (go_at_call 30; refine stopHere ?_)
    refine stopAt ?_
    refine HKA.out.mono ?_
    rintro e w1 ⟨rfl, hb1⟩
    clear hV1 xA10 xA11 xA12
    have B1 : Hid (Below w.heap.size w w1) := B0.out.trans (hb1.mono B0.out.size)
    have hz1 := hb1.size
    have QA1 := hid (kept PA1.out (by omega) hb1)
    have QA2 := hid (kept PA2.out (by omega) hb1)
    clear hb1
    obtain ⟨x1, x2, x3, _⟩ := cells3 QA1.out
    have KC := scopy_any w1 _ s (TS.out.bel B1.out |> fun h => by rw [← HDD.out] at h; exact h) HK.out
    rw [HDD.out] at KC
    have HKC := hid KC
    clear KC
    go_wp2_with (go_at_call 61; refine stopHere ?_)
    refine stopAt ?_
    refine HKC.out.mono ?_
    rintro e w3 ⟨vb, vl, B, L, N, rfl, hbv, hbl, hown, hb3⟩
    clear x1 x2 x3 HKC
    obtain ⟨qb, mb, rfl⟩ := RowK.form hown.rb
    obtain ⟨ql, ml, rfl⟩ := RowK.form hown.rl
    have HBV := hid hbv
    have HBL := hid hbl
    have B3 : Hid (Below w.heap.size w w3) := B1.out.trans (hb3.mono B1.out.size)
    have hz3 := hb3.size
    have OW := hid hown
    have SA1 := hid (kept QA1.out (by omega) hb3)
    have SA2 := hid (kept QA2.out (by omega) hb3)
    clear hbv hbl hown hb3
    obtain ⟨x1, x2, x3, xf⟩ := cells3 SA1.out
    have HM := hid ((M.maySt_iff s).1 MS.out)
    cases dd with
    | true =>
      have TA1 := hid (box3_put SA1.out (.bool true) (.slice qb B.length mb) (.slice ql L.length ml))
      have TA2 := hid ((blk3 (w := w3) (g := w.heap.size) (k := w.heap.size + 1) (by omega) (.bool true) (.slice qb B.length mb) (.slice ql L.length ml)).trans SA2.out)
      obtain ⟨y1, y2, y3, yf⟩ := cells3 TA1.out
      obtain ⟨z1, z2, z3, zf⟩ := cells3 TA2.out
      go_wp2
      refine bodyPost_ret (v := .agg #[.bool true, .slice qb B.length mb, .slice ql L.length ml]) (by simp [results, Tryz.results42, go_sem, z1, z2, z3, y1, y2, y3]) rfl ?_
      refine ⟨_, rfl, ?_, set3k (set3k B3.out (by omega) _ _ _) (by omega) _ _ _⟩
      have hfr : StFr w1.heap.size w3 (.agg #[.bool true, .slice qb B.length mb, .slice ql L.length ml]) ⟨true, bndOf B, lclOf L⟩ := OW.out.fr
      have hs : (⟨true, bndOf B, lclOf L⟩ : M.Sta) = res := by
        rw [← HRES.out, MS.out, HBV.out, HBL.out]
        show _ = M.setS s n l
        unfold M.setS
        rw [HDD.out, if_pos rfl]
        have := HDD.out
        obtain ⟨d0, v0, l0⟩ := s
        simp only at this
        rw [this]
      rw [hs] at hfr
      exact (((((((hfr.set (by omega)).set (by omega)).set (by omega)).set (g := w.heap.size + 1) (by omega)).set (g := w.heap.size + 1) (by omega)).set (g := w.heap.size + 1) (by omega)).mono (by omega))
    | false =>
      have TA1 := hid (box3_put SA1.out (.bool false) (.slice qb B.length mb) (.slice ql L.length ml))
      have TA2 := hid ((blk3 (w := w3) (g := w.heap.size) (k := w.heap.size + 1) (by omega) (.bool false) (.slice qb B.length mb) (.slice ql L.length ml)).trans SA2.out)
      have OW4 : Hid (OwnSt w1.heap.size N _ _ _ B L) := ((OW.out.other (g := w.heap.size) (p := 0) (u := .bool false) (by omega)).other (g := w.heap.size) (p := 1) (u := .slice qb B.length mb) (by omega)).other (g := w.heap.size) (p := 2) (u := .slice ql L.length ml) (by omega)
      have B4 := hid (set3k B3.out (g := w.heap.size) (by omega) (.bool false) (.slice qb B.length mb) (.slice ql L.length ml))
      have hz4 := size3 (w := w3) (g := w.heap.size) (.bool false) (.slice qb B.length mb) (.slice ql L.length ml)
      obtain ⟨y1, y2, y3, yf⟩ := cells3 TA1.out
      go_wp2_with fail
      generalize hW4 : ((w3.setCell ⟨w.heap.size, 0, none⟩ (.bool false)).setCell ⟨w.heap.size, 1, none⟩ (.slice qb B.length mb)).setCell ⟨w.heap.size, 2, none⟩ (.slice ql L.length ml) = W4 at *
      have hz5 : w.heap.size + 2 ≤ W4.heap.size := by omega
      clear hW4 x1 x2 x3 xf
      have KN : Hid (∀ W, Below W4.heap.size W4 W → Calls Tryz.prog 67 #[.slice a5 l.length c5] W fun e w' => ∃ v, e = .returned v ∧ AtAt w' v (M.norm l) ∧ Fresh W.heap.size v ∧ Below W.heap.size W w') := fun W hb => norm_new W _ l ((TA.out.bel B4.out).bel hb) hl
      have KT : Hid (∀ W q5 m5, Below W4.heap.size W4 W → Calls Tryz.prog 66 #[.slice qb B.length mb, .agg #[.string n, .slice q5 (M.norm l).length m5], fnByN] W fun e w' => ∃ v' B', e = .returned v' ∧ RowK 47 2 bc w1.heap.size w' v' B' ∧ bndOf B' = M.putK M.keyN n (M.norm l) (bndOf B) ∧ (∀ y ∈ B', y ∈ B ∨ y = ⟨n, M.norm l, q5, m5⟩) ∧ OffG (Value.slice qb B.length mb).ownBlock W w' ∧ Below w1.heap.size W w') := fun W q5 m5 hb =>
        putB_any W w1.heap.size _ B ⟨n, M.norm l, q5, m5⟩ (OW4.out.keep hb).rb (OW4.out.keep hb).bs (by have := hb.size; omega) (by have h1 := congrArg List.length HBV.out; rw [bndOf_len] at h1; have := HK.out.vl; omega) (by rw [HBV.out]; exact HM.out.vr)
      unfold fnByN at KT
      have hwW4 : w.heap.size < W4.heap.size := by omega
      go_region_law (first
        | (go_simp; go_at_call 67; refine (KN.out _ (Gr.refl W4).drew.below).mono ?_; rintro e w6 ⟨v6, rfl, hA6, hf6, hb6⟩; obtain ⟨q6, m6, rfl⟩ := hA6.form; obtain ⟨z1, z2, z3, zf⟩ := cells3 (kept TA1.out hwW4 ((Gr.refl W4).drew.below.trans hb6)))
        | (go_simp; go_at_call 66; refine (KT.out _ _ _ ((Gr.refl W4).drew.below.trans hb6)).mono ?_; rintro e w7 ⟨v7, B', rfl, hr7, hb7', hm7, ho7, hb7⟩; obtain ⟨q7, m7, rfl⟩ := RowK.form hr7; obtain ⟨u1, u2, u3, uf⟩ := cells3 (kept TA1.out (by omega) (((Gr.refl W4).drew.below.mono (by omega)).trans ((hb6.mono (by have : W4.drew.heap.size = W4.heap.size := rfl; omega)).trans hb7)))))
      all_goals
        have hbb : Below W4.heap.size W4 w6 := (Gr.refl W4).drew.below.trans hb6
        have hb67 : Below w1.heap.size W4 w7 := (hbb.mono (by omega)).trans hb7
        have hx6 : OneB (hole (oldB N) w6) ⟨n, M.norm l, q6, m6⟩ := OneB.fresh (x := ⟨n, M.norm l, q6, m6⟩) hA6 (hf6.mono (by
          have h1 : W4.drew.heap.size = W4.heap.size := rfl
          have h2 := OW4.out.sz
          omega))
        have hfr : StFr w1.heap.size w7 (.agg #[.bool false, .slice q7 B'.length m7, .slice ql L.length ml]) ⟨false, bndOf B', lclOf L⟩ := (OW4.out.keep hbb).putB hx6 hr7 hm7 ho7
        have UA1 := hid (box_put (p := 1) (kept TA1.out (by omega) hb67) (.slice q7 B'.length m7))
        have UA2 := hid ((set_blk w7 w.heap.size 1 (.slice q7 B'.length m7) (w.heap.size + 1) (by omega)).trans (kept TA2.out (by omega) hb67))
        have B7 := hid ((B4.out.trans (hb67.mono (by omega))).setCell (p := ⟨w.heap.size, 1, none⟩) (show w.heap.size ≤ w.heap.size from Nat.le_refl _) (.slice q7 B'.length m7))
        have F7 := hid (hfr.set (g := w.heap.size) (p := 1) (u := .slice q7 B'.length m7) (by omega))
        have hs : (⟨false, bndOf B', lclOf L⟩ : M.Sta) = res := by
          rw [← HRES.out, MS.out, hb7', HBV.out, HBL.out]
          show _ = M.setS s n l
          unfold M.setS
          rw [HDD.out]
          rfl
        have hz7 := hb67.size
        have hzS : (w7.setCell ⟨w.heap.size, 1, none⟩ (.slice q7 B'.length m7)).heap.size = w7.heap.size := by simp [World.setCell]
        rw [hs] at F7
        have HR7 := hid hr7
        clear hr7 hb7' hm7 ho7 hb7 hfr hx6 hA6 hb6 hbb hb67 hs z1 z2 z3 zf u1 u2 u3 uf y1 y2 y3 yf
        generalize w7.setCell ⟨w.heap.size, 1, none⟩ (.slice q7 B'.length m7) = W8 at *
        obtain ⟨y1, y2, y3, yf⟩ := cells3 UA1.out
        obtain ⟨z1, z2, z3, zf⟩ := cells3 UA2.out
        go_wp2
        refine bodyPost_ret (v := .agg #[.bool false, .slice q7 B'.length m7, .slice ql L.length ml]) (by simp [results, Tryz.results42, go_sem, z1, z2, z3, y1, y2, y3]) rfl ?_
        refine ⟨_, rfl, ?_, set3k B7.out (by omega) _ _ _⟩
        exact ((((F7.out.set (g := w.heap.size + 1) (by omega)).set (g := w.heap.size + 1) (by omega)).set (g := w.heap.size + 1) (by omega)).mono (by omega))
end Go.Proofs.YtbaaeobdjiglgaaGreat
