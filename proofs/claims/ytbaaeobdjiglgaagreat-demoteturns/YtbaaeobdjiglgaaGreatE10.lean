/-
  The walk of state.put. Conditions: rows of the call's own that rise, of at most 100000 elements.
-/
import Derived.Test.YtbaaeobdjiglgaaGreatE9
import Derived.Test.YtbaaeobdjiglgaaGreatE3
import Derived.Test.YtbaaeobdjiglgaaGreatE4
set_option linter.unusedVariables false
set_option linter.unusedSimpArgs false
namespace Go.Proofs.YtbaaeobdjiglgaaGreat
open Go.RowKit Go.Sort
namespace M
theorem placeK_le {κ ν : Type} [DecidableEq κ] (o : Key κ) {k : κ} : ∀ {l : List (κ × ν)} {i w : Nat}, w ≤ i → (placeK o k i w l).1 ≤ i + l.length
  | [], i, w, h => h
  | y :: r, i, w, h => by
    unfold placeK
    split
    · show i ≤ i + (r.length + 1); omega
    · split
      · have := placeK_le (k := k) o (l := r) (i := i + 1) (w := i + 1) (Nat.le_refl _)
        show _ ≤ i + (r.length + 1); omega
      · have := placeK_le (k := k) o (l := r) (i := i + 1) (w := w) (by omega)
        show _ ≤ i + (r.length + 1); omega
end M
theorem bndOf_ins (B : List Bnd) (p : Nat) (x : Bnd) : bndOf (B.take p ++ x :: B.drop p) = (bndOf B).take p ++ x.p :: (bndOf B).drop p := by simp [bndOf, List.map_take, List.map_drop]
theorem lclOf_ins (B : List Lcl) (p : Nat) (x : Lcl) : lclOf (B.take p ++ x :: B.drop p) = (lclOf B).take p ++ x.p :: (lclOf B).drop p := by simp [lclOf, List.map_take, List.map_drop]
theorem ins_mem {α : Type} {B : List α} {p : Nat} {x y : α} (h : y ∈ B.take p ++ x :: B.drop p) : y ∈ B ∨ y = x := by
  rcases List.mem_append.1 h with h | h
  · exact .inl (List.mem_of_mem_take h)
  · rcases List.mem_cons.1 h with h | h
    · exact .inr h
    · exact .inl (List.mem_of_mem_drop h)
theorem set_mem' {α : Type} {B : List α} {p : Nat} {x y : α} (h : y ∈ B.set p x) : y ∈ B ∨ y = x := by
  rcases List.mem_or_eq_of_mem_set h with h | h
  · exact .inl h
  · exact .inr h
theorem OffG.grown {g : Option Nat} {a b c : World} (h : OffG g a b) (k : b.grownBy c g) : OffG g a c := ⟨Nat.le_trans h.1 k.size, fun i hi hn => (k.block i (Nat.lt_of_lt_of_le hi h.1) hn).trans (h.2 i hi hn)⟩

set_option maxHeartbeats 4000000 in
set_option maxRecDepth 100000 in
theorem putB_any (w : World) (base : Nat) (v : Value) (B : List Bnd) (x : Bnd) (hrow : RowK 47 2 bc base w v B) (hat : BsAt w v B) (hbase : base ≤ w.heap.size) (hn : B.length ≤ 100000) (hr : M.RisK M.keyN (bndOf B)) :
    Calls Tryz.prog 66 #[v, bv x, fnByN] w fun e w' => ∃ v' B', e = .returned v' ∧ RowK 47 2 bc base w' v' B' ∧ bndOf B' = M.putK M.keyN x.nm x.vs (bndOf B) ∧ (∀ y ∈ B', y ∈ B ∨ y = x) ∧ OffG v.ownBlock w w' ∧ Below base w w' := by
  obtain ⟨q, m, rfl⟩ := hrow.form
  have HROW := hid hrow
  have HAT := hid hat
  have HPL := hid (M.put_place M.keyN (k := x.nm) (v := x.vs) hr)
  have HGET := hid (M.placeK_get M.keyN (k := x.nm) (l := bndOf B) (i := 0) (w := 0))
  have HLE := hid (M.placeK_le M.keyN (k := x.nm) (l := bndOf B) (i := 0) (w := 0) (Nat.le_refl _))
  have BLK := hid (RowK.blk hrow)
  clear hrow hat hr
  obtain ⟨W0, hW0⟩ : ∃ W0, w.alloc (.cells #[.string x.nm, .slice x.a x.vs.length x.c] 47) = W0 := ⟨_, rfl⟩
  have G0 : Hid (Gr w W0) := by unfold Hid; rw [← hW0]; exact gr_new _ _
  have P0 : Hid (W0.heap[w.heap.size]? = some (.cells #[.string x.nm, .slice x.a x.vs.length x.c] 47 (0, 0))) := by unfold Hid; rw [← hW0]; exact new_at _ _
  have hz : w.heap.size < W0.heap.size := by rw [← hW0]; simp
  have K := placeB_any W0 _ B x (HAT.out.bel G0.out.below) (by omega)
  obtain ⟨p, hp⟩ : ∃ p, (M.placeK M.keyN x.nm 0 0 (bndOf B)).1 = p := ⟨_, rfl⟩
  obtain ⟨th, hth⟩ : ∃ t, (M.placeK M.keyN x.nm 0 0 (bndOf B)).2 = t := ⟨_, rfl⟩
  rw [hp, hth] at K HPL HGET
  rw [hp] at HLE
  unfold fnByN bv at *
  have HK := hid K
  clear K hp
  obtain ⟨x1, x2, xf⟩ := cells2 P0.out
  go_enter Tryz.func66, Tryz.ntmps66
  go_wp2_with (go_at_call 85; refine stopHere ?_)
  refine stopAt ?_
  refine HK.out.mono ?_
  rintro e w1 ⟨rfl, hg1⟩
  clear hW0 x1 x2 xf
  have GW : Hid (Gr w w1) := G0.out.trans hg1
  have hz1 : w.heap.size < w1.heap.size := Nat.lt_of_lt_of_le hz hg1.below.size
  obtain ⟨x1, x2, xf⟩ := cells2 (kept P0.out hz hg1.below)
  have R1 := hid (HROW.out.keep GW.out.below)
  have HL : Hid ((bndOf B).length = B.length) := bndOf_len B
  cases th with
  | false =>
    have hple : p ≤ B.length := by have h1 := HLE.out; have h2 := HL.out; omega
    obtain ⟨W2, hW2⟩ : ∃ W2, w1.alloc (.cells #[.string x.nm, .slice x.a x.vs.length x.c] 47) = W2 := ⟨_, rfl⟩
    have hB2 : Below w1.heap.size w1 W2 := by rw [← hW2]; exact (gr_new _ _).below
    have hs2 : w1.heap.size < W2.heap.size := by rw [← hW2]; simp
    have hv : W2.heap[w1.heap.size]? = some (.cells #[.string x.nm, .slice x.a x.vs.length x.c] 47 (0, 0)) := by rw [← hW2]; exact new_at _ _
    have KI := hid (insertB_any W2 base _ B p w1.heap.size x (R1.out.keep hB2) (by omega) hple hn hv (fun e => by have := (BLK.out _ e).2; omega))
    have O2 : Hid (OffG (Value.slice q B.length m).ownBlock w W2) := ((OffG.refl _ w).bel GW.out.below).bel hB2
    have BB2 : Hid (Below base w W2) := ((GW.out.below.mono hbase).trans (hB2.mono (by omega)))
    clear hv hB2 hg1
    go_wp2_with (go_at_call 86; refine stopHere ?_)
    refine stopAt ?_
    refine KI.out.mono ?_
    rintro e w3 ⟨v3, rfl, hr3, hg3⟩
    clear hW2 x1 x2 xf
    obtain ⟨B', hB'⟩ : ∃ B', B.take p ++ x :: B.drop p = B' := ⟨_, rfl⟩
    rw [hB'] at hr3
    have HB' := hid hB'
    have HR3 := hid hr3
    have HG3 := hid hg3
    obtain ⟨q3, m3, rfl⟩ := hr3.form
    clear hr3 hg3 hB'
    go_wp2
    go_ret
    refine ⟨_, B', rfl, HR3.out, ?_, fun y hy => ins_mem (by rw [HB'.out]; exact hy), O2.out.grown HG3.out, BB2.out.grown HG3.out (by have := BB2.out.size; omega) (fun k hk => (BLK.out k hk).1)⟩
    rw [← HB'.out, bndOf_ins]
    exact HPL.out
  | true =>
    have hpl : p < B.length := by
      obtain ⟨p', h1, h2, _⟩ := HGET.out.2 rfl
      have h3 := HL.out
      omega
    obtain ⟨g, rfl⟩ := RowK.some R1.out (by omega)
    obtain ⟨ds, hgw, hgb, _, _, dz⟩ := RowK.cells bc_len R1.out
    have d1 := ds p hpl 0 _ rfl
    have d2 := ds p hpl 1 _ rfl
    simp only [Nat.add_zero] at d1
    have hpi : (p : Int) < (B.length : Int) := by omega
    clear ds hg1
    go_wp2
    go_ret
    refine ⟨_, B.set p x, rfl, ?_, ?_, fun y hy => set_mem' hy, ?_, ?_⟩
    · have r1 := RowK.set1 bc_len R1.out hpl (t := 0) (u := .string x.nm) ⟨x.nm, B[p].vs, B[p].a, B[p].c⟩ (by omega) rfl
      have r2 := RowK.set1 bc_len r1 (by rw [List.length_set]; exact hpl) (t := 1) (u := .slice x.a x.vs.length x.c) x (by omega) (by rw [List.getElem_set_self]; rfl)
      rw [List.set_set] at r2
      exact r2
    · unfold bndOf
      rw [List.map_set]
      exact HPL.out
    · exact ((OffG.refl _ w).bel GW.out.below).set.set
    · exact (((GW.out.below.mono hbase).setCell (p := ⟨g, p * 2, none⟩) (show base ≤ g from hgb) _).setCell (p := ⟨g, p * 2 + 1, none⟩) (show base ≤ g from hgb) _)

set_option maxHeartbeats 4000000 in
set_option maxRecDepth 100000 in
theorem putL_any (w : World) (base : Nat) (v : Value) (B : List Lcl) (x : Lcl) (hrow : RowK 36 4 lc base w v B) (hat : LsAt w v B) (hbase : base ≤ w.heap.size) (hn : B.length ≤ 100000) (hr : M.RisK M.keyA (lclOf B)) :
    Calls Tryz.prog 62 #[v, lv x, fnByA] w fun e w' => ∃ v' B', e = .returned v' ∧ RowK 36 4 lc base w' v' B' ∧ lclOf B' = M.putK M.keyA x.x x.s (lclOf B) ∧ (∀ y ∈ B', y ∈ B ∨ y = x) ∧ OffG v.ownBlock w w' ∧ Below base w w' := by
  obtain ⟨q, m, rfl⟩ := hrow.form
  have HROW := hid hrow
  have HAT := hid hat
  have HPL := hid (M.put_place M.keyA (k := x.x) (v := x.s) hr)
  have HGET := hid (M.placeK_get M.keyA (k := x.x) (l := lclOf B) (i := 0) (w := 0))
  have HLE := hid (M.placeK_le M.keyA (k := x.x) (l := lclOf B) (i := 0) (w := 0) (Nat.le_refl _))
  have BLK := hid (RowK.blk hrow)
  clear hrow hat hr
  obtain ⟨W0, hW0⟩ : ∃ W0, w.alloc (.cells #[.int .i64 x.x.k, .int .i64 x.x.n, .slice x.fa x.s.fs.length x.fn, .slice x.pa x.s.pr.length x.pn] 36) = W0 := ⟨_, rfl⟩
  have G0 : Hid (Gr w W0) := by unfold Hid; rw [← hW0]; exact gr_new _ _
  have P0 : Hid (W0.heap[w.heap.size]? = some (.cells #[.int .i64 x.x.k, .int .i64 x.x.n, .slice x.fa x.s.fs.length x.fn, .slice x.pa x.s.pr.length x.pn] 36 (0, 0))) := by unfold Hid; rw [← hW0]; exact new_at _ _
  have hz : w.heap.size < W0.heap.size := by rw [← hW0]; simp
  have K := placeL_any W0 _ B x (HAT.out.bel G0.out.below) (by omega)
  obtain ⟨p, hp⟩ : ∃ p, (M.placeK M.keyA x.x 0 0 (lclOf B)).1 = p := ⟨_, rfl⟩
  obtain ⟨th, hth⟩ : ∃ t, (M.placeK M.keyA x.x 0 0 (lclOf B)).2 = t := ⟨_, rfl⟩
  rw [hp, hth] at K HPL HGET
  rw [hp] at HLE
  unfold fnByA lv at *
  have HK := hid K
  clear K hp
  obtain ⟨x1, x2, x3, x4, xf⟩ := cells4 P0.out
  go_enter Tryz.func62, Tryz.ntmps62
  go_wp2_with (go_at_call 56; refine stopHere ?_)
  refine stopAt ?_
  refine HK.out.mono ?_
  rintro e w1 ⟨rfl, hg1⟩
  clear hW0 x1 x2 x3 x4 xf
  have GW : Hid (Gr w w1) := G0.out.trans hg1
  have hz1 : w.heap.size < w1.heap.size := Nat.lt_of_lt_of_le hz hg1.below.size
  obtain ⟨x1, x2, x3, x4, xf⟩ := cells4 (kept P0.out hz hg1.below)
  have R1 := hid (HROW.out.keep GW.out.below)
  have HL : Hid ((lclOf B).length = B.length) := lclOf_len B
  cases th with
  | false =>
    have hple : p ≤ B.length := by have h1 := HLE.out; have h2 := HL.out; omega
    obtain ⟨W2, hW2⟩ : ∃ W2, w1.alloc (.cells #[.int .i64 x.x.k, .int .i64 x.x.n, .slice x.fa x.s.fs.length x.fn, .slice x.pa x.s.pr.length x.pn] 36) = W2 := ⟨_, rfl⟩
    have hB2 : Below w1.heap.size w1 W2 := by rw [← hW2]; exact (gr_new _ _).below
    have hs2 : w1.heap.size < W2.heap.size := by rw [← hW2]; simp
    have hv : W2.heap[w1.heap.size]? = some (.cells #[.int .i64 x.x.k, .int .i64 x.x.n, .slice x.fa x.s.fs.length x.fn, .slice x.pa x.s.pr.length x.pn] 36 (0, 0)) := by rw [← hW2]; exact new_at _ _
    have KI := hid (insertL_any W2 base _ B p w1.heap.size x (R1.out.keep hB2) (by omega) hple hn hv (fun e => by have := (BLK.out _ e).2; omega))
    have O2 : Hid (OffG (Value.slice q B.length m).ownBlock w W2) := ((OffG.refl _ w).bel GW.out.below).bel hB2
    have BB2 : Hid (Below base w W2) := ((GW.out.below.mono hbase).trans (hB2.mono (by omega)))
    clear hv hB2 hg1
    go_wp2_with (go_at_call 84; refine stopHere ?_)
    refine stopAt ?_
    refine KI.out.mono ?_
    rintro e w3 ⟨v3, rfl, hr3, hg3⟩
    clear hW2 x1 x2 x3 x4 xf
    obtain ⟨B', hB'⟩ : ∃ B', B.take p ++ x :: B.drop p = B' := ⟨_, rfl⟩
    rw [hB'] at hr3
    have HB' := hid hB'
    have HR3 := hid hr3
    have HG3 := hid hg3
    obtain ⟨q3, m3, rfl⟩ := hr3.form
    clear hr3 hg3 hB'
    go_wp2
    go_ret
    refine ⟨_, B', rfl, HR3.out, ?_, fun y hy => ins_mem (by rw [HB'.out]; exact hy), O2.out.grown HG3.out, BB2.out.grown HG3.out (by have := BB2.out.size; omega) (fun k hk => (BLK.out k hk).1)⟩
    rw [← HB'.out, lclOf_ins]
    exact HPL.out
  | true =>
    have hpl : p < B.length := by
      obtain ⟨p', h1, h2, _⟩ := HGET.out.2 rfl
      have h3 := HL.out
      omega
    obtain ⟨g, rfl⟩ := RowK.some R1.out (by omega)
    obtain ⟨ds, hgw, hgb, _, _, dz⟩ := RowK.cells lc_len R1.out
    have d1 := ds p hpl 0 _ rfl
    have d2 := ds p hpl 1 _ rfl
    have d3 := ds p hpl 2 _ rfl
    have d4 := ds p hpl 3 _ rfl
    simp only [Nat.add_zero] at d1
    have hpi : (p : Int) < (B.length : Int) := by omega
    clear ds hg1
    go_wp2
    go_ret
    refine ⟨_, B.set p x, rfl, ?_, ?_, fun y hy => set_mem' hy, ?_, ?_⟩
    · have r1 := RowK.set1 lc_len R1.out hpl (t := 0) (u := .int .i64 x.x.k) ⟨⟨x.x.k, B[p].x.n⟩, B[p].s, B[p].fa, B[p].fn, B[p].pa, B[p].pn⟩ (by omega) rfl
      have r2 := RowK.set1 lc_len r1 (by rw [List.length_set]; exact hpl) (t := 1) (u := .int .i64 x.x.n) ⟨x.x, B[p].s, B[p].fa, B[p].fn, B[p].pa, B[p].pn⟩ (by omega) (by rw [List.getElem_set_self]; rfl)
      rw [List.set_set] at r2
      have r3 := RowK.set1 lc_len r2 (by rw [List.length_set]; exact hpl) (t := 2) (u := .slice x.fa x.s.fs.length x.fn) ⟨x.x, ⟨x.s.fs, B[p].s.pr⟩, x.fa, x.fn, B[p].pa, B[p].pn⟩ (by omega) (by rw [List.getElem_set_self]; rfl)
      rw [List.set_set] at r3
      have r4 := RowK.set1 lc_len r3 (by rw [List.length_set]; exact hpl) (t := 3) (u := .slice x.pa x.s.pr.length x.pn) x (by omega) (by rw [List.getElem_set_self]; rfl)
      rw [List.set_set] at r4
      exact r4
    · unfold lclOf
      rw [List.map_set]
      exact HPL.out
    · exact ((OffG.refl _ w).bel GW.out.below).set.set.set.set
    · exact (((((GW.out.below.mono hbase).setCell (p := ⟨g, p * 4, none⟩) (show base ≤ g from hgb) _).setCell (p := ⟨g, p * 4 + 1, none⟩) (show base ≤ g from hgb) _).setCell (p := ⟨g, p * 4 + 2, none⟩) (show base ≤ g from hgb) _).setCell (p := ⟨g, p * 4 + 3, none⟩) (show base ≤ g from hgb) _)
end Go.Proofs.YtbaaeobdjiglgaaGreat
